/- The reference's long, year, month, down: contracts. -/
import Derived.Test.YtlfffpgokemjbabTBase
import Derived.Great.BuildSlice
namespace Go.Proofs.Ytlfffpgokemjbab.T
set_option maxRecDepth 100000
open Go Go.RowKit
set_option linter.unusedVariables false
def tbZ : List Int := [0, 31, 28, 31, 30, 31, 30, 31, 31, 30, 31, 30, 31]
def BB : Ending → Int → World → World → Prop := fun e x w w' => e = .returned (.int .i64 x) ∧ Below w.heap.size w w'
end Go.Proofs.Ytlfffpgokemjbab.T
