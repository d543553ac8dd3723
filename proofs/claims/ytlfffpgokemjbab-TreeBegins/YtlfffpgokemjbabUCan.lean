/- The reference's Can, by what Check tells: contract. -/
import Derived.Test.YtlfffpgokemjbabURef
import Derived.Test.YtlfffpgokemjbabRNum
namespace Go.Proofs.Ytlfffpgokemjbab.U
set_option maxRecDepth 100000
open Go Go.RowKit
set_option linter.unusedVariables false
/-- A format can hold an entry's time. -/
def CanE (f : Int) (m : En) : Prop := ¬ (f = 2 ∧ (m.time < -9000000000000000000 ∨ 9000000000000000000 < m.time)) ∧ ¬ (f = 1 ∧ T.ntb (m.time / 100 + 116444736000000000) = false)
def Can (c f : Int) (es : List En) : Prop := c = 0 ∧ 1 ≤ f ∧ f ≤ 3 ∧ ∀ m ∈ es, CanE f m
def CnOk (c f : Int) (es : List En) (w : World) (e : Ending) (w' : World) : Prop := ∃ b : Bool, e = .returned (.bool b) ∧ (b = true ↔ Can c f es) ∧ Below w.heap.size w w'
end Go.Proofs.Ytlfffpgokemjbab.U
