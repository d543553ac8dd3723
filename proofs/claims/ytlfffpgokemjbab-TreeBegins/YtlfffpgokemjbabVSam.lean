/- slices.Equal of entries, and the program's Same: contracts. -/
import Derived.Test.YtlfffpgokemjbabURef
namespace Go.Proofs.Ytlfffpgokemjbab.U
set_option maxRecDepth 100000
open Go Go.RowKit
set_option linter.unusedVariables false
end Go.Proofs.Ytlfffpgokemjbab.U
