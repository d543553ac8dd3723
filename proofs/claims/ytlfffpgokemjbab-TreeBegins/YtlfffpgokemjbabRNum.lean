/- The reference's FromUnix, ToUnix, FromNt, ToNt: contracts. -/
import Derived.Test.YtlfffpgokemjbabPNum
import Derived.Test.YtlfffpgokemjbabTRef
namespace Go.Proofs.Ytlfffpgokemjbab.T
set_option maxRecDepth 100000
open Go Go.RowKit
set_option linter.unusedVariables false
end Go.Proofs.Ytlfffpgokemjbab.T
