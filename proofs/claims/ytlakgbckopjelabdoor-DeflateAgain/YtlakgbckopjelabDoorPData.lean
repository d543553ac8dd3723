/- The stream's data: contract. -/
import Derived.Test.YtlakgbckopjelabDoorG12PRunW
namespace Go.Proofs.YtlakgbckopjelabDoor
set_option maxRecDepth 100000
open Go Go.RowKit

section
variable {B bs br : Nat} {a : Option Addr} {len cap : Nat} {zs : List Int} {m : Nat} {w : World} {p : Nat} {o : Option Addr} {oc : Nat} {fc : Value} {out : List Int}
end
end Go.Proofs.YtlakgbckopjelabDoor
