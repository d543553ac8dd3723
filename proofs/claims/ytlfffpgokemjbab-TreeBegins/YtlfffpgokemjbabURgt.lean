/- The reference's right: contract. -/
import Derived.Test.YtlfffpgokemjbabURef
import Derived.Test.YtlfffpgokemjbabERef
namespace Go.Proofs.Ytlfffpgokemjbab.U
set_option maxRecDepth 100000
open Go Go.RowKit
set_option linter.unusedVariables false
/-- An entry may be, by itself. -/
def Right (m : En) : Prop := E.cln m.path.data.toList = some m.path.data.toList ∧ (0 ≤ m.mode ∧ m.mode ≤ 4095) ∧
  ((m.kind = 1 ∧ m.target.toList = []) ∨ (m.kind = 2 ∧ m.data.toList = [] ∧ m.target.toList = []) ∨
    (m.kind = 3 ∧ m.data.toList = [] ∧ m.target.toList ≠ [] ∧ m.target.size ≤ 200 ∧ (∀ i (h : i < m.target.size), (m.target[i]'h).toNat ≠ 0) ∧ E.vld m.target.data.toList = true))
def RtOk (m : En) (w : World) (e : Ending) (w' : World) : Prop := ∃ b : Bool, e = .returned (.bool b) ∧ (b = true ↔ Right m) ∧ Below w.heap.size w w'
theorem tx_list (s : ByteArray) : E.tx s.data.toList = s := by cases s; rfl
end Go.Proofs.Ytlfffpgokemjbab.U
