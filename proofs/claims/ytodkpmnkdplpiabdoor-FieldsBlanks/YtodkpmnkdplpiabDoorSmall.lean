/- PROVED: contracts of the program's small functions (lay, signed) and of the reference's add. -/
import Derived.Test.YtodkpmnkdplpiabDoorPure
import Derived.Test.YtodkpmnkdplpiabDoorRows
import Derived.WalkKit
import Derived.BigCall
import Derived.WalkSpells
import Derived.WalkLawsBesides
namespace Go.Proofs.YtodkpmnkdplpiabDoor
open Go Go.RowKit

theorem lay_yes {v b d : Nat} (h : 4611686018427387904 / b < v) : lay v b d = 4611686018427387905 := if_pos h
theorem lay_no {v b d : Nat} (h : ¬ 4611686018427387904 / b < v) : lay v b d = v * b + d := if_neg h
theorem add_yes {n b d : Nat} (h : n * b + d ≤ 4611686018427387904) : add (some n) b d = some (n * b + d) := if_pos h
theorem add_no {n b d : Nat} (h : ¬ n * b + d ≤ 4611686018427387904) : add (some n) b d = none := if_neg h
def Base (b : Nat) : Prop := b = 8 ∨ b = 10 ∨ b = 256

set_option maxRecDepth 100000 in
theorem lay_c (v b d : Nat) (hv : v < 18446744073709551616) (hb : Base b) (hd : d < b) (w : World) :
    Calls Tryd.prog 25 #[.int .u64 (v : Int), .int .u64 (b : Int), .int .u64 (d : Int)] w fun e w' => e = .returned (.int .u64 (lay v b d : Nat)) ∧ w' = w := by
  rcases hb with rfl | rfl | rfl
  all_goals
    go_enter Tryd.func25, Tryd.ntmps25
    go_wp2
    all_goals
      go_ret
      refine ⟨?_, rfl⟩
      first
        | (rw [lay_yes (by omega)]; rfl)
        | (rw [lay_no (by omega)]; rfl)

set_option maxRecDepth 100000 in
theorem signed_c (neg : Bool) (v : Nat) (hv : v < 18446744073709551616) (w : World) :
    Calls Tryd.prog 12 #[.bool neg, .int .u64 (v : Int)] w fun e w' => e = .returned (.tuple #[.int .i64 (sgn neg v).1, .int .i64 (sgn neg v).2]) ∧ w' = w := by
  cases neg
  all_goals
    go_enter Tryd.func12, Tryd.ntmps12
    go_wp2
    all_goals
      go_ret2
      refine ⟨?_, rfl⟩
      unfold sgn
      first
        | (rw [if_pos (by omega)]; rfl)
        | (rw [if_neg (by omega)]; rfl)
        | (rw [if_neg (by omega)]; simp)

end Go.Proofs.YtodkpmnkdplpiabDoor
