/- PROVED: contracts of the program's small functions (lay, signed) and of the reference's add. -/
import Derived.Test.YtodkpmnkdplpiaaDoorPure
import Derived.Test.YtodkpmnkdplpiaaDoorRows
import Derived.WalkKit
import Derived.BigCall
import Derived.WalkSpells
import Derived.WalkLawsBesides
namespace Go.Proofs.YtodkpmnkdplpiaaDoor
open Go Go.RowKit

theorem lay_yes {v b d : Nat} (h : 4611686018427387904 / b < v) : lay v b d = 4611686018427387905 := if_pos h
theorem lay_no {v b d : Nat} (h : ¬ 4611686018427387904 / b < v) : lay v b d = v * b + d := if_neg h
theorem add_yes {n b d : Nat} (h : n * b + d ≤ 4611686018427387904) : add (some n) b d = some (n * b + d) := if_pos h
theorem add_no {n b d : Nat} (h : ¬ n * b + d ≤ 4611686018427387904) : add (some n) b d = none := if_neg h
def Base (b : Nat) : Prop := b = 8 ∨ b = 10 ∨ b = 256

set_option maxRecDepth 100000 in
theorem lay_c (v b d : Nat) (hv : v < 18446744073709551616) (hb : Base b) (hd : d < b) (w : World) :
    Calls Tryd.prog 41 #[.int .u64 (v : Int), .int .u64 (b : Int), .int .u64 (d : Int)] w fun e w' => e = .returned (.int .u64 (lay v b d : Nat)) ∧ w' = w := by
  rcases hb with rfl | rfl | rfl
  all_goals
    go_enter Tryd.func41, Tryd.ntmps41
    go_wp2
    all_goals
      go_ret
      refine ⟨?_, rfl⟩
      first
        | (rw [lay_yes (by omega)]; rfl)
        | (rw [lay_no (by omega)]; rfl)

set_option maxRecDepth 100000 in
theorem signed_c (neg : Bool) (v : Nat) (hv : v < 18446744073709551616) (w : World) :
    Calls Tryd.prog 24 #[.bool neg, .int .u64 (v : Int)] w fun e w' => e = .returned (.tuple #[.int .i64 (sgn neg v).1, .int .i64 (sgn neg v).2]) ∧ w' = w := by
  cases neg
  all_goals
    go_enter Tryd.func24, Tryd.ntmps24
    go_wp2
    all_goals
      go_ret2
      refine ⟨?_, rfl⟩
      unfold sgn
      first
        | (rw [if_pos (by omega)]; rfl)
        | (rw [if_neg (by omega)]; rfl)
        | (rw [if_neg (by omega)]; simp)

set_option maxRecDepth 100000 in
theorem add_c (o : Option Nat) (ho : ∀ n, o = some n → n ≤ 4611686018427387904) (b d : Nat) (hb : Base b) (hd : d < b) (w : World) :
    Calls Tryd.prog 29 #[.int .i64 (en o), .int .i64 (b : Int), .int .i64 (d : Int)] w fun e w' => e = .returned (.int .i64 (en (add o b d))) ∧ w' = w := by
  cases o with
  | none =>
    rcases hb with rfl | rfl | rfl
    all_goals
      go_enter Tryd.func29, Tryd.ntmps29
      go_wp2
      all_goals
        go_ret
        exact ⟨rfl, rfl⟩
  | some n =>
    have hn := ho n rfl
    clear ho
    rcases hb with rfl | rfl | rfl
    all_goals
      show Calls _ _ #[.int .i64 (n : Int), _, _] _ _
      go_enter Tryd.func29, Tryd.ntmps29
      go_wp2
      all_goals
        go_ret
        refine ⟨?_, rfl⟩
        first
          | (rw [add_yes (by omega)]; rfl)
          | (rw [add_no (by omega)]; rfl)
end Go.Proofs.YtodkpmnkdplpiaaDoor
