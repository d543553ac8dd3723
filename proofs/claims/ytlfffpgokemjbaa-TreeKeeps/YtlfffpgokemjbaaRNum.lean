/- The reference's FromUnix, ToUnix, FromNt, ToNt: contracts. -/
import Derived.Test.YtlfffpgokemjbaaPNum
import Derived.Test.YtlfffpgokemjbaaTRef
namespace Go.Proofs.Ytlfffpgokemjbaa.T
set_option maxRecDepth 100000
open Go Go.RowKit
set_option linter.unusedVariables false
theorem rtoNt_c (t : Int) (w : World) (ht : -9223372036854775808 ≤ t) (ht2 : t ≤ 9223372036854775807) : Calls Try.prog 36 #[.int .i64 t] w fun e w' => e = .returned (.int .u64 (t / 100 + 116444736000000000)) ∧ w' = w := by
  have HP := hide (down_c t 100 w (by omega) ht ht2 (by omega))
  have hb : -92233720368547759 ≤ t / 100 ∧ t / 100 ≤ 92233720368547758 := by omega
  generalize t / 100 = v at *
  go_enter Try.func36, Try.ntmps36
  go_wp2_with (go_at_call 51; refine HP.out.mono ?_; rintro e w1 ⟨rfl, hw⟩; obtain rfl := hw.symm; clear HP)
  go_ret
  exact ⟨rfl, rfl⟩
theorem rfromNt_c (v : Int) (w : World) (hv : 0 ≤ v) (hv2 : v ≤ 18446744073709551615) : Calls Try.prog 35 #[.int .u64 v] w fun e w' => e = .returned (.tuple #[.int .i64 (ntv v), .bool (ntb v)]) ∧ w' = w := by
  rcases (by omega : v < 24211015631452242 ∨ (¬ v < 24211015631452242 ∧ 208678456368547758 < v) ∨ (¬ v < 24211015631452242 ∧ ¬ 208678456368547758 < v)) with h | ⟨h, h'⟩ | ⟨h, h'⟩
  · have n : ¬ ntF v := fun q => by have := q.1; omega
    rw [show ntv v = 0 from if_neg n, show ntb v = false from decide_eq_false n]
    clear n
    go_enter Try.func35, Try.ntmps35
    go_wp2_with fail
    all_goals go_ret2
    all_goals exact ⟨rfl, rfl⟩
  · have n : ¬ ntF v := fun q => by have := q.2; omega
    rw [show ntv v = 0 from if_neg n, show ntb v = false from decide_eq_false n]
    clear n
    go_enter Try.func35, Try.ntmps35
    go_wp2_with fail
    all_goals go_ret2
    all_goals exact ⟨rfl, rfl⟩
  · have y : ntF v := ⟨by omega, by omega⟩
    rw [show ntv v = _ from if_pos y, show ntb v = true from decide_eq_true y]
    clear y
    have hb : v ≤ 208678456368547758 := by omega
    go_enter Try.func35, Try.ntmps35
    go_wp2_with fail
    all_goals go_ret2
    all_goals exact ⟨rfl, rfl⟩
end Go.Proofs.Ytlfffpgokemjbaa.T
