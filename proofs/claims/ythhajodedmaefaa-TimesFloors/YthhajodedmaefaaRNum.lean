/- The reference's FromUnix, ToUnix, FromNt, ToNt: contracts. -/
import Derived.Test.YthhajodedmaefaaPNum
import Derived.Test.YthhajodedmaefaaTRef
namespace Go.Proofs.Ythhajodedmaefaa.T
set_option maxRecDepth 100000
open Go Go.RowKit
set_option linter.unusedVariables false
theorem rfromUnix_c (s : Int) (w : World) : Calls Try.prog 24 #[.int .i64 s] w fun e w' => e = .returned (.tuple #[.int .i64 (pv s 1000000000), .bool (pb s 1000000000)]) ∧ w' = w := by
  rcases (by omega : s < -9223372036 ∨ (¬ s < -9223372036 ∧ 9223372036 < s) ∨ (¬ s < -9223372036 ∧ ¬ 9223372036 < s)) with h | ⟨h, h'⟩ | ⟨h, h'⟩
  · have n : ¬ F64 (s * 1000000000) := fun q => by have := q.1; omega
    rw [show pv s 1000000000 = 0 from if_neg n, show pb s 1000000000 = false from decide_eq_false n]
    clear n
    go_enter Try.func24, Try.ntmps24
    go_wp2_with fail
    all_goals go_ret2
    all_goals exact ⟨rfl, rfl⟩
  · have n : ¬ F64 (s * 1000000000) := fun q => by have := q.2; omega
    rw [show pv s 1000000000 = 0 from if_neg n, show pb s 1000000000 = false from decide_eq_false n]
    clear n
    go_enter Try.func24, Try.ntmps24
    go_wp2_with fail
    all_goals go_ret2
    all_goals exact ⟨rfl, rfl⟩
  · have y : F64 (s * 1000000000) := ⟨by omega, by omega⟩
    rw [show pv s 1000000000 = s * 1000000000 from if_pos y, show pb s 1000000000 = true from decide_eq_true y]
    clear y
    go_enter Try.func24, Try.ntmps24
    go_wp2_with fail
    all_goals go_ret2
    all_goals exact ⟨rfl, rfl⟩
theorem rtoUnix_c (t : Int) (w : World) (ht : -9223372036854775808 ≤ t) (ht2 : t ≤ 9223372036854775807) : Calls Try.prog 26 #[.int .i64 t] w fun e w' => e = .returned (.int .i64 (t / 1000000000)) ∧ w' = w := by
  have HP := hide (down_c t 1000000000 w (by omega) ht ht2 (by omega))
  generalize t / 1000000000 = v at *
  go_enter Try.func26, Try.ntmps26
  go_wp2_with (go_at_call 34; refine HP.out.mono ?_; rintro e w1 ⟨rfl, hw⟩; obtain rfl := hw.symm; clear HP)
  go_ret
  exact ⟨rfl, rfl⟩
theorem rtoNt_c (t : Int) (w : World) (ht : -9223372036854775808 ≤ t) (ht2 : t ≤ 9223372036854775807) : Calls Try.prog 22 #[.int .i64 t] w fun e w' => e = .returned (.int .u64 (t / 100 + 116444736000000000)) ∧ w' = w := by
  have HP := hide (down_c t 100 w (by omega) ht ht2 (by omega))
  have hb : -92233720368547759 ≤ t / 100 ∧ t / 100 ≤ 92233720368547758 := by omega
  generalize t / 100 = v at *
  go_enter Try.func22, Try.ntmps22
  go_wp2_with (go_at_call 34; refine HP.out.mono ?_; rintro e w1 ⟨rfl, hw⟩; obtain rfl := hw.symm; clear HP)
  go_ret
  exact ⟨rfl, rfl⟩
theorem rfromNt_c (v : Int) (w : World) (hv : 0 ≤ v) (hv2 : v ≤ 18446744073709551615) : Calls Try.prog 20 #[.int .u64 v] w fun e w' => e = .returned (.tuple #[.int .i64 (ntv v), .bool (ntb v)]) ∧ w' = w := by
  rcases (by omega : v < 24211015631452242 ∨ (¬ v < 24211015631452242 ∧ 208678456368547758 < v) ∨ (¬ v < 24211015631452242 ∧ ¬ 208678456368547758 < v)) with h | ⟨h, h'⟩ | ⟨h, h'⟩
  · have n : ¬ ntF v := fun q => by have := q.1; omega
    rw [show ntv v = 0 from if_neg n, show ntb v = false from decide_eq_false n]
    clear n
    go_enter Try.func20, Try.ntmps20
    go_wp2_with fail
    all_goals go_ret2
    all_goals exact ⟨rfl, rfl⟩
  · have n : ¬ ntF v := fun q => by have := q.2; omega
    rw [show ntv v = 0 from if_neg n, show ntb v = false from decide_eq_false n]
    clear n
    go_enter Try.func20, Try.ntmps20
    go_wp2_with fail
    all_goals go_ret2
    all_goals exact ⟨rfl, rfl⟩
  · have y : ntF v := ⟨by omega, by omega⟩
    rw [show ntv v = _ from if_pos y, show ntb v = true from decide_eq_true y]
    clear y
    have hb : v ≤ 208678456368547758 := by omega
    go_enter Try.func20, Try.ntmps20
    go_wp2_with fail
    all_goals go_ret2
    all_goals exact ⟨rfl, rfl⟩
end Go.Proofs.Ythhajodedmaefaa.T
