/- The program's Floor: contract. -/
import Derived.Test.YtlfffpgokemjbaaPNum
namespace Go.Proofs.Ytlfffpgokemjbaa.T
set_option maxRecDepth 100000
open Go Go.RowKit
set_option linter.unusedVariables false
theorem tfloor_c (t k : Int) (w : World) (ht : -9223372036854775808 ≤ t) (ht2 : t ≤ 9223372036854775807) (hk2 : k ≤ 9223372036854775807) : Calls Try.prog 37 #[.int .i64 t, .int .i64 k] w fun e w' => e = .returned (.int .i64 (flo t k)) ∧ w' = w := by
  by_cases hk : k < 1
  · rw [show flo t k = t from if_pos hk]
    go_enter Try.func37, Try.ntmps37
    go_wp2_with fail
    go_ret
    exact ⟨rfl, rfl⟩
  · have hk1 : 1 ≤ k := by omega
    have HQ := hide (quotient_c t k w hk1 ht ht2 hk2)
    have HP := hide (product_c (t / k) k w hk1)
    have hle := Int.ediv_mul_le t (show k ≠ 0 by omega)
    have hF : (pb (t / k) k = true ∧ pv (t / k) k = flo t k) ∨ (pb (t / k) k = false ∧ t = flo t k) := by
      unfold flo
      rw [if_neg hk]
      by_cases h : t / k * k < -9223372036854775808
      · rw [if_pos h]
        exact .inr ⟨decide_eq_false (fun q => by have := q.1; omega), rfl⟩
      · rw [if_neg h]
        have y : F64 (t / k * k) := ⟨by omega, by omega⟩
        exact .inl ⟨decide_eq_true y, if_pos y⟩
    clear hle
    generalize t / k = q at *
    rcases hF with ⟨h1, h2⟩ | ⟨h1, h2⟩
    · rw [h1, h2] at HP
      clear h1 h2
      generalize flo t k = f at *
      go_enter Try.func37, Try.ntmps37
      go_wp2_with (first | (go_at_call 53; refine HQ.out.mono ?_; rintro e w1 ⟨rfl, hw⟩; obtain rfl := hw.symm; clear HQ) | (go_at_call 52; refine HP.out.mono ?_; rintro e w1 ⟨rfl, hw⟩; obtain rfl := hw.symm; clear HP))
      go_ret
      exact ⟨rfl, rfl⟩
    · rw [h1] at HP
      rw [← h2]
      clear h1 h2
      generalize pv q k = f at *
      go_enter Try.func37, Try.ntmps37
      go_wp2_with (first | (go_at_call 53; refine HQ.out.mono ?_; rintro e w1 ⟨rfl, hw⟩; obtain rfl := hw.symm; clear HQ) | (go_at_call 52; refine HP.out.mono ?_; rintro e w1 ⟨rfl, hw⟩; obtain rfl := hw.symm; clear HP))
      go_ret
      exact ⟨rfl, rfl⟩
end Go.Proofs.Ytlfffpgokemjbaa.T
