/- The reference's long, year, month, down: contracts. -/
import Derived.Test.YtlfffpgokemjbaaTBase
import Derived.Great.BuildSlice
namespace Go.Proofs.Ytlfffpgokemjbaa.T
set_option maxRecDepth 100000
open Go Go.RowKit
set_option linter.unusedVariables false
def tbZ : List Int := [0, 31, 28, 31, 30, 31, 30, 31, 31, 30, 31, 30, 31]
def BB : Ending → Int → World → World → Prop := fun e x w w' => e = .returned (.int .i64 x) ∧ Below w.heap.size w w'
theorem down_c (t k : Int) (w : World) (hk : 1 ≤ k) (ht : -9223372036854775808 ≤ t) (ht2 : t ≤ 9223372036854775807) (hk2 : k ≤ 9223372036854775807) : Calls Try.prog 51 #[.int .i64 t, .int .i64 k] w fun e w' => e = .returned (.int .i64 (t / k)) ∧ w' = w := by
  have hk0 : ¬ k = 0 := by omega
  have HQ := fun h => hide (quo_neg (t := t) (k := k) hk h)
  go_enter Try.func51, Try.ntmps51
  go_wp2_with fail
  · rename_i h1 h2
    obtain ⟨h3, h8, h | ⟨h4, h5, h6, h7⟩⟩ := (HQ h1).out
    · rw [w64 (by omega) (by omega), h.1] at h2
      simp at h2
    · rw [w64 (show -9223372036854775808 ≤ t.tdiv k - 1 by omega) (by omega), ← h7]
      go_ret
      exact ⟨rfl, rfl⟩
  · rename_i h1 h2
    obtain ⟨h3, h8, h | ⟨h4, h5, h6, h7⟩⟩ := (HQ h1).out
    · rw [← h.2]
      go_ret
      exact ⟨rfl, rfl⟩
    · rw [w64 (by omega) (by omega)] at h2
      exact absurd (by simpa using h2) h4
  · rename_i h1
    rw [Int.tdiv_eq_ediv_of_nonneg h1]
    go_ret
    exact ⟨rfl, rfl⟩
theorem floor_c (t k : Int) (w : World) (ht : -9223372036854775808 ≤ t) (ht2 : t ≤ 9223372036854775807) (hk2 : k ≤ 9223372036854775807) : Calls Try.prog 38 #[.int .i64 t, .int .i64 k] w fun e w' => e = .returned (.int .i64 (flo t k)) ∧ w' = w := by
  by_cases hk : k < 1
  · rw [show flo t k = t from if_pos hk]
    go_enter Try.func38, Try.ntmps38
    go_wp2_with fail
    go_ret
    exact ⟨rfl, rfl⟩
  · have hk1 : 1 ≤ k := by omega
    have hk0 : ¬ k = 0 := by omega
    have hM := rem_any (t := t) hk1
    have hE := Int.mul_ediv_add_emod t k
    have hC := Int.mul_comm (t / k) k
    have hL := Int.emod_lt_of_pos t (show 0 < k by omega)
    have hN := Int.emod_nonneg t hk0
    have w2 : wrap64 (-9223372036854775808 + t % k) = -9223372036854775808 + t % k := w64 (by omega) (by omega)
    by_cases hF : t / k * k < -9223372036854775808
    · rw [show flo t k = t by unfold flo; rw [if_neg hk, if_pos hF]]
      have h1 : t < -9223372036854775808 + t % k := by omega
      generalize t % k = r at *
      rcases hM with ⟨m1, m2⟩ | ⟨m1, m2⟩
      · have w1 : wrap64 (t.tmod k + k) = r := by rw [w64 (by omega) (by omega)]; omega
        clear hE hC hL hN hF m2
        go_enter Try.func38, Try.ntmps38
        go_wp2_with fail
        go_ret
        exact ⟨rfl, rfl⟩
      · have w1 : t.tmod k = r := by omega
        rw [w1] at m1
        have m3 : ¬ r < 0 := by omega
        clear hE hC hL hN hF m2
        go_enter Try.func38, Try.ntmps38
        go_wp2_with fail
        go_ret
        exact ⟨rfl, rfl⟩
    · rw [show flo t k = t / k * k by unfold flo; rw [if_neg hk, if_neg hF]]
      have h1 : ¬ t < -9223372036854775808 + t % k := by omega
      have w3 : wrap64 (t - t % k) = t / k * k := by rw [w64 (by omega) (by omega)]; omega
      generalize t / k * k = v at *
      generalize t % k = r at *
      rcases hM with ⟨m1, m2⟩ | ⟨m1, m2⟩
      · have w1 : wrap64 (t.tmod k + k) = r := by rw [w64 (by omega) (by omega)]; omega
        clear hE hC hL hN hF m2
        go_enter Try.func38, Try.ntmps38
        go_wp2_with fail
        go_ret
        exact ⟨rfl, rfl⟩
      · have w1 : t.tmod k = r := by omega
        rw [w1] at m1
        have w4 : t - r = v := by omega
        have m3 : ¬ r < 0 := by omega
        clear hE hC hL hN hF m2
        go_enter Try.func38, Try.ntmps38
        go_wp2_with fail
        go_ret
        exact ⟨rfl, rfl⟩
end Go.Proofs.Ytlfffpgokemjbaa.T
