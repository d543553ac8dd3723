/- The reference's long, year, month, down: contracts. -/
import Derived.Test.YthhajodedmaefaaTBase
import Derived.Great.BuildSlice
namespace Go.Proofs.Ythhajodedmaefaa.T
set_option maxRecDepth 100000
open Go Go.RowKit
set_option linter.unusedVariables false
theorem long_c (y : Nat) (w : World) : Calls Try.prog 40 #[.int .i64 (y : Int)] w fun e w' => e = .returned (.bool (decide (Lg (y : Int)))) ∧ w' = w := by
  go_enter Try.func40, Try.ntmps40
  go_wp2_with fail
  all_goals go_ret
  · rename_i h1 h2
    refine ⟨?_, rfl⟩
    have : Lg (y : Int) ↔ (y : Int) % 400 = 0 := by unfold Lg; omega
    simp [this]
    rfl
  · rename_i h1 h2
    refine ⟨?_, rfl⟩
    have : Lg (y : Int) := by unfold Lg; omega
    simp [this]
  · rename_i h1
    refine ⟨?_, rfl⟩
    have : Lg (y : Int) ↔ (y : Int) % 400 = 0 := by unfold Lg; omega
    simp [this]
    rfl
theorem year_c (y : Nat) (w : World) : Calls Try.prog 35 #[.int .i64 (y : Int)] w fun e w' => e = .returned (.int .i64 (yd (y : Int))) ∧ w' = w := by
  have HL := hide (long_c y w)
  unfold yd
  by_cases hl : Lg (y : Int)
  · simp only [hl, decide_true, if_true] at HL ⊢
    go_enter Try.func35, Try.ntmps35
    go_wp2_with (go_at_call 40; refine HL.out.mono ?_; rintro e w1 ⟨rfl, hw⟩; obtain rfl := hw.symm; clear HL)
    go_ret
    exact ⟨rfl, rfl⟩
  · simp only [hl, decide_false, if_false] at HL ⊢
    go_enter Try.func35, Try.ntmps35
    go_wp2_with (go_at_call 40; refine HL.out.mono ?_; rintro e w1 ⟨rfl, hw⟩; obtain rfl := hw.symm; clear HL)
    go_ret
    exact ⟨rfl, rfl⟩
def tbZ : List Int := [0, 31, 28, 31, 30, 31, 30, 31, 31, 30, 31, 30, 31]
def BB : Ending → Int → World → World → Prop := fun e x w w' => e = .returned (.int .i64 x) ∧ Below w.heap.size w w'
set_option maxHeartbeats 4000000 in
theorem month_c (y m : Nat) (w : World) (h1 : 1 ≤ m) (h2 : m ≤ 12) : Calls Try.prog 30 #[.int .i64 (y : Int), .int .i64 (m : Int)] w fun e w' => e = .returned (.int .i64 (md (y : Int) (m : Int))) ∧ Below w.heap.size w w' := by
  have HL := hide (long_c y w)
  by_cases h : m = 2
  · subst h
    by_cases hl : Lg (y : Int)
    · rw [show md (y : Int) ((2 : Nat) : Int) = 29 by unfold md; simp [hl]]
      simp only [hl, decide_true] at HL
      go_enter Try.func30, Try.ntmps30
      go_wp2_with (go_at_call 40; refine HL.out.mono ?_; rintro e w1 ⟨rfl, hw⟩; obtain rfl := hw.symm; clear HL)
      go_ret
      exact ⟨rfl, Below.refl _ _⟩
    · rw [show md (y : Int) ((2 : Nat) : Int) = 28 by unfold md; simp [hl]]
      simp only [hl, decide_false] at HL
      have hz : tbZ[2]? = some 28 := rfl
      go_enter Try.func30, Try.ntmps30
      go_wp2_with (first | (go_at_call 40; refine HL.out.mono ?_; rintro e w1 ⟨rfl, hw⟩; obtain rfl := hw.symm; clear HL) | refine wpList_buildFlat rfl 56 3 13 _ rfl .i64 tbZ Try.underlying56 (by kernel_rfl) (by kernel_rfl) (by kernel_rfl) (by decide) (by decide) (by kernel_rfl) ?_)
      go_ret
      exact ⟨rfl, (Below.refl _ w).alloc (Nat.le_refl _) _⟩
  · clear HL
    have hn : ¬ (m : Int) = 2 := by omega
    obtain ⟨v, hv⟩ : ∃ v, v = md (y : Int) (m : Int) := ⟨_, rfl⟩
    have hm : m < 13 := by omega
    have hz : tbZ[m]? = some v := by
      subst hv
      have : m = 1 ∨ m = 3 ∨ m = 4 ∨ m = 5 ∨ m = 6 ∨ m = 7 ∨ m = 8 ∨ m = 9 ∨ m = 10 ∨ m = 11 ∨ m = 12 := by omega
      rcases this with rfl | rfl | rfl | rfl | rfl | rfl | rfl | rfl | rfl | rfl | rfl <;> rfl
    rw [← hv]
    clear hv h
    go_enter Try.func30, Try.ntmps30
    go_wp2_with (refine wpList_buildFlat rfl 56 3 13 _ rfl .i64 tbZ Try.underlying56 (by kernel_rfl) (by kernel_rfl) (by kernel_rfl) (by decide) (by decide) (by kernel_rfl) ?_)
    go_ret
    exact ⟨rfl, (Below.refl _ w).alloc (Nat.le_refl _) _⟩
theorem down_c (t k : Int) (w : World) (hk : 1 ≤ k) (ht : -9223372036854775808 ≤ t) (ht2 : t ≤ 9223372036854775807) (hk2 : k ≤ 9223372036854775807) : Calls Try.prog 34 #[.int .i64 t, .int .i64 k] w fun e w' => e = .returned (.int .i64 (t / k)) ∧ w' = w := by
  have hk0 : ¬ k = 0 := by omega
  have HQ := fun h => hide (quo_neg (t := t) (k := k) hk h)
  go_enter Try.func34, Try.ntmps34
  go_wp2_with fail
  · rename_i h1 h2
    obtain ⟨h3, h8, h | ⟨h4, h5, h6, h7⟩⟩ := (HQ h1).out
    · rw [w64 (by omega) (by omega), h.1] at h2
      simp at h2
    · rw [w64 (show -9223372036854775808 ≤ t.tdiv k - 1 by omega) (by omega), ← h7]
      go_ret
      exact ⟨rfl, rfl⟩
  · rename_i h1 h2
    obtain ⟨h3, h8, h | ⟨h4, h5, h6, h7⟩⟩ := (HQ h1).out
    · rw [← h.2]
      go_ret
      exact ⟨rfl, rfl⟩
    · rw [w64 (by omega) (by omega)] at h2
      exact absurd (by simpa using h2) h4
  · rename_i h1
    rw [Int.tdiv_eq_ediv_of_nonneg h1]
    go_ret
    exact ⟨rfl, rfl⟩
theorem floor_c (t k : Int) (w : World) (ht : -9223372036854775808 ≤ t) (ht2 : t ≤ 9223372036854775807) (hk2 : k ≤ 9223372036854775807) : Calls Try.prog 18 #[.int .i64 t, .int .i64 k] w fun e w' => e = .returned (.int .i64 (flo t k)) ∧ w' = w := by
  by_cases hk : k < 1
  · rw [show flo t k = t from if_pos hk]
    go_enter Try.func18, Try.ntmps18
    go_wp2_with fail
    go_ret
    exact ⟨rfl, rfl⟩
  · have hk1 : 1 ≤ k := by omega
    have hk0 : ¬ k = 0 := by omega
    have hM := rem_any (t := t) hk1
    have hE := Int.mul_ediv_add_emod t k
    have hC := Int.mul_comm (t / k) k
    have hL := Int.emod_lt_of_pos t (show 0 < k by omega)
    have hN := Int.emod_nonneg t hk0
    have w2 : wrap64 (-9223372036854775808 + t % k) = -9223372036854775808 + t % k := w64 (by omega) (by omega)
    by_cases hF : t / k * k < -9223372036854775808
    · rw [show flo t k = t by unfold flo; rw [if_neg hk, if_pos hF]]
      have h1 : t < -9223372036854775808 + t % k := by omega
      generalize t % k = r at *
      rcases hM with ⟨m1, m2⟩ | ⟨m1, m2⟩
      · have w1 : wrap64 (t.tmod k + k) = r := by rw [w64 (by omega) (by omega)]; omega
        clear hE hC hL hN hF m2
        go_enter Try.func18, Try.ntmps18
        go_wp2_with fail
        go_ret
        exact ⟨rfl, rfl⟩
      · have w1 : t.tmod k = r := by omega
        rw [w1] at m1
        have m3 : ¬ r < 0 := by omega
        clear hE hC hL hN hF m2
        go_enter Try.func18, Try.ntmps18
        go_wp2_with fail
        go_ret
        exact ⟨rfl, rfl⟩
    · rw [show flo t k = t / k * k by unfold flo; rw [if_neg hk, if_neg hF]]
      have h1 : ¬ t < -9223372036854775808 + t % k := by omega
      have w3 : wrap64 (t - t % k) = t / k * k := by rw [w64 (by omega) (by omega)]; omega
      generalize t / k * k = v at *
      generalize t % k = r at *
      rcases hM with ⟨m1, m2⟩ | ⟨m1, m2⟩
      · have w1 : wrap64 (t.tmod k + k) = r := by rw [w64 (by omega) (by omega)]; omega
        clear hE hC hL hN hF m2
        go_enter Try.func18, Try.ntmps18
        go_wp2_with fail
        go_ret
        exact ⟨rfl, rfl⟩
      · have w1 : t.tmod k = r := by omega
        rw [w1] at m1
        have w4 : t - r = v := by omega
        have m3 : ¬ r < 0 := by omega
        clear hE hC hL hN hF m2
        go_enter Try.func18, Try.ntmps18
        go_wp2_with fail
        go_ret
        exact ⟨rfl, rfl⟩
end Go.Proofs.Ythhajodedmaefaa.T
