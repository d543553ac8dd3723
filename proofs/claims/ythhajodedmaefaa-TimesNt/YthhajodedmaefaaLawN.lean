/- The laws TimesUnix, TimesFloors, TimesNt: their walks. -/
import Derived.Test.YthhajodedmaefaaPAlive
import Derived.Test.YthhajodedmaefaaPFloor
import Derived.Test.YthhajodedmaefaaRNum
namespace Go.Proofs.Ythhajodedmaefaa.T
set_option maxRecDepth 100000
open Go Go.RowKit
set_option linter.unusedVariables false
set_option maxHeartbeats 4000000 in
theorem timesUnix_walk (s t : Int) (W : World) (ht : -9223372036854775808 ≤ t ∧ t ≤ 9223372036854775807) : Calls Try.prog 7 #[.int .i64 s, .int .i64 t] W fun e w' => e = .returned (.bool true) ∧ Below W.heap.size W w' := by
  have H1 := hide (fromUnix_c s W)
  have H2 := hide (rfromUnix_c s W)
  have H3 := hide (alive_c W)
  have H4 := fun w => hide (toUnix_c t w ht.1 ht.2)
  have H5 := fun w => hide (rtoUnix_c t w ht.1 ht.2)
  generalize pv s 1000000000 = v at *
  generalize pb s 1000000000 = b at *
  generalize t / 1000000000 = u at *
  go_enter Try.func7, Try.ntmps7
  go_wp2_with (first
    | (go_at_call 23; refine H1.out.mono ?_; rintro e w1 ⟨rfl, hw⟩; obtain rfl := hw.symm; clear H1)
    | (go_at_call 24; refine H2.out.mono ?_; rintro e w2 ⟨rfl, hw⟩; obtain rfl := hw.symm; clear H2)
    | (go_at_call 11; refine H3.out.mono ?_; rintro e w3 ⟨rfl, hw⟩; have B3 := hide hw; clear hw H3)
    | (go_at_call 25; refine (H4 _).out.mono ?_; rintro e w4 ⟨rfl, hw⟩; obtain rfl := hw.symm; clear H4)
    | (go_at_call 26; refine (H5 _).out.mono ?_; rintro e w5 ⟨rfl, hw⟩; obtain rfl := hw.symm; clear H5))
  all_goals go_ret
  all_goals exact ⟨by simp, B3.out⟩
theorem flo_facts {t k : Int} : flo t k ≤ t ∧ (k < 1 ∨ (¬ k < 1 ∧ flo t k = t) ∨ (¬ k < 1 ∧ ¬ flo t k = t ∧ (flo t k).tmod k = 0)) := by
  unfold flo
  by_cases h : k < 1
  · rw [if_pos h]; exact ⟨Int.le_refl _, .inl h⟩
  · rw [if_neg h]
    by_cases h2 : t / k * k < -9223372036854775808
    · rw [if_pos h2]; exact ⟨Int.le_refl _, .inr (.inl ⟨h, rfl⟩)⟩
    · rw [if_neg h2]
      refine ⟨Int.ediv_mul_le t (by omega), .inr ?_⟩
      by_cases h3 : t / k * k = t
      · exact .inl ⟨h, h3⟩
      · exact .inr ⟨h, h3, Int.mul_tmod_left _ _⟩
set_option maxHeartbeats 4000000 in
theorem timesFloors_walk (t k : Int) (W : World) (ht : -9223372036854775808 ≤ t ∧ t ≤ 9223372036854775807) (hk : -9223372036854775808 ≤ k ∧ k ≤ 9223372036854775807) : Calls Try.prog 8 #[.int .i64 t, .int .i64 k] W fun e w' => e = .returned (.bool true) ∧ Below W.heap.size W w' := by
  have H1 := hide (tfloor_c t k W ht.1 ht.2 hk.2)
  have H3 := hide (alive_c W)
  have H4 := fun w => hide (floor_c t k w ht.1 ht.2 hk.2)
  obtain ⟨h1, h2⟩ := flo_facts (t := t) (k := k)
  generalize flo t k = f at *
  rcases h2 with h2 | ⟨h2, rfl⟩ | ⟨h2, h3, h4⟩
  · go_enter Try.func8, Try.ntmps8
    go_wp2_with (first
      | (go_at_call 27; refine H1.out.mono ?_; rintro e w1 ⟨rfl, hw⟩; obtain rfl := hw.symm; clear H1)
      | (go_at_call 11; refine H3.out.mono ?_; rintro e w3 ⟨rfl, hw⟩; have B3 := hide hw; clear hw H3)
      | (go_at_call 18; refine (H4 _).out.mono ?_; rintro e w4 ⟨rfl, hw⟩; obtain rfl := hw.symm; clear H4))
    all_goals go_ret
    all_goals exact ⟨by simp, B3.out⟩
  · go_enter Try.func8, Try.ntmps8
    go_wp2_with (first
      | (go_at_call 27; refine H1.out.mono ?_; rintro e w1 ⟨rfl, hw⟩; obtain rfl := hw.symm; clear H1)
      | (go_at_call 11; refine H3.out.mono ?_; rintro e w3 ⟨rfl, hw⟩; have B3 := hide hw; clear hw H3)
      | (go_at_call 18; refine (H4 _).out.mono ?_; rintro e w4 ⟨rfl, hw⟩; obtain rfl := hw.symm; clear H4))
    all_goals go_ret
    all_goals exact ⟨by simp, B3.out⟩
  · have hk0 : ¬ k = 0 := by omega
    go_enter Try.func8, Try.ntmps8
    go_wp2_with (first
      | (go_at_call 27; refine H1.out.mono ?_; rintro e w1 ⟨rfl, hw⟩; obtain rfl := hw.symm; clear H1)
      | (go_at_call 11; refine H3.out.mono ?_; rintro e w3 ⟨rfl, hw⟩; have B3 := hide hw; clear hw H3)
      | (go_at_call 18; refine (H4 _).out.mono ?_; rintro e w4 ⟨rfl, hw⟩; obtain rfl := hw.symm; clear H4))
    all_goals go_ret
    all_goals exact ⟨by simp, B3.out⟩
set_option maxHeartbeats 4000000 in
theorem timesNt_walk (v t : Int) (W : World) (hv : 0 ≤ v ∧ v ≤ 18446744073709551615) (ht : -9223372036854775808 ≤ t ∧ t ≤ 9223372036854775807) : Calls Try.prog 6 #[.int .u64 v, .int .i64 t] W fun e w' => e = .returned (.bool true) ∧ Below W.heap.size W w' := by
  have H1 := hide (fromNt_c v W hv.1 hv.2)
  have H2 := hide (rfromNt_c v W hv.1 hv.2)
  have H3 := hide (alive_c W)
  have H4 := hide (toNt_c t W ht.1 ht.2)
  have H5 := fun w => hide (rtoNt_c t w ht.1 ht.2)
  have hb : -92233720368547759 ≤ t / 100 ∧ t / 100 ≤ 92233720368547758 := by omega
  have H6 := hide (fromNt_c (t / 100 + 116444736000000000) W (by omega) (by omega))
  have H7 := fun w => hide (floor_c t 100 w ht.1 ht.2 (by omega))
  have key : ntb (t / 100 + 116444736000000000) = false ∨ (ntb (t / 100 + 116444736000000000) = true ∧ ntv (t / 100 + 116444736000000000) = flo t 100) := by
    by_cases h : ntF (t / 100 + 116444736000000000)
    · refine .inr ⟨decide_eq_true h, ?_⟩
      rw [show ntv (t / 100 + 116444736000000000) = _ from if_pos h]
      unfold flo
      rw [if_neg (by omega), if_neg (by have := h.1; omega)]
      omega
    · exact .inl (decide_eq_false h)
  generalize t / 100 + 116444736000000000 = n at *
  generalize flo t 100 = f at *
  generalize ntv v = a at *
  generalize ntb v = b at *
  clear hb hv ht
  rcases key with h | ⟨h, h'⟩
  · rw [h] at H6
    clear h
    generalize ntv n = x at *
    go_enter Try.func6, Try.ntmps6
    go_wp2_with (first
      | (go_at_call 19; refine H1.out.mono ?_; rintro e w1 ⟨rfl, hw⟩; obtain rfl := hw.symm; clear H1)
      | (go_at_call 20; refine H2.out.mono ?_; rintro e w2 ⟨rfl, hw⟩; obtain rfl := hw.symm; clear H2)
      | (go_at_call 21; refine H4.out.mono ?_; rintro e w2 ⟨rfl, hw⟩; obtain rfl := hw.symm; clear H4)
      | (go_at_call 19; refine H6.out.mono ?_; rintro e w2 ⟨rfl, hw⟩; obtain rfl := hw.symm; clear H6)
      | (go_at_call 11; refine H3.out.mono ?_; rintro e w3 ⟨rfl, hw⟩; have B3 := hide hw; clear hw H3)
      | (go_at_call 22; refine (H5 _).out.mono ?_; rintro e w4 ⟨rfl, hw⟩; obtain rfl := hw.symm; clear H5))
    all_goals go_ret
    all_goals exact ⟨by simp, B3.out⟩
  · rw [h, h'] at H6
    clear h h'
    go_enter Try.func6, Try.ntmps6
    go_wp2_with (first
      | (go_at_call 19; refine H1.out.mono ?_; rintro e w1 ⟨rfl, hw⟩; obtain rfl := hw.symm; clear H1)
      | (go_at_call 20; refine H2.out.mono ?_; rintro e w2 ⟨rfl, hw⟩; obtain rfl := hw.symm; clear H2)
      | (go_at_call 21; refine H4.out.mono ?_; rintro e w2 ⟨rfl, hw⟩; obtain rfl := hw.symm; clear H4)
      | (go_at_call 19; refine H6.out.mono ?_; rintro e w2 ⟨rfl, hw⟩; obtain rfl := hw.symm; clear H6)
      | (go_at_call 11; refine H3.out.mono ?_; rintro e w3 ⟨rfl, hw⟩; have B3 := hide hw; clear hw H3)
      | (go_at_call 22; refine (H5 _).out.mono ?_; rintro e w4 ⟨rfl, hw⟩; obtain rfl := hw.symm; clear H5)
      | (go_at_call 18; refine (H7 _).out.mono ?_; rintro e w4 ⟨rfl, hw⟩; obtain rfl := hw.symm; clear H7))
    all_goals go_ret
    all_goals exact ⟨by simp, B3.out⟩
end Go.Proofs.Ythhajodedmaefaa.T
