/- The program's isDate: contract. -/
import Derived.Test.YthhajodedmaefabPIs
namespace Go.Proofs.Ythhajodedmaefab.T
set_option maxRecDepth 100000
open Go Go.RowKit
set_option linter.unusedVariables false

set_option maxHeartbeats 1000000 in
theorem isDate_1 (y m d h mi se : Int) (w : World) (hno : ¬ (1700 ≤ y ∧ y ≤ 2250)) : Calls Try.prog 19 #[.agg #[.int .i64 y, .int .i64 m, .int .i64 d, .int .i64 h, .int .i64 mi, .int .i64 se]] w fun e w' => e = .returned (.bool false) ∧ Below w.heap.size w w' := by
  have H1 := hide (decide_eq_false hno)
  have hw0 : Below w.heap.size w (w.alloc (.cells #[.int .i64 y, .int .i64 m, .int .i64 d, .int .i64 h, .int .i64 mi, .int .i64 se] 23)) := (Below.refl _ w).alloc (Nat.le_refl _) _
  have c0 := by_cell (cells_new w #[.int .i64 y, .int .i64 m, .int .i64 d, .int .i64 h, .int .i64 mi, .int .i64 se] 23 0 (.int .i64 y) rfl)
  go_enter Try.func19, Try.ntmps19
  go_upto_region 1 with fail
  generalize w.alloc (.cells #[.int .i64 y, .int .i64 m, .int .i64 d, .int .i64 h, .int .i64 mi, .int .i64 se] 23) = W1 at *
  have W0 := hide hw0
  clear hw0 hno
  refine wp_region_below (by kernel_rfl) (by kernel_rfl) ?_
  repeat (refine WQ.step (fun K hK => ?_); go_simp; first | (refine hK _ ?_; clear hK K) | (apply Exists.intro; refine ⟨fun _ => ?_, hK _ ?_⟩; (first | (go_at_call 21; apply within_v; exact H1.out)); clear hK K))
  refine WQ.nil ?_
  rintro _ ⟨⟨w2, hw2⟩, rfl⟩
  go_wp2_with fail
  go_ret
  exact ⟨rfl, W0.out.trans (hw2.mono W0.out.size)⟩
set_option maxHeartbeats 1000000 in
theorem isDate_2 (y m d h mi se : Int) (w : World) (hy : 1700 ≤ y ∧ y ≤ 2250) (hno : ¬ (1 ≤ m ∧ m ≤ 12)) : Calls Try.prog 19 #[.agg #[.int .i64 y, .int .i64 m, .int .i64 d, .int .i64 h, .int .i64 mi, .int .i64 se]] w fun e w' => e = .returned (.bool false) ∧ Below w.heap.size w w' := by
  have H1 := hide (decide_eq_true hy)
  have H2 := hide (decide_eq_false hno)
  have hw0 : Below w.heap.size w (w.alloc (.cells #[.int .i64 y, .int .i64 m, .int .i64 d, .int .i64 h, .int .i64 mi, .int .i64 se] 23)) := (Below.refl _ w).alloc (Nat.le_refl _) _
  have c0 := by_cell (cells_new w #[.int .i64 y, .int .i64 m, .int .i64 d, .int .i64 h, .int .i64 mi, .int .i64 se] 23 0 (.int .i64 y) rfl)
  have c1 := by_cell (cells_new w #[.int .i64 y, .int .i64 m, .int .i64 d, .int .i64 h, .int .i64 mi, .int .i64 se] 23 1 (.int .i64 m) rfl)
  go_enter Try.func19, Try.ntmps19
  go_upto_region 1 with fail
  generalize w.alloc (.cells #[.int .i64 y, .int .i64 m, .int .i64 d, .int .i64 h, .int .i64 mi, .int .i64 se] 23) = W1 at *
  have W0 := hide hw0
  clear hw0 hno hy
  refine wp_region_below (by kernel_rfl) (by kernel_rfl) ?_
  repeat (refine WQ.step (fun K hK => ?_); go_simp; first | (refine hK _ ?_; clear hK K) | (apply Exists.intro; refine ⟨fun _ => ?_, hK _ ?_⟩; (first | (go_at_call 21; apply within_v; first | exact H1.out | exact H2.out)); clear hK K))
  refine WQ.nil ?_
  rintro _ ⟨⟨w2, hw2⟩, rfl⟩
  go_wp2_with fail
  go_ret
  exact ⟨rfl, W0.out.trans (hw2.mono W0.out.size)⟩
set_option maxHeartbeats 8000000 in
theorem isDate_3 (Y N : Nat) (d h mi se : Int) (w : World) (hy : 1700 ≤ (Y : Int) ∧ (Y : Int) ≤ 2250) (hn : N < 12) (b3 b4 b5 b6 : Bool)
    (h3 : decide (1 ≤ d ∧ d ≤ md (Y : Int) ((N : Int) + 1)) = b3) (h4 : decide (0 ≤ h ∧ h ≤ 23) = b4) (h5 : decide (0 ≤ mi ∧ mi ≤ 59) = b5) (h6 : decide (0 ≤ se ∧ se ≤ 59) = b6) :
    Calls Try.prog 19 #[.agg #[.int .i64 (Y : Int), .int .i64 ((N : Int) + 1), .int .i64 d, .int .i64 h, .int .i64 mi, .int .i64 se]] w fun e w' => e = .returned (.bool (b3 && (b4 && (b5 && b6)))) ∧ Below w.heap.size w w' := by
  have hnn : (1 : Int) ≤ (N : Int) + 1 ∧ (N : Int) + 1 ≤ 12 := by omega
  have H1 := hide (decide_eq_true hy)
  have H2 := hide (decide_eq_true hnn)
  have H3 := hide h3
  have H4 := hide h4
  have H5 := hide h5
  have H6 := hide h6
  have HM := fun W => hide (months_c Y W)
  have hM := mA_at (Y : Int) N hn
  have hdb := md_le (Y : Int) ((N : Int) + 1)
  unfold mA at HM hM
  generalize md (Y : Int) 2 = F at *
  generalize md (Y : Int) ((N : Int) + 1) = D at *
  have hwN : IntKind.i64.wrap (N : Int) = (N : Int) := iw (by omega) (by omega)
  have hix := fun W => index12 _ .i64 hn D hM W
  clear hM
  clear h3 h4 h5 h6 hy
  have hw0 : Below w.heap.size w (w.alloc (.cells #[.int .i64 (Y : Int), .int .i64 ((N : Int) + 1), .int .i64 d, .int .i64 h, .int .i64 mi, .int .i64 se] 23)) := (Below.refl _ w).alloc (Nat.le_refl _) _
  have c0 := by_cell (cells_new w #[.int .i64 (Y : Int), .int .i64 ((N : Int) + 1), .int .i64 d, .int .i64 h, .int .i64 mi, .int .i64 se] 23 0 (.int .i64 ((Y : Int))) rfl)
  have c1 := by_cell (cells_new w #[.int .i64 (Y : Int), .int .i64 ((N : Int) + 1), .int .i64 d, .int .i64 h, .int .i64 mi, .int .i64 se] 23 1 (.int .i64 ((N : Int) + 1)) rfl)
  have c2 := by_cell (cells_new w #[.int .i64 (Y : Int), .int .i64 ((N : Int) + 1), .int .i64 d, .int .i64 h, .int .i64 mi, .int .i64 se] 23 2 (.int .i64 (d)) rfl)
  have c3 := by_cell (cells_new w #[.int .i64 (Y : Int), .int .i64 ((N : Int) + 1), .int .i64 d, .int .i64 h, .int .i64 mi, .int .i64 se] 23 3 (.int .i64 (h)) rfl)
  have c4 := by_cell (cells_new w #[.int .i64 (Y : Int), .int .i64 ((N : Int) + 1), .int .i64 d, .int .i64 h, .int .i64 mi, .int .i64 se] 23 4 (.int .i64 (mi)) rfl)
  have c5 := by_cell (cells_new w #[.int .i64 (Y : Int), .int .i64 ((N : Int) + 1), .int .i64 d, .int .i64 h, .int .i64 mi, .int .i64 se] 23 5 (.int .i64 (se)) rfl)
  go_enter Try.func19, Try.ntmps19
  go_upto_region 1 with fail
  generalize w.alloc (.cells #[.int .i64 (Y : Int), .int .i64 ((N : Int) + 1), .int .i64 d, .int .i64 h, .int .i64 mi, .int .i64 se] 23) = W1 at *
  have W0 := hide hw0
  clear hw0
  refine wp_region_below (by kernel_rfl) (by kernel_rfl) ?_
  cases b3
  · repeat (refine WQ.step (fun K hK => ?_); go_simp; first | (refine hK _ ?_; clear hK K) | (apply Exists.intro; refine ⟨fun _ => ?_, hK _ ?_⟩; (first | (go_at_call 21; apply within_v; first | exact H1.out | exact H2.out | exact H3.out | exact H4.out | exact H5.out | exact H6.out) | (go_at_call 24; exact below_of (v := .agg #[.int .i64 31, .int .i64 F, .int .i64 31, .int .i64 30, .int .i64 31, .int .i64 30, .int .i64 31, .int .i64 31, .int .i64 30, .int .i64 31, .int .i64 30, .int .i64 31]) (HM _).out)); clear hK K))
    refine WQ.nil ?_
    rintro _ ⟨⟨w2, hw2⟩, rfl⟩
    go_wp2_with fail
    go_ret
    exact ⟨rfl, W0.out.trans (hw2.mono W0.out.size)⟩
  · cases b4
    · repeat (refine WQ.step (fun K hK => ?_); go_simp; first | (refine hK _ ?_; clear hK K) | (apply Exists.intro; refine ⟨fun _ => ?_, hK _ ?_⟩; (first | (go_at_call 21; apply within_v; first | exact H1.out | exact H2.out | exact H3.out | exact H4.out | exact H5.out | exact H6.out) | (go_at_call 24; exact below_of (v := .agg #[.int .i64 31, .int .i64 F, .int .i64 31, .int .i64 30, .int .i64 31, .int .i64 30, .int .i64 31, .int .i64 31, .int .i64 30, .int .i64 31, .int .i64 30, .int .i64 31]) (HM _).out)); clear hK K))
      refine WQ.nil ?_
      rintro _ ⟨⟨w2, hw2⟩, rfl⟩
      go_wp2_with fail
      go_ret
      exact ⟨rfl, W0.out.trans (hw2.mono W0.out.size)⟩
    · cases b5
      · repeat (refine WQ.step (fun K hK => ?_); go_simp; first | (refine hK _ ?_; clear hK K) | (apply Exists.intro; refine ⟨fun _ => ?_, hK _ ?_⟩; (first | (go_at_call 21; apply within_v; first | exact H1.out | exact H2.out | exact H3.out | exact H4.out | exact H5.out | exact H6.out) | (go_at_call 24; exact below_of (v := .agg #[.int .i64 31, .int .i64 F, .int .i64 31, .int .i64 30, .int .i64 31, .int .i64 30, .int .i64 31, .int .i64 31, .int .i64 30, .int .i64 31, .int .i64 30, .int .i64 31]) (HM _).out)); clear hK K))
        refine WQ.nil ?_
        rintro _ ⟨⟨w2, hw2⟩, rfl⟩
        go_wp2_with fail
        go_ret
        exact ⟨rfl, W0.out.trans (hw2.mono W0.out.size)⟩
      · cases b6
        · repeat (refine WQ.step (fun K hK => ?_); go_simp; first | (refine hK _ ?_; clear hK K) | (apply Exists.intro; refine ⟨fun _ => ?_, hK _ ?_⟩; (first | (go_at_call 21; apply within_v; first | exact H1.out | exact H2.out | exact H3.out | exact H4.out | exact H5.out | exact H6.out) | (go_at_call 24; exact below_of (v := .agg #[.int .i64 31, .int .i64 F, .int .i64 31, .int .i64 30, .int .i64 31, .int .i64 30, .int .i64 31, .int .i64 31, .int .i64 30, .int .i64 31, .int .i64 30, .int .i64 31]) (HM _).out)); clear hK K))
          refine WQ.nil ?_
          rintro _ ⟨⟨w2, hw2⟩, rfl⟩
          go_wp2_with fail
          go_ret
          exact ⟨rfl, W0.out.trans (hw2.mono W0.out.size)⟩
        · repeat (refine WQ.step (fun K hK => ?_); go_simp; first | (refine hK _ ?_; clear hK K) | (apply Exists.intro; refine ⟨fun _ => ?_, hK _ ?_⟩; (first | (go_at_call 21; apply within_v; first | exact H1.out | exact H2.out | exact H3.out | exact H4.out | exact H5.out | exact H6.out) | (go_at_call 24; exact below_of (v := .agg #[.int .i64 31, .int .i64 F, .int .i64 31, .int .i64 30, .int .i64 31, .int .i64 30, .int .i64 31, .int .i64 31, .int .i64 30, .int .i64 31, .int .i64 30, .int .i64 31]) (HM _).out)); clear hK K))
          refine WQ.nil ?_
          rintro _ ⟨⟨w2, hw2⟩, rfl⟩
          go_wp2_with fail
          go_ret
          exact ⟨rfl, W0.out.trans (hw2.mono W0.out.size)⟩
theorem isDate_c (y m d h mi se : Int) (w : World) : Calls Try.prog 19 #[.agg #[.int .i64 y, .int .i64 m, .int .i64 d, .int .i64 h, .int .i64 mi, .int .i64 se]] w fun e w' => e = .returned (.bool (decide (Vd y m d h mi se))) ∧ Below w.heap.size w w' := by
  by_cases h1 : 1700 ≤ y ∧ y ≤ 2250
  · by_cases h2 : 1 ≤ m ∧ m ≤ 12
    · obtain ⟨Y, rfl⟩ : ∃ Y : Nat, y = (Y : Int) := ⟨y.toNat, by omega⟩
      obtain ⟨N, rfl⟩ : ∃ N : Nat, m = (N : Int) + 1 := ⟨(m - 1).toNat, by omega⟩
      have := isDate_3 Y N d h mi se w h1 (by omega) _ _ _ _ rfl rfl rfl rfl
      have e : decide (Vd (Y : Int) ((N : Int) + 1) d h mi se) = (decide (1 ≤ d ∧ d ≤ md (Y : Int) ((N : Int) + 1)) && (decide (0 ≤ h ∧ h ≤ 23) && (decide (0 ≤ mi ∧ mi ≤ 59) && decide (0 ≤ se ∧ se ≤ 59)))) := by
        rw [Bool.eq_iff_iff]
        simp only [Bool.and_eq_true, decide_eq_true_eq]
        exact ⟨fun q => q.2.2, fun q => ⟨h1, h2, q⟩⟩
      rw [e]
      exact this
    · rw [decide_eq_false (fun q : Vd y m d h mi se => h2 q.2.1)]
      exact isDate_2 y m d h mi se w h1 h2
  · rw [decide_eq_false (fun q : Vd y m d h mi se => h1 q.1)]
    exact isDate_1 y m d h mi se w h1
end Go.Proofs.Ythhajodedmaefab.T
