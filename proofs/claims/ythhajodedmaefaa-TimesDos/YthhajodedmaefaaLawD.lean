/- The laws TimesDates, TimesDays: their walks. -/
import Derived.Test.YthhajodedmaefaaPAlive
import Derived.Test.YthhajodedmaefaaRTo
import Derived.Test.YthhajodedmaefaaTFroD
namespace Go.Proofs.Ythhajodedmaefaa.T
set_option maxRecDepth 100000
open Go Go.RowKit
set_option linter.unusedVariables false
theorem rtoDate_c {t Y M d h mi se : Int} (w : World) (ht : -9223372036854775808 ≤ t) (ht2 : t ≤ 9223372036854775807) (hd : IsDt (t / 1000000000) Y M d h mi se) : Calls Try.prog 13 #[.int .i64 t] w fun e w' => e = .returned (.agg #[.int .i64 Y, .int .i64 M, .int .i64 d, .int .i64 h, .int .i64 mi, .int .i64 se]) ∧ Below w.heap.size w w' := by
  have hy := hd.years (by omega) (by omega)
  have hm := hd.1.1
  obtain ⟨Y, rfl⟩ : ∃ y : Nat, Y = (y : Int) := ⟨Y.toNat, by omega⟩
  obtain ⟨M, rfl⟩ : ∃ y : Nat, M = (y : Int) := ⟨M.toNat, by omega⟩
  exact rtoDate_n w ht ht2 (by omega) hd
theorem rfromDate_v (y m d h mi se : Int) (w : World) : Calls Try.prog 10 #[.agg #[.int .i64 y, .int .i64 m, .int .i64 d, .int .i64 h, .int .i64 mi, .int .i64 se]] w fun e w' => e = .returned (.tuple #[.int .i64 (FdV y m d h mi se), .bool (FdB y m d h mi se)]) ∧ Below w.heap.size w w' :=
  (fromDate_c y m d h mi se w).mono fun e w' ⟨hb, hc⟩ => by
    refine ⟨?_, hb⟩
    rcases hc with ⟨hv, he⟩ | ⟨hv, he⟩
    · rw [show FdV y m d h mi se = _ from if_pos hv, show FdB y m d h mi se = true from decide_eq_true hv]; exact he
    · rw [show FdV y m d h mi se = 0 from if_neg hv, show FdB y m d h mi se = false from decide_eq_false hv]; exact he
theorem vd_dt {y m d h mi se : Int} (hv : Vd y m d h mi se) : IsDt (sc y m d h mi se * 1000000000 / 1000000000) y m d h mi se ∧ -9223372036854775808 ≤ sc y m d h mi se * 1000000000 ∧ sc y m d h mi se * 1000000000 ≤ 9223372036854775807 := by
  obtain ⟨h1, h2, h3, h4⟩ := hv
  have a := IsDt.of ⟨h2, h3⟩ h4
  have hs : sc y m d h mi se * 1000000000 / 1000000000 = sc y m d h mi se := by omega
  rw [hs]
  obtain ⟨Y, rfl⟩ : ∃ Y : Nat, y = (Y : Int) := ⟨y.toNat, by omega⟩
  obtain ⟨N, rfl⟩ : ∃ N : Nat, m = (N : Int) + 1 := ⟨(m - 1).toNat, by omega⟩
  have hb := dn_bd (Y := Y) (N := N) (d := d) (by omega) (by omega) h3.1 h3.2
  refine ⟨a, ?_, ?_⟩ <;> (unfold sc; omega)
set_option maxHeartbeats 4000000 in
theorem timesDays_walk (t : Int) (W : World) (ht : -9223372036854775808 ≤ t ∧ t ≤ 9223372036854775807) : Calls Try.prog 4 #[.int .i64 t] W fun e w' => e = .returned (.bool true) ∧ Below W.heap.size W w' := by
  obtain ⟨Y, M, d, hd⟩ := dt_of (t / 1000000000)
  have H1 := fun w => hide (toDate_c w ht.1 ht.2 hd)
  have H2 := fun w => hide (rtoDate_c w ht.1 ht.2 hd)
  have H3 := fun w => hide (alive_c w)
  generalize t / 1000000000 % 86400 / 3600 = h at *
  generalize t / 1000000000 % 86400 % 3600 / 60 = mi at *
  generalize t / 1000000000 % 86400 % 60 = se at *
  clear hd ht
  go_enter Try.func4, Try.ntmps4
  go_upto_region 2 with (go_at_call 12; refine (H1 _).out.mono ?_; rintro e w1 ⟨rfl, hw⟩; have B1 := hide hw; clear hw H1)
  have c0 := by_cell (cells_new w1 #[.int .i64 Y, .int .i64 M, .int .i64 d, .int .i64 h, .int .i64 mi, .int .i64 se] 23 0 (.int .i64 Y) rfl)
  have c1 := by_cell (cells_new w1 #[.int .i64 Y, .int .i64 M, .int .i64 d, .int .i64 h, .int .i64 mi, .int .i64 se] 23 1 (.int .i64 M) rfl)
  have c2 := by_cell (cells_new w1 #[.int .i64 Y, .int .i64 M, .int .i64 d, .int .i64 h, .int .i64 mi, .int .i64 se] 23 2 (.int .i64 d) rfl)
  have c3 := by_cell (cells_new w1 #[.int .i64 Y, .int .i64 M, .int .i64 d, .int .i64 h, .int .i64 mi, .int .i64 se] 23 3 (.int .i64 h) rfl)
  have c4 := by_cell (cells_new w1 #[.int .i64 Y, .int .i64 M, .int .i64 d, .int .i64 h, .int .i64 mi, .int .i64 se] 23 4 (.int .i64 mi) rfl)
  have c5 := by_cell (cells_new w1 #[.int .i64 Y, .int .i64 M, .int .i64 d, .int .i64 h, .int .i64 mi, .int .i64 se] 23 5 (.int .i64 se) rfl)
  have B2 : Hid (Below W.heap.size W (w1.alloc (.cells #[.int .i64 Y, .int .i64 M, .int .i64 d, .int .i64 h, .int .i64 mi, .int .i64 se] 23))) := hide (B1.out.alloc B1.out.size _)
  generalize w1.alloc (.cells #[.int .i64 Y, .int .i64 M, .int .i64 d, .int .i64 h, .int .i64 mi, .int .i64 se] 23) = W2 at *
  clear B1
  refine wp_region_below (by kernel_rfl) (by kernel_rfl) ?_
  repeat (refine WQ.step (fun K hK => ?_); go_simp; first | (refine hK _ ?_; clear hK K) | (apply Exists.intro; refine ⟨fun _ => ?_, hK _ ?_⟩; (first | (go_at_call 11; exact below_of (v := .bool true) (H3 _).out) | (go_at_call 13; exact below_of (v := .agg #[.int .i64 Y, .int .i64 M, .int .i64 d, .int .i64 h, .int .i64 mi, .int .i64 se]) (H2 _).out)); clear hK K))
  refine WQ.nil ?_
  rintro w3 ⟨⟨_, hw3⟩, rfl⟩
  go_wp2_with fail
  go_ret
  exact ⟨by simp, B2.out.trans (hw3.mono B2.out.size)⟩
set_option maxHeartbeats 8000000 in
theorem timesDates_walk (y m d h mi se : Int) (W : World) : Calls Try.prog 3 #[.agg #[.int .i64 y, .int .i64 m, .int .i64 d, .int .i64 h, .int .i64 mi, .int .i64 se]] W fun e w' => e = .returned (.bool true) ∧ Below W.heap.size W w' := by
  have H1 := fun w => hide (pfromDate_c y m d h mi se w)
  have H2 := fun w => hide (rfromDate_v y m d h mi se w)
  have H3 := fun w => hide (alive_c w)
  by_cases hv : Vd y m d h mi se
  · obtain ⟨hd, ht, ht2⟩ := vd_dt hv
    have H4 := fun w => hide (toDate_c w ht ht2 hd)
    simp only [show FdV y m d h mi se = _ from if_pos hv, show FdB y m d h mi se = true from decide_eq_true hv] at H1 H2
    generalize sc y m d h mi se * 1000000000 = t at *
    clear hv hd ht ht2
    have c0 := by_cell (cells_new W #[.int .i64 y, .int .i64 m, .int .i64 d, .int .i64 h, .int .i64 mi, .int .i64 se] 23 0 (.int .i64 y) rfl)
    have c1 := by_cell (cells_new W #[.int .i64 y, .int .i64 m, .int .i64 d, .int .i64 h, .int .i64 mi, .int .i64 se] 23 1 (.int .i64 m) rfl)
    have c2 := by_cell (cells_new W #[.int .i64 y, .int .i64 m, .int .i64 d, .int .i64 h, .int .i64 mi, .int .i64 se] 23 2 (.int .i64 d) rfl)
    have c3 := by_cell (cells_new W #[.int .i64 y, .int .i64 m, .int .i64 d, .int .i64 h, .int .i64 mi, .int .i64 se] 23 3 (.int .i64 h) rfl)
    have c4 := by_cell (cells_new W #[.int .i64 y, .int .i64 m, .int .i64 d, .int .i64 h, .int .i64 mi, .int .i64 se] 23 4 (.int .i64 mi) rfl)
    have c5 := by_cell (cells_new W #[.int .i64 y, .int .i64 m, .int .i64 d, .int .i64 h, .int .i64 mi, .int .i64 se] 23 5 (.int .i64 se) rfl)
    have HB0 := hide ((Below.refl W.heap.size W).alloc (Nat.le_refl _) (.cells #[.int .i64 y, .int .i64 m, .int .i64 d, .int .i64 h, .int .i64 mi, .int .i64 se] 23))
    have HSZ : Hid (W.heap.size < (W.alloc (.cells #[.int .i64 y, .int .i64 m, .int .i64 d, .int .i64 h, .int .i64 mi, .int .i64 se] 23)).heap.size) := hide (by simp)
    go_enter Try.func3, Try.ntmps3
    go_upto_region 1 with fail
    generalize W.alloc (.cells #[.int .i64 y, .int .i64 m, .int .i64 d, .int .i64 h, .int .i64 mi, .int .i64 se] 23) = W1 at *
    have d0 : W1.cell? ⟨W.heap.size, 0, none⟩ = some (.int .i64 y) := c0 ⟨W1, Below.refl _ _⟩
    have d1 : W1.cell? ⟨W.heap.size, 1, none⟩ = some (.int .i64 m) := c1 ⟨W1, Below.refl _ _⟩
    have d2 : W1.cell? ⟨W.heap.size, 2, none⟩ = some (.int .i64 d) := c2 ⟨W1, Below.refl _ _⟩
    have d3 : W1.cell? ⟨W.heap.size, 3, none⟩ = some (.int .i64 h) := c3 ⟨W1, Below.refl _ _⟩
    have d4 : W1.cell? ⟨W.heap.size, 4, none⟩ = some (.int .i64 mi) := c4 ⟨W1, Below.refl _ _⟩
    have d5 : W1.cell? ⟨W.heap.size, 5, none⟩ = some (.int .i64 se) := c5 ⟨W1, Below.refl _ _⟩
    go_upto_region 3 with (first
      | (go_at_call 9; refine (H1 _).out.mono ?_; rintro e w1 ⟨rfl, hw⟩; have B1 := hide hw; have c0' : w1.cell? ⟨W.heap.size, 0, none⟩ = some (.int .i64 y) := c0 ⟨w1, hw⟩; have c1' : w1.cell? ⟨W.heap.size, 1, none⟩ = some (.int .i64 m) := c1 ⟨w1, hw⟩; have c2' : w1.cell? ⟨W.heap.size, 2, none⟩ = some (.int .i64 d) := c2 ⟨w1, hw⟩; have c3' : w1.cell? ⟨W.heap.size, 3, none⟩ = some (.int .i64 h) := c3 ⟨w1, hw⟩; have c4' : w1.cell? ⟨W.heap.size, 4, none⟩ = some (.int .i64 mi) := c4 ⟨w1, hw⟩; have c5' : w1.cell? ⟨W.heap.size, 5, none⟩ = some (.int .i64 se) := c5 ⟨w1, hw⟩; clear hw H1)
      | (go_at_call 10; refine (H2 _).out.mono ?_; rintro e w2 ⟨rfl, hw⟩; have B2 := hide (B1.out.trans (hw.mono B1.out.size)); clear hw H2))
    have k0 : ∀ p : BelowBy w2, p.w.cell? ⟨W.heap.size, 0, none⟩ = some (.int .i64 y) := by_cell (c0 ⟨w2, B2.out⟩)
    have k1 : ∀ p : BelowBy w2, p.w.cell? ⟨W.heap.size, 1, none⟩ = some (.int .i64 m) := by_cell (c1 ⟨w2, B2.out⟩)
    have k2 : ∀ p : BelowBy w2, p.w.cell? ⟨W.heap.size, 2, none⟩ = some (.int .i64 d) := by_cell (c2 ⟨w2, B2.out⟩)
    have k3 : ∀ p : BelowBy w2, p.w.cell? ⟨W.heap.size, 3, none⟩ = some (.int .i64 h) := by_cell (c3 ⟨w2, B2.out⟩)
    have k4 : ∀ p : BelowBy w2, p.w.cell? ⟨W.heap.size, 4, none⟩ = some (.int .i64 mi) := by_cell (c4 ⟨w2, B2.out⟩)
    have k5 : ∀ p : BelowBy w2, p.w.cell? ⟨W.heap.size, 5, none⟩ = some (.int .i64 se) := by_cell (c5 ⟨w2, B2.out⟩)
    have B3 := hide (HB0.out.trans (B2.out.mono (Nat.le_of_lt HSZ.out)))
    clear c0 c1 c2 c3 c4 c5 B1
    refine wp_region_below (by kernel_rfl) (by kernel_rfl) ?_
    repeat (refine WQ.step (fun K hK => ?_); go_simp; first | (refine hK _ ?_; clear hK K) | (apply Exists.intro; refine ⟨fun _ => ?_, hK _ ?_⟩; (first | (go_at_call 11; exact below_of (v := .bool true) (H3 _).out) | (go_at_call 12; exact below_of (v := .agg #[.int .i64 y, .int .i64 m, .int .i64 d, .int .i64 h, .int .i64 mi, .int .i64 se]) (H4 _).out)); clear hK K))
    refine WQ.nil ?_
    rintro w3 ⟨⟨_, hw3⟩, rfl⟩
    go_wp2_with fail
    go_ret
    exact ⟨by simp, B3.out.trans (hw3.mono B3.out.size)⟩
  · simp only [show FdV y m d h mi se = 0 from if_neg hv, show FdB y m d h mi se = false from decide_eq_false hv] at H1 H2
    clear hv
    have c0 := by_cell (cells_new W #[.int .i64 y, .int .i64 m, .int .i64 d, .int .i64 h, .int .i64 mi, .int .i64 se] 23 0 (.int .i64 y) rfl)
    have c1 := by_cell (cells_new W #[.int .i64 y, .int .i64 m, .int .i64 d, .int .i64 h, .int .i64 mi, .int .i64 se] 23 1 (.int .i64 m) rfl)
    have c2 := by_cell (cells_new W #[.int .i64 y, .int .i64 m, .int .i64 d, .int .i64 h, .int .i64 mi, .int .i64 se] 23 2 (.int .i64 d) rfl)
    have c3 := by_cell (cells_new W #[.int .i64 y, .int .i64 m, .int .i64 d, .int .i64 h, .int .i64 mi, .int .i64 se] 23 3 (.int .i64 h) rfl)
    have c4 := by_cell (cells_new W #[.int .i64 y, .int .i64 m, .int .i64 d, .int .i64 h, .int .i64 mi, .int .i64 se] 23 4 (.int .i64 mi) rfl)
    have c5 := by_cell (cells_new W #[.int .i64 y, .int .i64 m, .int .i64 d, .int .i64 h, .int .i64 mi, .int .i64 se] 23 5 (.int .i64 se) rfl)
    have HB0 := hide ((Below.refl W.heap.size W).alloc (Nat.le_refl _) (.cells #[.int .i64 y, .int .i64 m, .int .i64 d, .int .i64 h, .int .i64 mi, .int .i64 se] 23))
    have HSZ : Hid (W.heap.size < (W.alloc (.cells #[.int .i64 y, .int .i64 m, .int .i64 d, .int .i64 h, .int .i64 mi, .int .i64 se] 23)).heap.size) := hide (by simp)
    go_enter Try.func3, Try.ntmps3
    go_upto_region 1 with fail
    generalize W.alloc (.cells #[.int .i64 y, .int .i64 m, .int .i64 d, .int .i64 h, .int .i64 mi, .int .i64 se] 23) = W1 at *
    have d0 : W1.cell? ⟨W.heap.size, 0, none⟩ = some (.int .i64 y) := c0 ⟨W1, Below.refl _ _⟩
    have d1 : W1.cell? ⟨W.heap.size, 1, none⟩ = some (.int .i64 m) := c1 ⟨W1, Below.refl _ _⟩
    have d2 : W1.cell? ⟨W.heap.size, 2, none⟩ = some (.int .i64 d) := c2 ⟨W1, Below.refl _ _⟩
    have d3 : W1.cell? ⟨W.heap.size, 3, none⟩ = some (.int .i64 h) := c3 ⟨W1, Below.refl _ _⟩
    have d4 : W1.cell? ⟨W.heap.size, 4, none⟩ = some (.int .i64 mi) := c4 ⟨W1, Below.refl _ _⟩
    have d5 : W1.cell? ⟨W.heap.size, 5, none⟩ = some (.int .i64 se) := c5 ⟨W1, Below.refl _ _⟩
    go_upto_region 3 with (first
      | (go_at_call 9; refine (H1 _).out.mono ?_; rintro e w1 ⟨rfl, hw⟩; have B1 := hide hw; have c0' : w1.cell? ⟨W.heap.size, 0, none⟩ = some (.int .i64 y) := c0 ⟨w1, hw⟩; have c1' : w1.cell? ⟨W.heap.size, 1, none⟩ = some (.int .i64 m) := c1 ⟨w1, hw⟩; have c2' : w1.cell? ⟨W.heap.size, 2, none⟩ = some (.int .i64 d) := c2 ⟨w1, hw⟩; have c3' : w1.cell? ⟨W.heap.size, 3, none⟩ = some (.int .i64 h) := c3 ⟨w1, hw⟩; have c4' : w1.cell? ⟨W.heap.size, 4, none⟩ = some (.int .i64 mi) := c4 ⟨w1, hw⟩; have c5' : w1.cell? ⟨W.heap.size, 5, none⟩ = some (.int .i64 se) := c5 ⟨w1, hw⟩; clear hw H1)
      | (go_at_call 10; refine (H2 _).out.mono ?_; rintro e w2 ⟨rfl, hw⟩; have B2 := hide (B1.out.trans (hw.mono B1.out.size)); clear hw H2))
    have k0 : ∀ p : BelowBy w2, p.w.cell? ⟨W.heap.size, 0, none⟩ = some (.int .i64 y) := by_cell (c0 ⟨w2, B2.out⟩)
    have k1 : ∀ p : BelowBy w2, p.w.cell? ⟨W.heap.size, 1, none⟩ = some (.int .i64 m) := by_cell (c1 ⟨w2, B2.out⟩)
    have k2 : ∀ p : BelowBy w2, p.w.cell? ⟨W.heap.size, 2, none⟩ = some (.int .i64 d) := by_cell (c2 ⟨w2, B2.out⟩)
    have k3 : ∀ p : BelowBy w2, p.w.cell? ⟨W.heap.size, 3, none⟩ = some (.int .i64 h) := by_cell (c3 ⟨w2, B2.out⟩)
    have k4 : ∀ p : BelowBy w2, p.w.cell? ⟨W.heap.size, 4, none⟩ = some (.int .i64 mi) := by_cell (c4 ⟨w2, B2.out⟩)
    have k5 : ∀ p : BelowBy w2, p.w.cell? ⟨W.heap.size, 5, none⟩ = some (.int .i64 se) := by_cell (c5 ⟨w2, B2.out⟩)
    have B3 := hide (HB0.out.trans (B2.out.mono (Nat.le_of_lt HSZ.out)))
    clear c0 c1 c2 c3 c4 c5 B1
    refine wp_region_below (by kernel_rfl) (by kernel_rfl) ?_
    repeat (refine WQ.step (fun K hK => ?_); go_simp; first | (refine hK _ ?_; clear hK K) | (apply Exists.intro; refine ⟨fun _ => ?_, hK _ ?_⟩; (first | (go_at_call 11; exact below_of (v := .bool true) (H3 _).out)); clear hK K))
    refine WQ.nil ?_
    rintro w3 ⟨⟨_, hw3⟩, rfl⟩
    go_wp2_with fail
    go_ret
    exact ⟨by simp, B3.out.trans (hw3.mono B3.out.size)⟩
end Go.Proofs.Ythhajodedmaefaa.T
