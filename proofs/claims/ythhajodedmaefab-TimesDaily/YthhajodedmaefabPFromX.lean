/- The program's FromDate: contract. -/
import Derived.Test.YthhajodedmaefabPIsD
import Derived.Test.YthhajodedmaefabPNum
namespace Go.Proofs.Ythhajodedmaefab.T
set_option maxRecDepth 100000
open Go Go.RowKit
set_option linter.unusedVariables false
/-- What FromDate answers. -/
def FdV (y m d h mi se : Int) : Int := if Vd y m d h mi se then sc y m d h mi se * 1000000000 else 0
def FdB (y m d h mi se : Int) : Bool := decide (Vd y m d h mi se)
theorem dn_bd {Y N : Nat} {d : Int} (hY : 1700 ≤ Y ∧ Y ≤ 2250) (hn : N < 12) (hd : 1 ≤ d) (hd2 : d ≤ md (Y : Int) ((N : Int) + 1)) : -103000 ≤ dn Y ((N : Int) + 1) d ∧ dn Y ((N : Int) + 1) d ≤ 103000 := by
  have : -99000 ≤ yn (Y : Int) ∧ yn (Y : Int) ≤ 102500 := by unfold yn; omega
  have := mn_bd (Y : Int) (m := (N : Int) + 1) (by omega) (by omega)
  have := md_le (Y : Int) ((N : Int) + 1)
  unfold dn; omega
set_option maxHeartbeats 4000000 in
theorem pfromDate_no (y m d h mi se : Int) (w : World) (hno : ¬ Vd y m d h mi se) : Calls Try.prog 11 #[.agg #[.int .i64 y, .int .i64 m, .int .i64 d, .int .i64 h, .int .i64 mi, .int .i64 se]] w fun e w' => e = .returned (.tuple #[.int .i64 0, .bool false]) ∧ Below w.heap.size w w' := by
  have HI := fun W => hide (isDate_c y m d h mi se W)
  simp only [decide_eq_false hno] at HI
  have HB := hide ((Below.refl w.heap.size w).alloc (Nat.le_refl _) (.cells #[.int .i64 y, .int .i64 m, .int .i64 d, .int .i64 h, .int .i64 mi, .int .i64 se] 23))
  have hsz : w.heap.size ≤ (w.alloc (.cells #[.int .i64 y, .int .i64 m, .int .i64 d, .int .i64 h, .int .i64 mi, .int .i64 se] 23)).heap.size := by simp
  have HSZ := hide hsz
  clear hno hsz
  go_enter Try.func11, Try.ntmps11
  go_wp2_with (go_at_call 19; refine (HI _).out.mono ?_; rintro e w1 ⟨rfl, hw⟩; have B1 := hide hw; clear hw HI)
  go_ret2
  exact ⟨rfl, HB.out.trans (B1.out.mono HSZ.out)⟩
set_option maxHeartbeats 8000000 in
theorem pfromDate_yes (Y N : Nat) (d h mi se : Int) (w : World) (hY : 1700 ≤ Y ∧ Y ≤ 2250) (hn : N < 12) (hv : Vd Y ((N : Int) + 1) d h mi se) : Calls Try.prog 11 #[.agg #[.int .i64 (Y : Int), .int .i64 ((N : Int) + 1), .int .i64 d, .int .i64 h, .int .i64 mi, .int .i64 se]] w fun e w' => e = .returned (.tuple #[.int .i64 (sc Y ((N : Int) + 1) d h mi se * 1000000000), .bool true]) ∧ Below w.heap.size w w' := by
  have HI := fun W => hide (isDate_c (Y : Int) ((N : Int) + 1) d h mi se W)
  simp only [decide_eq_true hv] at HI
  have HF := fun W => hide (firstDay_c Y (N + 1) W (by omega) (by omega) (by omega) (by omega))
  rw [show ((N + 1 : Nat) : Int) = (N : Int) + 1 by omega] at HF
  obtain ⟨h1, h2, ⟨h3, h4⟩, hh, hmi, hse⟩ := hv
  have hdb := dn_bd hY hn h3 h4
  have hyb : -99000 ≤ yn (Y : Int) ∧ yn (Y : Int) ≤ 102500 := by unfold yn; omega
  have hmb := mn_bd (Y : Int) (m := (N : Int) + 1) (by omega) (by omega)
  have hd5 : 1 ≤ d ∧ d ≤ 31 := by have := md_le (Y : Int) ((N : Int) + 1); omega
  have HU := fun W => hide (fromUnix_c (sc Y ((N : Int) + 1) d h mi se) W)
  have HS : Hid (sc Y ((N : Int) + 1) d h mi se = (yn (Y : Int) + mn (Y : Int) ((N : Int) + 1) + d - 1) * 86400 + h * 3600 + mi * 60 + se) := hide rfl
  have hsb : -9000000000 ≤ sc Y ((N : Int) + 1) d h mi se ∧ sc Y ((N : Int) + 1) d h mi se ≤ 9000000000 := by unfold sc; omega
  have hF64 : F64 (sc Y ((N : Int) + 1) d h mi se * 1000000000) := ⟨by omega, by omega⟩
  rw [show pv (sc Y ((N : Int) + 1) d h mi se) 1000000000 = _ from if_pos hF64, show pb (sc Y ((N : Int) + 1) d h mi se) 1000000000 = true from decide_eq_true hF64] at HU
  clear hF64 hsb hdb h4 h3 h1 h2
  have HFX : Hid (IntKind.i64.wrap (IntKind.i64.wrap (yn (Y : Int) + mn (Y : Int) ((N : Int) + 1) + d) - 1) = yn (Y : Int) + mn (Y : Int) ((N : Int) + 1) + d - 1) := hide (by
    rw [iw (x := yn (Y : Int) + mn (Y : Int) ((N : Int) + 1) + d) (by omega) (by omega), iw (by omega) (by omega)])
  have hDb : -200000 ≤ yn (Y : Int) + mn (Y : Int) ((N : Int) + 1) + d - 1 ∧ yn (Y : Int) + mn (Y : Int) ((N : Int) + 1) + d - 1 ≤ 200000 := by omega
  generalize hD : yn (Y : Int) + mn (Y : Int) ((N : Int) + 1) + d - 1 = D at *
  clear hD
  generalize yn (Y : Int) + mn (Y : Int) ((N : Int) + 1) = E at *
  generalize sc Y ((N : Int) + 1) d h mi se = S at *
  have hw0 : Below w.heap.size w (w.alloc (.cells #[.int .i64 (Y : Int), .int .i64 ((N : Int) + 1), .int .i64 d, .int .i64 h, .int .i64 mi, .int .i64 se] 23)) := (Below.refl _ w).alloc (Nat.le_refl _) _
  have c0 := by_cell (cells_new w #[.int .i64 (Y : Int), .int .i64 ((N : Int) + 1), .int .i64 d, .int .i64 h, .int .i64 mi, .int .i64 se] 23 0 (.int .i64 ((Y : Int))) rfl)
  have c1 := by_cell (cells_new w #[.int .i64 (Y : Int), .int .i64 ((N : Int) + 1), .int .i64 d, .int .i64 h, .int .i64 mi, .int .i64 se] 23 1 (.int .i64 ((N : Int) + 1)) rfl)
  have c2 := by_cell (cells_new w #[.int .i64 (Y : Int), .int .i64 ((N : Int) + 1), .int .i64 d, .int .i64 h, .int .i64 mi, .int .i64 se] 23 2 (.int .i64 (d)) rfl)
  have c3 := by_cell (cells_new w #[.int .i64 (Y : Int), .int .i64 ((N : Int) + 1), .int .i64 d, .int .i64 h, .int .i64 mi, .int .i64 se] 23 3 (.int .i64 (h)) rfl)
  have c4 := by_cell (cells_new w #[.int .i64 (Y : Int), .int .i64 ((N : Int) + 1), .int .i64 d, .int .i64 h, .int .i64 mi, .int .i64 se] 23 4 (.int .i64 (mi)) rfl)
  have c5 := by_cell (cells_new w #[.int .i64 (Y : Int), .int .i64 ((N : Int) + 1), .int .i64 d, .int .i64 h, .int .i64 mi, .int .i64 se] 23 5 (.int .i64 (se)) rfl)
  have hsz : w.heap.size < (w.alloc (.cells #[.int .i64 (Y : Int), .int .i64 ((N : Int) + 1), .int .i64 d, .int .i64 h, .int .i64 mi, .int .i64 se] 23)).heap.size := by simp
  go_enter Try.func11, Try.ntmps11
  go_upto_region 3 with (go_at_call 19; refine (HI _).out.mono ?_; rintro e w1 ⟨rfl, hw⟩; have B1 := hide hw; clear hw HI)
  have k0 : ∀ p : BelowBy w1, p.w.cell? ⟨w.heap.size, 0, none⟩ = some (.int .i64 ((Y : Int))) := by_cell (c0 ⟨w1, B1.out⟩)
  have k1 : ∀ p : BelowBy w1, p.w.cell? ⟨w.heap.size, 1, none⟩ = some (.int .i64 ((N : Int) + 1)) := by_cell (c1 ⟨w1, B1.out⟩)
  have k2 : ∀ p : BelowBy w1, p.w.cell? ⟨w.heap.size, 2, none⟩ = some (.int .i64 (d)) := by_cell (c2 ⟨w1, B1.out⟩)
  have k3 : ∀ p : BelowBy w1, p.w.cell? ⟨w.heap.size, 3, none⟩ = some (.int .i64 (h)) := by_cell (c3 ⟨w1, B1.out⟩)
  have k4 : ∀ p : BelowBy w1, p.w.cell? ⟨w.heap.size, 4, none⟩ = some (.int .i64 (mi)) := by_cell (c4 ⟨w1, B1.out⟩)
  have k5 : ∀ p : BelowBy w1, p.w.cell? ⟨w.heap.size, 5, none⟩ = some (.int .i64 (se)) := by_cell (c5 ⟨w1, B1.out⟩)
  have W0 := hide (hw0.trans (B1.out.mono (Nat.le_of_lt hsz)))
  clear c0 c1 c2 c3 c4 c5 B1 hw0 hsz
  refine wp_region_below (by kernel_rfl) (by kernel_rfl) ?_
  repeat (refine WQ.step (fun K hK => ?_); go_simp; first | (refine hK _ ?_; clear hK K) | (apply Exists.intro; refine ⟨fun _ => ?_, hK _ ?_⟩; (first | (go_at_call 15; exact below_of (v := .int .i64 E) (HF _).out)); clear hK K))
  refine WQ.nil ?_
  rintro w2 ⟨⟨_, hw2⟩, rfl⟩
  have m3 : w2.cell? ⟨w.heap.size, 3, none⟩ = some (.int .i64 (h)) := k3 ⟨w2, hw2⟩
  have m4 : w2.cell? ⟨w.heap.size, 4, none⟩ = some (.int .i64 (mi)) := k4 ⟨w2, hw2⟩
  have m5 : w2.cell? ⟨w.heap.size, 5, none⟩ = some (.int .i64 (se)) := k5 ⟨w2, hw2⟩
  have W2 := hide (W0.out.trans (hw2.mono W0.out.size))
  clear k0 k1 k2 k3 k4 k5 hw2 W0
  rw [HFX.out]
  simp only [HS.out] at HU
  go_wp2_with (go_at_call 20; refine (HU _).out.mono ?_; rintro e w3 ⟨rfl, hw⟩; obtain rfl := hw.symm; clear HU)
  go_ret2
  exact ⟨by rw [HS.out]; rfl, W2.out⟩
/-- The program's FromDate, of any six numbers. -/
theorem pfromDate_c (y m d h mi se : Int) (w : World) : Calls Try.prog 11 #[.agg #[.int .i64 y, .int .i64 m, .int .i64 d, .int .i64 h, .int .i64 mi, .int .i64 se]] w fun e w' => e = .returned (.tuple #[.int .i64 (FdV y m d h mi se), .bool (FdB y m d h mi se)]) ∧ Below w.heap.size w w' := by
  by_cases hv : Vd y m d h mi se
  · rw [show FdV y m d h mi se = _ from if_pos hv, show FdB y m d h mi se = true from decide_eq_true hv]
    obtain ⟨h1, h2, h3⟩ := id hv
    obtain ⟨Y, rfl⟩ : ∃ Y : Nat, y = (Y : Int) := ⟨y.toNat, by omega⟩
    obtain ⟨N, rfl⟩ : ∃ N : Nat, m = (N : Int) + 1 := ⟨(m - 1).toNat, by omega⟩
    exact pfromDate_yes Y N d h mi se w (by omega) (by omega) hv
  · rw [show FdV y m d h mi se = 0 from if_neg hv, show FdB y m d h mi se = false from decide_eq_false hv]
    exact pfromDate_no y m d h mi se w hv
end Go.Proofs.Ythhajodedmaefab.T
