/- The reference's FromDate, of a date that may be: contract. -/
import Derived.Test.YthhajodedmaefaaTFroC
namespace Go.Proofs.Ythhajodedmaefaa.T
set_option maxRecDepth 100000
open Go Go.RowKit
set_option linter.unusedVariables false
set_option maxHeartbeats 16000000 in
theorem fromDate_4 (Y M : Nat) (d h mi se : Int) (w : World) (hY : 1700 ≤ Y ∧ Y ≤ 2250) (hM : 1 ≤ M ∧ M ≤ 12) (hd : 1 ≤ d) (hd2 : d ≤ md (Y : Int) (M : Int)) (hh : (0 ≤ h ∧ h ≤ 23) ∧ (0 ≤ mi ∧ mi ≤ 59) ∧ (0 ≤ se ∧ se ≤ 59)) : Calls Try.prog 10 #[.agg #[.int .i64 (Y : Int), .int .i64 (M : Int), .int .i64 d, .int .i64 h, .int .i64 mi, .int .i64 se]] w (FdOk Y M d h mi se w) := by
  have HM := fun W => hide (month_c Y M W hM.1 hM.2)
  have HV : Hid (Vd Y M d h mi se) := hide ⟨⟨by omega, by omega⟩, ⟨by omega, by omega⟩, ⟨hd, hd2⟩, hh⟩
  have HD := fun W => hide (day_c Y M d h mi se W ⟨by omega, by omega⟩ hM ⟨hd, by have := md_le (Y : Int) (M : Int); omega⟩)
  have hdb : -103000 ≤ dn Y M d ∧ dn Y M d ≤ 103000 := by
    have : -99000 ≤ yn (Y : Int) ∧ yn (Y : Int) ≤ 102500 := by unfold yn; omega
    have := mn_bd (Y : Int) (m := M) (by omega) (by omega)
    have := md_le (Y : Int) (M : Int)
    unfold dn; omega
  have HF : Hid (∀ w', Below w.heap.size w w' → FdOk Y M d h mi se w (.returned (.tuple #[.int .i64 ((dn Y M d * 86400 + h * 3600 + mi * 60 + se) * 1000000000), .bool true])) w') := hide fun w' hw => ⟨hw, .inl ⟨HV.out, rfl⟩⟩
  clear HV
  generalize dn Y M d = D at *
  have g1 : ¬ h < 0 := by omega
  have g2 : ¬ 23 < h := by omega
  have g3 : ¬ mi < 0 := by omega
  have g4 : ¬ 59 < mi := by omega
  have g5 : ¬ se < 0 := by omega
  have g6 : ¬ 59 < se := by omega
  have GH := hide hh
  have GD := hide hdb
  clear hh hdb
  have h1 : ¬ (Y : Int) < 1700 := by omega
  have h2 : ¬ 2250 < (Y : Int) := by omega
  have h3 : ¬ (M : Int) < 1 := by omega
  have h4 : ¬ 12 < (M : Int) := by omega
  have h5 : ¬ d < 1 := by omega
  have h6 : ¬ md (Y : Int) (M : Int) < d := by omega
  have hx := md_le (Y : Int) (M : Int)
  generalize md (Y : Int) (M : Int) = x at *
  have HC0 : (w.alloc (.cells #[.int .i64 (Y : Int), .int .i64 (M : Int), .int .i64 d, .int .i64 h, .int .i64 mi, .int .i64 se] 27)).cell? ⟨w.heap.size, 0, none⟩ = some (.int .i64 (Y : Int)) := cells_new w #[.int .i64 (Y : Int), .int .i64 (M : Int), .int .i64 d, .int .i64 h, .int .i64 mi, .int .i64 se] 27 0 _ rfl
  have HC1 : (w.alloc (.cells #[.int .i64 (Y : Int), .int .i64 (M : Int), .int .i64 d, .int .i64 h, .int .i64 mi, .int .i64 se] 27)).cell? ⟨w.heap.size, 1, none⟩ = some (.int .i64 (M : Int)) := cells_new w #[.int .i64 (Y : Int), .int .i64 (M : Int), .int .i64 d, .int .i64 h, .int .i64 mi, .int .i64 se] 27 1 _ rfl
  have HC2 : (w.alloc (.cells #[.int .i64 (Y : Int), .int .i64 (M : Int), .int .i64 d, .int .i64 h, .int .i64 mi, .int .i64 se] 27)).cell? ⟨w.heap.size, 2, none⟩ = some (.int .i64 d) := cells_new w #[.int .i64 (Y : Int), .int .i64 (M : Int), .int .i64 d, .int .i64 h, .int .i64 mi, .int .i64 se] 27 2 _ rfl
  have HC3 : (w.alloc (.cells #[.int .i64 (Y : Int), .int .i64 (M : Int), .int .i64 d, .int .i64 h, .int .i64 mi, .int .i64 se] 27)).cell? ⟨w.heap.size, 3, none⟩ = some (.int .i64 h) := cells_new w #[.int .i64 (Y : Int), .int .i64 (M : Int), .int .i64 d, .int .i64 h, .int .i64 mi, .int .i64 se] 27 3 _ rfl
  have HC4 : (w.alloc (.cells #[.int .i64 (Y : Int), .int .i64 (M : Int), .int .i64 d, .int .i64 h, .int .i64 mi, .int .i64 se] 27)).cell? ⟨w.heap.size, 4, none⟩ = some (.int .i64 mi) := cells_new w #[.int .i64 (Y : Int), .int .i64 (M : Int), .int .i64 d, .int .i64 h, .int .i64 mi, .int .i64 se] 27 4 _ rfl
  have HC5 : (w.alloc (.cells #[.int .i64 (Y : Int), .int .i64 (M : Int), .int .i64 d, .int .i64 h, .int .i64 mi, .int .i64 se] 27)).cell? ⟨w.heap.size, 5, none⟩ = some (.int .i64 se) := cells_new w #[.int .i64 (Y : Int), .int .i64 (M : Int), .int .i64 d, .int .i64 h, .int .i64 mi, .int .i64 se] 27 5 _ rfl
  have hsz : (w.alloc (.cells #[.int .i64 (Y : Int), .int .i64 (M : Int), .int .i64 d, .int .i64 h, .int .i64 mi, .int .i64 se] 27)).heap.size = w.heap.size + 1 := by simp
  have hw0 : Below w.heap.size w (w.alloc (.cells #[.int .i64 (Y : Int), .int .i64 (M : Int), .int .i64 d, .int .i64 h, .int .i64 mi, .int .i64 se] 27)) := (Below.refl _ w).alloc (Nat.le_refl _) _
  go_enter Try.func10, Try.ntmps10
  go_upto_region 1 with fail
  generalize w.alloc (.cells #[.int .i64 (Y : Int), .int .i64 (M : Int), .int .i64 d, .int .i64 h, .int .i64 mi, .int .i64 se] 27) = W1 at *
  have WS := hide hsz
  have W0 := hide hw0
  clear hsz hw0
  go_region_held3 (fun W => W.cell? ⟨w.heap.size, 0, none⟩ = some (.int .i64 (Y : Int)) ∧ W.cell? ⟨w.heap.size, 1, none⟩ = some (.int .i64 (M : Int)) ∧ W.cell? ⟨w.heap.size, 2, none⟩ = some (.int .i64 d) ∧ W.cell? ⟨w.heap.size, 3, none⟩ = some (.int .i64 h) ∧ W.cell? ⟨w.heap.size, 4, none⟩ = some (.int .i64 mi) ∧ W.cell? ⟨w.heap.size, 5, none⟩ = some (.int .i64 se)) (first | exact ⟨HC0, HC1, HC2, HC3, HC4, HC5⟩ | exact ⟨k0, k1, k2, k3, k4, k5⟩ | assumption) (first
    | (go_at_call 30; refine (HM _).out.mono ?_; rintro e w1 ⟨rfl, hw⟩; have k0 := (hw.cell (p := ⟨w.heap.size, 0, none⟩) (by show w.heap.size < _; have := WS.out; first | omega | (simp; omega))).trans HC0; have k1 := (hw.cell (p := ⟨w.heap.size, 1, none⟩) (by show w.heap.size < _; have := WS.out; first | omega | (simp; omega))).trans HC1; have k2 := (hw.cell (p := ⟨w.heap.size, 2, none⟩) (by show w.heap.size < _; have := WS.out; first | omega | (simp; omega))).trans HC2; have k3 := (hw.cell (p := ⟨w.heap.size, 3, none⟩) (by show w.heap.size < _; have := WS.out; first | omega | (simp; omega))).trans HC3; have k4 := (hw.cell (p := ⟨w.heap.size, 4, none⟩) (by show w.heap.size < _; have := WS.out; first | omega | (simp; omega))).trans HC4; have k5 := (hw.cell (p := ⟨w.heap.size, 5, none⟩) (by show w.heap.size < _; have := WS.out; first | omega | (simp; omega))).trans HC5; have B2 := hide hw; clear hw HM))
  have B3 := hide ((show Below w.heap.size w W1.drew from below_drew W0.out 1).trans (B2.out.mono (show w.heap.size ≤ W1.heap.size by have := WS.out; omega)))
  clear B2 W0 WS HC0 HC1 HC2 HC3 HC4 HC5
  go_upto_region 5 with fail
  have GW : Hid (w.heap.size < w1.heap.size) := hide (by
    rcases Nat.lt_or_ge w.heap.size w1.heap.size with q | q
    · exact q
    · exfalso; simp [World.cell?, Array.getElem?_eq_none (show w1.heap.size ≤ w.heap.size from q)] at k0)
  go_region_held3 (fun W => W.cell? ⟨w.heap.size, 0, none⟩ = some (.int .i64 (Y : Int)) ∧ W.cell? ⟨w.heap.size, 1, none⟩ = some (.int .i64 (M : Int)) ∧ W.cell? ⟨w.heap.size, 2, none⟩ = some (.int .i64 d) ∧ W.cell? ⟨w.heap.size, 3, none⟩ = some (.int .i64 h) ∧ W.cell? ⟨w.heap.size, 4, none⟩ = some (.int .i64 mi) ∧ W.cell? ⟨w.heap.size, 5, none⟩ = some (.int .i64 se)) (first | exact ⟨k0, k1, k2, k3, k4, k5⟩ | exact ⟨m0, m1, m2, m3, m4, m5⟩ | assumption) (first
    | (go_at_call 31; refine (HD _).out.mono ?_; rintro e w2 ⟨rfl, hw⟩; have m0 := (hw.cell (p := ⟨w.heap.size, 0, none⟩) (by show w.heap.size < _; have := GW.out; first | omega | (simp; omega))).trans k0; have m1 := (hw.cell (p := ⟨w.heap.size, 1, none⟩) (by show w.heap.size < _; have := GW.out; first | omega | (simp; omega))).trans k1; have m2 := (hw.cell (p := ⟨w.heap.size, 2, none⟩) (by show w.heap.size < _; have := GW.out; first | omega | (simp; omega))).trans k2; have m3 := (hw.cell (p := ⟨w.heap.size, 3, none⟩) (by show w.heap.size < _; have := GW.out; first | omega | (simp; omega))).trans k3; have m4 := (hw.cell (p := ⟨w.heap.size, 4, none⟩) (by show w.heap.size < _; have := GW.out; first | omega | (simp; omega))).trans k4; have m5 := (hw.cell (p := ⟨w.heap.size, 5, none⟩) (by show w.heap.size < _; have := GW.out; first | omega | (simp; omega))).trans k5; have B4 := hide hw; clear hw HD))
  have E : IntKind.i64.wrap (IntKind.i64.wrap (IntKind.i64.wrap (IntKind.i64.wrap (D * 86400) + IntKind.i64.wrap (h * 3600)) + IntKind.i64.wrap (mi * 60)) + se) = D * 86400 + h * 3600 + mi * 60 + se := by
    have a := GD.out
    have b := GH.out
    rw [iw (x := D * 86400) (by omega) (by omega), iw (x := h * 3600) (by omega) (by omega), iw (x := mi * 60) (by omega) (by omega), iw (x := D * 86400 + h * 3600) (by omega) (by omega), iw (x := D * 86400 + h * 3600 + mi * 60) (by omega) (by omega), iw (by omega) (by omega)]
  have T0 : -9223000000 ≤ D * 86400 + h * 3600 + mi * 60 + se ∧ D * 86400 + h * 3600 + mi * 60 + se ≤ 9223000000 := by
    have a := GD.out
    have b := GH.out
    omega
  rw [E]
  clear E g1 g2 g3 g4 g5 g6
  generalize D * 86400 + h * 3600 + mi * 60 + se = T at *
  go_wp2_with fail
  go_ret2
  exact HF.out _ ((show Below w.heap.size w w1.drew from below_drew B3.out 1).trans (B4.out.mono (Nat.le_of_lt GW.out)))
/-- The reference's FromDate: of any six numbers of 64 bits. -/
theorem fromDate_c (y m d h mi se : Int) (w : World) : Calls Try.prog 10 #[.agg #[.int .i64 y, .int .i64 m, .int .i64 d, .int .i64 h, .int .i64 mi, .int .i64 se]] w (FdOk y m d h mi se w) := by
  by_cases h1 : (1700 ≤ y ∧ y ≤ 2250) ∧ (1 ≤ m ∧ m ≤ 12) ∧ 1 ≤ d
  · obtain ⟨Y, rfl⟩ : ∃ Y : Nat, y = (Y : Int) := ⟨y.toNat, by omega⟩
    obtain ⟨M, rfl⟩ : ∃ M : Nat, m = (M : Int) := ⟨m.toNat, by omega⟩
    by_cases h2 : d ≤ md (Y : Int) (M : Int)
    · by_cases h3 : (0 ≤ h ∧ h ≤ 23) ∧ (0 ≤ mi ∧ mi ≤ 59) ∧ (0 ≤ se ∧ se ≤ 59)
      · exact fromDate_4 Y M d h mi se w (by omega) (by omega) h1.2.2 h2 h3
      · exact fromDate_3 Y M d h mi se w (by omega) (by omega) h1.2.2 h2 h3
    · exact fromDate_2 Y M d h mi se w (by omega) (by omega) h1.2.2 (by omega)
  · exact fromDate_1 y m d h mi se w h1
end Go.Proofs.Ythhajodedmaefaa.T
