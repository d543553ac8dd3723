/- The reference's FromDate, where the clock is amiss: contract. -/
import Derived.Test.YthhajodedmaefaaTFrom
namespace Go.Proofs.Ythhajodedmaefaa.T
set_option maxRecDepth 100000
open Go Go.RowKit
set_option linter.unusedVariables false
set_option maxHeartbeats 16000000 in
theorem fromDate_3 (Y M : Nat) (d h mi se : Int) (w : World) (hY : 1700 ≤ Y ∧ Y ≤ 2250) (hM : 1 ≤ M ∧ M ≤ 12) (hd : 1 ≤ d) (hd2 : d ≤ md (Y : Int) (M : Int)) (hno : ¬ ((0 ≤ h ∧ h ≤ 23) ∧ (0 ≤ mi ∧ mi ≤ 59) ∧ (0 ≤ se ∧ se ≤ 59))) : Calls Try.prog 10 #[.agg #[.int .i64 (Y : Int), .int .i64 (M : Int), .int .i64 d, .int .i64 h, .int .i64 mi, .int .i64 se]] w (FdOk Y M d h mi se w) := by
  have HM := fun W => hide (month_c Y M W hM.1 hM.2)
  have HF : Hid (∀ w', Below w.heap.size w w' → FdOk Y M d h mi se w (.returned (.tuple #[.int .i64 0, .bool false])) w') := hide fun w' hw => ⟨hw, .inr ⟨fun q => hno q.2.2.2, rfl⟩⟩
  have hc : h < 0 ∨ (¬ h < 0 ∧ 23 < h) ∨ (¬ h < 0 ∧ ¬ 23 < h ∧ mi < 0) ∨ (¬ h < 0 ∧ ¬ 23 < h ∧ ¬ mi < 0 ∧ 59 < mi) ∨ (¬ h < 0 ∧ ¬ 23 < h ∧ ¬ mi < 0 ∧ ¬ 59 < mi ∧ se < 0) ∨ (¬ h < 0 ∧ ¬ 23 < h ∧ ¬ mi < 0 ∧ ¬ 59 < mi ∧ ¬ se < 0 ∧ 59 < se) := by omega
  clear hno
  have HCC := hide hc
  clear hc
  have h1 : ¬ (Y : Int) < 1700 := by omega
  have h2 : ¬ 2250 < (Y : Int) := by omega
  have h3 : ¬ (M : Int) < 1 := by omega
  have h4 : ¬ 12 < (M : Int) := by omega
  have h5 : ¬ d < 1 := by omega
  have h6 : ¬ md (Y : Int) (M : Int) < d := by omega
  have hx := md_le (Y : Int) (M : Int)
  generalize md (Y : Int) (M : Int) = x at *
  have HC0 : (w.alloc (.cells #[.int .i64 (Y : Int), .int .i64 (M : Int), .int .i64 d, .int .i64 h, .int .i64 mi, .int .i64 se] 27)).cell? ⟨w.heap.size, 0, none⟩ = some (.int .i64 (Y : Int)) := cells_new w #[.int .i64 (Y : Int), .int .i64 (M : Int), .int .i64 d, .int .i64 h, .int .i64 mi, .int .i64 se] 27 0 _ rfl
  have HC1 : (w.alloc (.cells #[.int .i64 (Y : Int), .int .i64 (M : Int), .int .i64 d, .int .i64 h, .int .i64 mi, .int .i64 se] 27)).cell? ⟨w.heap.size, 1, none⟩ = some (.int .i64 (M : Int)) := cells_new w #[.int .i64 (Y : Int), .int .i64 (M : Int), .int .i64 d, .int .i64 h, .int .i64 mi, .int .i64 se] 27 1 _ rfl
  have HC2 : (w.alloc (.cells #[.int .i64 (Y : Int), .int .i64 (M : Int), .int .i64 d, .int .i64 h, .int .i64 mi, .int .i64 se] 27)).cell? ⟨w.heap.size, 2, none⟩ = some (.int .i64 d) := cells_new w #[.int .i64 (Y : Int), .int .i64 (M : Int), .int .i64 d, .int .i64 h, .int .i64 mi, .int .i64 se] 27 2 _ rfl
  have HC3 : (w.alloc (.cells #[.int .i64 (Y : Int), .int .i64 (M : Int), .int .i64 d, .int .i64 h, .int .i64 mi, .int .i64 se] 27)).cell? ⟨w.heap.size, 3, none⟩ = some (.int .i64 h) := cells_new w #[.int .i64 (Y : Int), .int .i64 (M : Int), .int .i64 d, .int .i64 h, .int .i64 mi, .int .i64 se] 27 3 _ rfl
  have HC4 : (w.alloc (.cells #[.int .i64 (Y : Int), .int .i64 (M : Int), .int .i64 d, .int .i64 h, .int .i64 mi, .int .i64 se] 27)).cell? ⟨w.heap.size, 4, none⟩ = some (.int .i64 mi) := cells_new w #[.int .i64 (Y : Int), .int .i64 (M : Int), .int .i64 d, .int .i64 h, .int .i64 mi, .int .i64 se] 27 4 _ rfl
  have HC5 : (w.alloc (.cells #[.int .i64 (Y : Int), .int .i64 (M : Int), .int .i64 d, .int .i64 h, .int .i64 mi, .int .i64 se] 27)).cell? ⟨w.heap.size, 5, none⟩ = some (.int .i64 se) := cells_new w #[.int .i64 (Y : Int), .int .i64 (M : Int), .int .i64 d, .int .i64 h, .int .i64 mi, .int .i64 se] 27 5 _ rfl
  have hsz : (w.alloc (.cells #[.int .i64 (Y : Int), .int .i64 (M : Int), .int .i64 d, .int .i64 h, .int .i64 mi, .int .i64 se] 27)).heap.size = w.heap.size + 1 := by simp
  have hw0 : Below w.heap.size w (w.alloc (.cells #[.int .i64 (Y : Int), .int .i64 (M : Int), .int .i64 d, .int .i64 h, .int .i64 mi, .int .i64 se] 27)) := (Below.refl _ w).alloc (Nat.le_refl _) _
  go_enter Try.func10, Try.ntmps10
  go_upto_region 1 with fail
  generalize w.alloc (.cells #[.int .i64 (Y : Int), .int .i64 (M : Int), .int .i64 d, .int .i64 h, .int .i64 mi, .int .i64 se] 27) = W1 at *
  have WS := hide hsz
  have W0 := hide hw0
  clear hsz hw0
  go_region_held3 (fun W => W.cell? ⟨w.heap.size, 0, none⟩ = some (.int .i64 (Y : Int)) ∧ W.cell? ⟨w.heap.size, 1, none⟩ = some (.int .i64 (M : Int)) ∧ W.cell? ⟨w.heap.size, 2, none⟩ = some (.int .i64 d) ∧ W.cell? ⟨w.heap.size, 3, none⟩ = some (.int .i64 h) ∧ W.cell? ⟨w.heap.size, 4, none⟩ = some (.int .i64 mi) ∧ W.cell? ⟨w.heap.size, 5, none⟩ = some (.int .i64 se)) (first | exact ⟨HC0, HC1, HC2, HC3, HC4, HC5⟩ | exact ⟨k0, k1, k2, k3, k4, k5⟩ | assumption) (first
    | (go_at_call 30; refine (HM _).out.mono ?_; rintro e w1 ⟨rfl, hw⟩; have k0 := (hw.cell (p := ⟨w.heap.size, 0, none⟩) (by show w.heap.size < _; have := WS.out; first | omega | (simp; omega))).trans HC0; have k1 := (hw.cell (p := ⟨w.heap.size, 1, none⟩) (by show w.heap.size < _; have := WS.out; first | omega | (simp; omega))).trans HC1; have k2 := (hw.cell (p := ⟨w.heap.size, 2, none⟩) (by show w.heap.size < _; have := WS.out; first | omega | (simp; omega))).trans HC2; have k3 := (hw.cell (p := ⟨w.heap.size, 3, none⟩) (by show w.heap.size < _; have := WS.out; first | omega | (simp; omega))).trans HC3; have k4 := (hw.cell (p := ⟨w.heap.size, 4, none⟩) (by show w.heap.size < _; have := WS.out; first | omega | (simp; omega))).trans HC4; have k5 := (hw.cell (p := ⟨w.heap.size, 5, none⟩) (by show w.heap.size < _; have := WS.out; first | omega | (simp; omega))).trans HC5; have B2 := hide hw; clear hw HM))
  have B3 := hide ((show Below w.heap.size w W1.drew from below_drew W0.out 1).trans (B2.out.mono (show w.heap.size ≤ W1.heap.size by have := WS.out; omega)))
  clear B2 W0 WS HC0 HC1 HC2 HC3 HC4 HC5
  rcases HCC.out with g1 | ⟨g1, g2⟩ | ⟨g1, g2, g3⟩ | ⟨g1, g2, g3, g4⟩ | ⟨g1, g2, g3, g4, g5⟩ | ⟨g1, g2, g3, g4, g5, g6⟩
  all_goals
    clear HCC
    go_wp2_with fail
    go_ret2
    exact HF.out _ B3.out
end Go.Proofs.Ythhajodedmaefaa.T
