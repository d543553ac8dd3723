/- The reference's FromDate: contract. -/
import Derived.Test.YthhajodedmaefaaTDay
import Derived.Deep.DeepCutAuto
import Derived.Deep.RegionWith
import Derived.Deep.RegionLaw
import Derived.Deep.RegionHeld3
import Derived.BigRegion
namespace Go.Proofs.Ythhajodedmaefaa.T
set_option maxRecDepth 100000
open Go Go.RowKit
set_option linter.unusedVariables false
/-- What FromDate answers. -/
def FdOk (y m d h mi se : Int) (w : World) (e : Ending) (w' : World) : Prop := Below w.heap.size w w' ∧ ((Vd y m d h mi se ∧ e = .returned (.tuple #[.int .i64 (sc y m d h mi se * 1000000000), .bool true])) ∨ (¬ Vd y m d h mi se ∧ e = .returned (.tuple #[.int .i64 0, .bool false])))
set_option maxHeartbeats 8000000 in
theorem fromDate_1 (y m d h mi se : Int) (w : World) (hno : ¬ ((1700 ≤ y ∧ y ≤ 2250) ∧ (1 ≤ m ∧ m ≤ 12) ∧ 1 ≤ d)) : Calls Try.prog 10 #[.agg #[.int .i64 y, .int .i64 m, .int .i64 d, .int .i64 h, .int .i64 mi, .int .i64 se]] w (FdOk y m d h mi se w) := by
  have HF : Hid (∀ w', Below w.heap.size w w' → FdOk y m d h mi se w (.returned (.tuple #[.int .i64 0, .bool false])) w') := hide fun w' hw => ⟨hw, .inr ⟨fun q => hno ⟨q.1, q.2.1, q.2.2.1.1⟩, rfl⟩⟩
  have hc : y < 1700 ∨ (¬ y < 1700 ∧ 2250 < y) ∨ (¬ y < 1700 ∧ ¬ 2250 < y ∧ m < 1) ∨ (¬ y < 1700 ∧ ¬ 2250 < y ∧ ¬ m < 1 ∧ 12 < m) ∨ (¬ y < 1700 ∧ ¬ 2250 < y ∧ ¬ m < 1 ∧ ¬ 12 < m ∧ d < 1) := by omega
  clear hno
  rcases hc with h1 | ⟨h1, h2⟩ | ⟨h1, h2, h3⟩ | ⟨h1, h2, h3, h4⟩ | ⟨h1, h2, h3, h4, h5⟩
  all_goals
    go_enter Try.func10, Try.ntmps10
    go_upto_region 1 with fail
    go_quiet (fail)
    go_wp2_with fail
    go_ret2
    exact HF.out _ (below_drew ((Below.refl _ w).alloc (Nat.le_refl _) _) nq)
set_option maxHeartbeats 8000000 in
theorem fromDate_2 (Y M : Nat) (d h mi se : Int) (w : World) (hY : 1700 ≤ Y ∧ Y ≤ 2250) (hM : 1 ≤ M ∧ M ≤ 12) (hd : 1 ≤ d) (hno : md (Y : Int) (M : Int) < d) : Calls Try.prog 10 #[.agg #[.int .i64 (Y : Int), .int .i64 (M : Int), .int .i64 d, .int .i64 h, .int .i64 mi, .int .i64 se]] w (FdOk Y M d h mi se w) := by
  have HM := fun W => hide (month_c Y M W hM.1 hM.2)
  have HF : Hid (∀ w', Below w.heap.size w w' → FdOk Y M d h mi se w (.returned (.tuple #[.int .i64 0, .bool false])) w') := hide fun w' hw => ⟨hw, .inr ⟨fun q => by have := q.2.2.1.2; omega, rfl⟩⟩
  have h1 : ¬ (Y : Int) < 1700 := by omega
  have h2 : ¬ 2250 < (Y : Int) := by omega
  have h3 : ¬ (M : Int) < 1 := by omega
  have h4 : ¬ 12 < (M : Int) := by omega
  have h5 : ¬ d < 1 := by omega
  generalize md (Y : Int) (M : Int) = x at *
  have HC0 : (w.alloc (.cells #[.int .i64 (Y : Int), .int .i64 (M : Int), .int .i64 d, .int .i64 h, .int .i64 mi, .int .i64 se] 27)).cell? ⟨w.heap.size, 0, none⟩ = some (.int .i64 (Y : Int)) := cells_new w #[.int .i64 (Y : Int), .int .i64 (M : Int), .int .i64 d, .int .i64 h, .int .i64 mi, .int .i64 se] 27 0 _ rfl
  have HC1 : (w.alloc (.cells #[.int .i64 (Y : Int), .int .i64 (M : Int), .int .i64 d, .int .i64 h, .int .i64 mi, .int .i64 se] 27)).cell? ⟨w.heap.size, 1, none⟩ = some (.int .i64 (M : Int)) := cells_new w #[.int .i64 (Y : Int), .int .i64 (M : Int), .int .i64 d, .int .i64 h, .int .i64 mi, .int .i64 se] 27 1 _ rfl
  have HC2 : (w.alloc (.cells #[.int .i64 (Y : Int), .int .i64 (M : Int), .int .i64 d, .int .i64 h, .int .i64 mi, .int .i64 se] 27)).cell? ⟨w.heap.size, 2, none⟩ = some (.int .i64 d) := cells_new w #[.int .i64 (Y : Int), .int .i64 (M : Int), .int .i64 d, .int .i64 h, .int .i64 mi, .int .i64 se] 27 2 _ rfl
  have hsz : (w.alloc (.cells #[.int .i64 (Y : Int), .int .i64 (M : Int), .int .i64 d, .int .i64 h, .int .i64 mi, .int .i64 se] 27)).heap.size = w.heap.size + 1 := by simp
  have hw0 : Below w.heap.size w (w.alloc (.cells #[.int .i64 (Y : Int), .int .i64 (M : Int), .int .i64 d, .int .i64 h, .int .i64 mi, .int .i64 se] 27)) := (Below.refl _ w).alloc (Nat.le_refl _) _
  go_enter Try.func10, Try.ntmps10
  go_upto_region 1 with fail
  generalize w.alloc (.cells #[.int .i64 (Y : Int), .int .i64 (M : Int), .int .i64 d, .int .i64 h, .int .i64 mi, .int .i64 se] 27) = W1 at *
  have WS := hide hsz
  have W0 := hide hw0
  clear hsz hw0
  go_region_held3 (fun W => W.cell? ⟨w.heap.size, 0, none⟩ = some (.int .i64 (Y : Int)) ∧ W.cell? ⟨w.heap.size, 1, none⟩ = some (.int .i64 (M : Int)) ∧ W.cell? ⟨w.heap.size, 2, none⟩ = some (.int .i64 d)) (first | exact ⟨HC0, HC1, HC2⟩ | exact ⟨k0, k1, k2⟩ | assumption) (first
    | (go_at_call 30; refine (HM _).out.mono ?_; rintro e w1 ⟨rfl, hw⟩; have k0 := (hw.cell (p := ⟨w.heap.size, 0, none⟩) (by show w.heap.size < _; have := WS.out; first | omega | (simp; omega))).trans HC0; have k1 := (hw.cell (p := ⟨w.heap.size, 1, none⟩) (by show w.heap.size < _; have := WS.out; first | omega | (simp; omega))).trans HC1; have k2 := (hw.cell (p := ⟨w.heap.size, 2, none⟩) (by show w.heap.size < _; have := WS.out; first | omega | (simp; omega))).trans HC2; have B2 := hide hw; clear hw HM))
  all_goals
    go_wp2_with fail
    go_ret2
    exact HF.out _ ((show Below w.heap.size w W1.drew from below_drew W0.out 1).trans (B2.out.mono (show w.heap.size ≤ W1.heap.size by have := WS.out; omega)))
end Go.Proofs.Ythhajodedmaefaa.T
