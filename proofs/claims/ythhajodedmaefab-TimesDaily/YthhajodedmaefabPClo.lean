/- The closures of the program's dateOfDay: contracts. -/
import Derived.Test.YthhajodedmaefabPSea
namespace Go.Proofs.Ythhajodedmaefab.T
set_option maxRecDepth 100000
open Go Go.RowKit
set_option linter.unusedVariables false
set_option maxHeartbeats 4000000 in
theorem clo1_c (y M : Nat) (day : Int) (D : Nat) (w : World) (hD : w.cell? ⟨D, 0, none⟩ = some (.int .i64 day)) (hy : 1000 ≤ y) (hy2 : y ≤ 3000) (hm2 : M ≤ 12) :
    Calls Try.prog 14 #[.int .i64 (y : Int), .int .i64 (M : Int), .pointer (some ⟨D, 0, none⟩)] w fun e w' => e = .returned (.bool (decide (day < yn (y : Int) + mn (y : Int) ((M : Int) + 1)))) ∧ Below w.heap.size w w' := by
  have HF := fun W => hide (firstDay_c y (M + 1) W hy hy2 (by omega) (by omega))
  rw [show ((M + 1 : Nat) : Int) = (M : Int) + 1 by omega] at HF
  have hwr : IntKind.i64.wrap ((M : Int) + 1) = (M : Int) + 1 := iw (by omega) (by omega)
  have k := by_cell hD
  clear hD
  generalize yn (y : Int) + mn (y : Int) ((M : Int) + 1) = E at *
  go_enter Try.func14, Try.ntmps14
  go_upto_region 1 with fail
  refine wp_region_below (by kernel_rfl) (by kernel_rfl) ?_
  repeat (refine WQ.step (fun K hK => ?_); go_simp; first | (refine hK _ ?_; clear hK K) | (apply Exists.intro; refine ⟨fun _ => ?_, hK _ ?_⟩; (first | (go_at_call 15; exact below_of (v := .int .i64 E) (HF _).out)); clear hK K))
  refine WQ.nil ?_
  rintro w2 ⟨⟨_, hw2⟩, rfl⟩
  go_wp2_with fail
  go_ret
  exact ⟨rfl, hw2⟩
set_option maxHeartbeats 4000000 in
theorem clo2_c (n : Nat) (day : Int) (D C : Nat) (w : World) (hD : w.cell? ⟨D, 0, none⟩ = some (.int .i64 day)) (hC : w.cell? ⟨C, 0, none⟩ = some (.func (.func 14) #[] #[.pointer (some ⟨D, 0, none⟩)])) (hn : n ≤ 1000) :
    Calls Try.prog 17 #[.int .i64 (n : Int), .pointer (some ⟨C, 0, none⟩)] w fun e w' => e = .returned (.bool (decide (day < yn (1678 + (n : Int))))) ∧ Below w.heap.size w w' := by
  have HF := hide (clo1_c (1677 + n) 12 day D w hD (by omega) (by omega) (by omega))
  rw [show ((1677 + n : Nat) : Int) = 1677 + (n : Int) by omega, show ((12 : Nat) : Int) = 12 from rfl, show (12 : Int) + 1 = 13 from rfl, mn_13, ← yn_succ, show 1677 + (n : Int) + 1 = 1678 + (n : Int) by omega] at HF
  clear hD
  have hn2 : (n : Int) ≤ 1000 := by omega
  generalize decide (day < yn (1678 + (n : Int))) = b at *
  go_enter Try.func17, Try.ntmps17
  go_wp2_with (go_at_call 14; refine HF.out.mono ?_; rintro e w1 ⟨rfl, hw⟩; have B1 := hide hw; clear hw HF)
  go_ret
  exact ⟨rfl, B1.out⟩
set_option maxHeartbeats 4000000 in
theorem clo3_c (y n : Nat) (day : Int) (D C Y : Nat) (w : World) (hD : w.cell? ⟨D, 0, none⟩ = some (.int .i64 day)) (hC : w.cell? ⟨C, 0, none⟩ = some (.func (.func 14) #[] #[.pointer (some ⟨D, 0, none⟩)])) (hY : w.cell? ⟨Y, 0, none⟩ = some (.int .i64 (y : Int))) (hn : n ≤ 11) (hy : 1000 ≤ y) (hy2 : y ≤ 3000) :
    Calls Try.prog 18 #[.int .i64 (n : Int), .pointer (some ⟨C, 0, none⟩), .pointer (some ⟨Y, 0, none⟩)] w fun e w' => e = .returned (.bool (decide (day < yn (y : Int) + mn (y : Int) ((n : Int) + 2)))) ∧ Below w.heap.size w w' := by
  have HF := hide (clo1_c y (1 + n) day D w hD (by omega) (by omega) (by omega))
  rw [show ((1 + n : Nat) : Int) = 1 + (n : Int) by omega, show 1 + (n : Int) + 1 = (n : Int) + 2 by omega] at HF
  clear hD
  have hn2 : (n : Int) ≤ 1000 := by omega
  generalize decide (day < yn (y : Int) + mn (y : Int) ((n : Int) + 2)) = b at *
  go_enter Try.func18, Try.ntmps18
  go_wp2_with (go_at_call 14; refine HF.out.mono ?_; rintro e w1 ⟨rfl, hw⟩; have B1 := hide hw; clear hw HF)
  go_ret
  exact ⟨rfl, B1.out⟩
end Go.Proofs.Ythhajodedmaefab.T
