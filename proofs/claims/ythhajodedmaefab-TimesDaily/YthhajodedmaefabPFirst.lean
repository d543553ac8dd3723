/- The program's firstDay: contract. -/
import Derived.Test.YthhajodedmaefabPMon
namespace Go.Proofs.Ythhajodedmaefab.T
set_option maxRecDepth 100000
open Go Go.RowKit
set_option linter.unusedVariables false
theorem ly_bd {y : Int} (h1 : 1000 ≤ y) (h2 : y ≤ 3000) : 0 ≤ ly y ∧ ly y ≤ 1000 := by unfold ly; omega
set_option maxHeartbeats 4000000 in
theorem firstDay_c (y m : Nat) (w : World) (hy : 1000 ≤ y) (hy2 : y ≤ 3000) (hm : 1 ≤ m) (hm2 : m ≤ 13) : Calls Try.prog 15 #[.int .i64 (y : Int), .int .i64 (m : Int)] w fun e w' => e = .returned (.int .i64 (yn (y : Int) + mn (y : Int) (m : Int))) ∧ Below w.heap.size w w' := by
  obtain ⟨v, hv⟩ : ∃ v, v = yn (y : Int) + mn (y : Int) (m : Int) := ⟨_, rfl⟩
  rw [← hv]
  have HV := hide hv
  clear hv
  obtain ⟨n, rfl⟩ : ∃ n : Nat, m = n + 1 := ⟨m - 1, by omega⟩
  have HL1 := hide (longYears_c y w (by omega) (by omega))
  have HL2 := hide (longYears_c 1970 w (by omega) (by omega))
  rw [show ly ((1970 : Nat) : Int) = 477 by decide, show ((1970 : Nat) : Int) = 1970 from rfl] at HL2
  have HM := hide (months_c y w)
  have hb := ly_bd (y := y) (by omega) (by omega)
  have HY := hide (yn_ly (y : Int))
  have e1 : ((n + 1 : Nat) : Int) - 1 = (n : Int) := by omega
  have HN : Hid (((n + 1 : Nat) : Int) = (n : Int) + 1) := hide (by omega)
  have hn : (n : Int) ≤ 12 := by omega
  have hnn : n ≤ 12 := by omega
  generalize ((n + 1 : Nat) : Int) = m at *
  obtain rfl := HN.out
  clear e1
  generalize ly (y : Int) = L at *
  go_enter Try.func15, Try.ntmps15
  go_upto_region 2 with (first
    | (go_at_call 23; refine HL1.out.mono ?_; rintro e w1 ⟨rfl, hw⟩; obtain rfl := hw.symm; clear HL1)
    | (go_at_call 23; refine HL2.out.mono ?_; rintro e w1 ⟨rfl, hw⟩; obtain rfl := hw.symm; clear HL2))
  have HMA := hide (mA_at (y : Int))
  unfold mA at HM HMA
  generalize md (y : Int) 2 = F at *
  go_upto_region 4 with (go_at_call 24; refine HM.out.mono ?_; rintro e w1 ⟨rfl, hw⟩; have B1 := hide hw; clear hw HM)
  rw [← HY.out]
  clear HY
  have hw0 : Below w.heap.size w (w1.alloc (.cells #[.int .i64 31, .int .i64 F, .int .i64 31, .int .i64 30, .int .i64 31, .int .i64 30, .int .i64 31, .int .i64 31, .int .i64 30, .int .i64 31, .int .i64 30, .int .i64 31] 25)) := B1.out.alloc B1.out.size _
  have HC : Hid (∀ i, i < 12 → (w1.alloc (.cells #[.int .i64 31, .int .i64 F, .int .i64 31, .int .i64 30, .int .i64 31, .int .i64 30, .int .i64 31, .int .i64 31, .int .i64 30, .int .i64 31, .int .i64 30, .int .i64 31] 25)).cell? ⟨w1.heap.size, i, none⟩ = some (.int .i64 (md (y : Int) ((i : Int) + 1)))) := hide fun i hi => cells_new w1 _ _ i _ (HMA.out i hi)
  have W0 := hide hw0
  clear hw0 B1 HMA
  generalize (w1.alloc (.cells #[.int .i64 31, .int .i64 F, .int .i64 31, .int .i64 30, .int .i64 31, .int .i64 30, .int .i64 31, .int .i64 31, .int .i64 30, .int .i64 31, .int .i64 30, .int .i64 31] 25)) = W2 at *
  generalize w1.heap.size = b at *
  have hyb := yn_bd (y := y) (by omega) (by omega)
  go_loopg [5, 8, 23] n (fun gk u5 u8 u23 wx => ∃ i : Nat, i + gk = n ∧ u5 = .int .i64 (yn (y : Int) + mn (y : Int) ((i : Int) + 1)) ∧ u23 = .int .i64 (i : Int) ∧ wx = W2)
  case atStart => exact ⟨0, by omega, by rw [show ((0 : Nat) : Int) + 1 = 1 from rfl, mn_1, Int.add_zero], rfl, rfl⟩
  case round =>
    obtain ⟨i, hig, rfl, rfl, hwx⟩ := hrel
    obtain rfl := hwx.symm
    have hmb := mn_bd (y : Int) (m := (i : Int) + 1) (by omega) (by omega)
    cases gk with
    | zero =>
      obtain rfl : i = n := by omega
      have hge : ¬ (i : Int) < (i : Int) := by omega
      generalize mn (y : Int) ((i : Int) + 1) = x at *
      generalize yn (y : Int) = z at *
      go_wp2_with fail
      go_ret
      exact ⟨by rw [HV.out]; rfl, W0.out⟩
    | succ g1 =>
      have hlt : (i : Int) < (n : Int) := by omega
      have hlt2 : i < n := by omega
      have hc := HC.out i (by omega)
      have HS := hide (mn_succ (y : Int) (m := (i : Int) + 1) (by omega) (by omega))
      have hb2 := md_le (y : Int) ((i : Int) + 1)
      generalize mn (y : Int) ((i : Int) + 1) = x at *
      generalize md (y : Int) ((i : Int) + 1) = dd at *
      generalize yn (y : Int) = z at *
      go_wp2_with fail
      go_roundg g1
      case measure => omega
      case rel => exact ⟨i + 1, by omega, by rw [show ((i + 1 : Nat) : Int) + 1 = (i : Int) + 1 + 1 by omega, HS.out, ← Int.add_assoc], by go_num, rfl⟩
end Go.Proofs.Ythhajodedmaefab.T
