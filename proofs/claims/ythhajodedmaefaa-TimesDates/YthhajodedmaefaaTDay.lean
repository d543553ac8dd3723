/- The reference's day: contract. -/
import Derived.Test.YthhajodedmaefaaTRef
namespace Go.Proofs.Ythhajodedmaefaa.T
set_option maxRecDepth 100000
open Go Go.RowKit
set_option linter.unusedVariables false
set_option maxHeartbeats 4000000 in
theorem day_c (Y M : Nat) (d h mi se : Int) (w : World) (hY : 1000 ≤ Y ∧ Y ≤ 3000) (hM : 1 ≤ M ∧ M ≤ 12) (hd : 1 ≤ d ∧ d ≤ 31) : Calls Try.prog 31 #[.agg #[.int .i64 (Y : Int), .int .i64 (M : Int), .int .i64 d, .int .i64 h, .int .i64 mi, .int .i64 se]] w fun e w' => e = .returned (.int .i64 (dn Y M d)) ∧ Below w.heap.size w w' := by
  obtain ⟨A, hA⟩ : ∃ A : Nat, A = max Y 1970 := ⟨_, rfl⟩
  have hA1 : 1970 ≤ A ∧ A ≤ 3000 ∧ Y ≤ A := by omega
  have HA := hide (show A = Y ∨ A = 1970 by omega)
  clear hA
  obtain ⟨v, hv⟩ : ∃ v, v = dn (Y : Int) (M : Int) d := ⟨_, rfl⟩
  have HV : Hid (v = yn (Y : Int) + mn (Y : Int) (M : Int) + d - 1) := hv
  rw [← hv]
  clear hv
  go_enter Try.func31, Try.ntmps31
  go_wp2_with fail
  go_loopg [3, 4] (A - 1970) (fun gk u3 u4 wx => ∃ i : Nat, i + gk = A ∧ 1970 ≤ i ∧ u3 = .int .i64 (yn (i : Int)) ∧ u4 = .int .i64 (i : Int) ∧ (w.alloc (.cells #[.int .i64 (Y : Int), .int .i64 (M : Int), .int .i64 d, .int .i64 h, .int .i64 mi, .int .i64 se] 27)) = wx)
  case atStart => exact ⟨1970, by omega, by omega, by rw [show ((1970 : Nat) : Int) = 1970 from rfl, yn_1970], rfl, rfl⟩
  case round =>
    obtain ⟨i, hig, hi0, rfl, rfl, rfl⟩ := hrel
    cases gk with
    | zero =>
      obtain rfl : i = A := by omega
      have hge : ¬ (i : Int) < (Y : Int) := by omega
      have HB := yn_bd (y := i) (by omega) (by omega)
      go_wp2_with fail
      go_loopg [3, 5] (i - Y) (fun gk u3 u5 wx => ∃ j : Nat, j + gk = i ∧ Y ≤ j ∧ u3 = .int .i64 (yn (i : Int) + yn (Y : Int) - yn (j : Int)) ∧ u5 = .int .i64 (j : Int) ∧ (w.alloc (.cells #[.int .i64 (Y : Int), .int .i64 (M : Int), .int .i64 d, .int .i64 h, .int .i64 mi, .int .i64 se] 27)) = wx)
      case atStart => exact ⟨Y, by omega, by omega, by rw [show yn (i : Int) + yn (Y : Int) - yn (Y : Int) = yn (i : Int) by omega], rfl, rfl⟩
      case round =>
        obtain ⟨j, hjg, hj0, rfl, rfl, rfl⟩ := hrel
        cases gk with
        | zero =>
          obtain rfl : j = i := by omega
          have hge2 : ¬ (j : Int) < 1970 := by omega
          clear HA
          rw [show yn (j : Int) + yn (Y : Int) - yn (j : Int) = yn (Y : Int) by omega]
          have hbY := yn_bd (y := Y) (by omega) (by omega)
          clear hge HB
          have hw0 : Below w.heap.size w (w.alloc (.cells #[.int .i64 (Y : Int), .int .i64 (M : Int), .int .i64 d, .int .i64 h, .int .i64 mi, .int .i64 se] 27)) := (Below.refl _ w).alloc (Nat.le_refl _) _
          have HC0 : (w.alloc (.cells #[.int .i64 (Y : Int), .int .i64 (M : Int), .int .i64 d, .int .i64 h, .int .i64 mi, .int .i64 se] 27)).cell? ⟨w.heap.size, 0, none⟩ = some (.int .i64 (Y : Int)) := cells_new w _ _ 0 _ rfl
          have HC1 : (w.alloc (.cells #[.int .i64 (Y : Int), .int .i64 (M : Int), .int .i64 d, .int .i64 h, .int .i64 mi, .int .i64 se] 27)).cell? ⟨w.heap.size, 1, none⟩ = some (.int .i64 (M : Int)) := cells_new w _ _ 1 _ rfl
          have HC2 : (w.alloc (.cells #[.int .i64 (Y : Int), .int .i64 (M : Int), .int .i64 d, .int .i64 h, .int .i64 mi, .int .i64 se] 27)).cell? ⟨w.heap.size, 2, none⟩ = some (.int .i64 d) := cells_new w _ _ 2 _ rfl
          have hsz : (w.alloc (.cells #[.int .i64 (Y : Int), .int .i64 (M : Int), .int .i64 d, .int .i64 h, .int .i64 mi, .int .i64 se] 27)).heap.size = w.heap.size + 1 := by simp
          generalize (w.alloc (.cells #[.int .i64 (Y : Int), .int .i64 (M : Int), .int .i64 d, .int .i64 h, .int .i64 mi, .int .i64 se] 27)) = W1 at *
          have W0 := hide hw0
          have WS := hide hsz
          have H0 := hide HC0
          have H1 := hide HC1
          have H2 := hide HC2
          clear hw0 hsz HC0 HC1 HC2
          go_wp2_with fail
          go_loopg [3, 6] (M - 1) (fun gk u3 u6 wx => ∃ k : Nat, k + gk = M ∧ 1 ≤ k ∧ u3 = .int .i64 (yn (Y : Int) + mn (Y : Int) (k : Int)) ∧ u6 = .int .i64 (k : Int) ∧ Hid (Below (w.heap.size + 1) W1 wx))
          case atStart => exact ⟨1, by omega, by omega, by rw [show ((1 : Nat) : Int) = 1 from rfl, mn_1]; simp, rfl, Below.refl _ _⟩
          case round =>
            obtain ⟨k, hkg, hk0, rfl, rfl, BX⟩ := hrel
            have hc0 := BX.out.cell (p := ⟨w.heap.size, 0, none⟩) (by show w.heap.size < _; omega)
            have hc1 := BX.out.cell (p := ⟨w.heap.size, 1, none⟩) (by show w.heap.size < _; omega)
            have hc2 := BX.out.cell (p := ⟨w.heap.size, 2, none⟩) (by show w.heap.size < _; omega)
            rw [H0.out] at hc0
            rw [H1.out] at hc1
            rw [H2.out] at hc2
            have hmb := mn_bd (Y : Int) (m := k) (by omega) (by omega)
            cases gk with
            | zero =>
              obtain rfl : k = M := by omega
              have hge3 : ¬ (k : Int) < (k : Int) := by omega
              generalize mn (Y : Int) (k : Int) = x at *
              generalize yn (Y : Int) = z at *
              go_wp2_with fail
              go_ret
              exact ⟨by rw [HV.out]; rfl, W0.out.trans (BX.out.mono (by omega))⟩
            | succ g1 =>
              have hlt3 : (k : Int) < (M : Int) := by omega
              have HL := hide (month_c Y k wr hk0 (by omega))
              have HS := hide (mn_succ (Y : Int) (m := k) (by omega) (by omega))
              have hb2 := md_le (Y : Int) (k : Int)
              generalize mn (Y : Int) (k : Int) = x at *
              generalize md (Y : Int) (k : Int) = dd at *
              go_wp2_with (go_at_call 30; refine HL.out.mono ?_; rintro e w1 ⟨rfl, hw⟩; have B2 := hide hw; clear hw HL)
              go_roundg g1
              case measure => omega
              case rel => exact ⟨k + 1, by omega, by omega, by rw [show ((k + 1 : Nat) : Int) = (k : Int) + 1 by omega, HS.out]; first | rfl | go_num, by go_num, BX.out.trans (B2.out.mono (by have := BX.out.size; have := WS.out; omega))⟩
        | succ g1 =>
          have hlt2 : (j : Int) < 1970 := by have := HA.out; omega
          have HL := hide (year_c j (w.alloc (.cells #[.int .i64 (Y : Int), .int .i64 (M : Int), .int .i64 d, .int .i64 h, .int .i64 mi, .int .i64 se] 27)))
          have HS := hide (yn_succ (j : Int))
          have hb := yn_bd (y := j) (by omega) (by omega)
          have hbY := yn_bd (y := Y) (by omega) (by omega)
          have hb2 := yd_le (j : Int)
          generalize yn (j : Int) = z at *
          generalize yd (j : Int) = dd at *
          generalize yn (i : Int) = zi at *
          generalize yn (Y : Int) = zy at *
          go_wp2_with (go_at_call 35; refine HL.out.mono ?_; rintro e w1 ⟨rfl, hw⟩; obtain rfl := hw.symm; clear HL)
          go_roundg g1
          case measure => omega
          case rel => exact ⟨j + 1, by omega, by omega, by rw [show ((j + 1 : Nat) : Int) = (j : Int) + 1 by omega, HS.out, show zi + zy - (z + dd) = zi + zy - z - dd by omega], by go_num, rfl⟩
    | succ g1 =>
      have hlt : (i : Int) < (Y : Int) := by have := HA.out; omega
      have HL := hide (year_c i (w.alloc (.cells #[.int .i64 (Y : Int), .int .i64 (M : Int), .int .i64 d, .int .i64 h, .int .i64 mi, .int .i64 se] 27)))
      have HS := hide (yn_succ (i : Int))
      have hb := yn_bd (y := i) (by omega) (by omega)
      have hb2 := yd_le (i : Int)
      generalize yn (i : Int) = z at *
      generalize yd (i : Int) = dd at *
      go_wp2_with (go_at_call 35; refine HL.out.mono ?_; rintro e w1 ⟨rfl, hw⟩; obtain rfl := hw.symm; clear HL)
      go_roundg g1
      case measure => omega
      case rel => exact ⟨i + 1, by omega, by omega, by rw [show ((i + 1 : Nat) : Int) = (i : Int) + 1 by omega, HS.out], by go_num, rfl⟩
end Go.Proofs.Ythhajodedmaefaa.T
