/- The reference's ToDate: contract. -/
import Derived.Test.YthhajodedmaefaaTDay
import Derived.Test.YthhajodedmaefaaPTo
namespace Go.Proofs.Ythhajodedmaefaa.T
set_option maxRecDepth 100000
open Go Go.RowKit
set_option linter.unusedVariables false
theorem info6R : (Try.prog.info? 27).map (·.size) = some 6 := by kernel_rfl
set_option maxHeartbeats 8000000 in
theorem rtoDate_n {t : Int} {Y M : Nat} {d h mi se : Int} (w : World) (ht : -9223372036854775808 ≤ t) (ht2 : t ≤ 9223372036854775807) (hY : 1677 ≤ Y ∧ Y ≤ 2262) (hd : IsDt (t / 1000000000) Y M d h mi se) : Calls Try.prog 13 #[.int .i64 t] w fun e w' => e = .returned (.agg #[.int .i64 (Y : Int), .int .i64 (M : Int), .int .i64 d, .int .i64 h, .int .i64 mi, .int .i64 se]) ∧ Below w.heap.size w w' := by
  have HU := fun W => hide (down_c t 1000000000 W (by omega) ht ht2 (by omega))
  have hsb : -9223372037 ≤ t / 1000000000 ∧ t / 1000000000 ≤ 9223372036 := by omega
  generalize t / 1000000000 = s at *
  have HQ := fun W => hide (down_c s 86400 W (by omega) (by omega) (by omega) (by omega))
  obtain ⟨a1, a2, a3, a4, a5⟩ := hd
  have hqb : -106752 ≤ s / 86400 ∧ s / 86400 ≤ 106751 := by omega
  have hr : s - s / 86400 * 86400 = h * 3600 + mi * 60 + se := by omega
  generalize s / 86400 = q at *
  have r0 : 0 ≤ h * 3600 + mi * 60 + se := by omega
  have r1 : (h * 3600 + mi * 60 + se) / 3600 = h := by omega
  have r2 : (h * 3600 + mi * 60 + se) % 3600 / 60 = mi := by omega
  have r3 : (h * 3600 + mi * 60 + se) % 60 = se := by omega
  have r4 : h * 3600 + mi * 60 + se ≤ 86400 := by omega
  generalize h * 3600 + mi * 60 + se = r at *
  have IB := hide a1.bounds
  have IM := hide a1.1
  have ID := hide a1.2.2
  have QB := hide hqb
  have RB := hide (And.intro r0 (And.intro r1 (And.intro r2 (And.intro r3 r4))))
  clear a1 a2 a3 a4 a5 ht ht2 r1 r2 r3
  obtain ⟨A, hA⟩ : ∃ A : Nat, A = min Y 1970 := ⟨_, rfl⟩
  have HA := hide (show A ≤ Y ∧ A ≤ 1970 ∧ (A = Y ∨ A = 1970) ∧ 1677 ≤ A by omega)
  have HY := hide hY
  clear hA hY
  go_enter Try.func13, Try.ntmps13
  go_wp2_with (first
    | (go_at_call 34; refine (HU _).out.mono ?_; rintro e w1 ⟨rfl, hw⟩; obtain rfl := hw.symm; clear HU)
    | (go_at_call 34; refine (HQ _).out.mono ?_; rintro e w1 ⟨rfl, hw⟩; obtain rfl := hw.symm; clear HQ))
  clear hqb hsb hr r0 r4
  have HW := hide (heap_new w (.cells #[.int .i64 0, .int .i64 0, .int .i64 0, .int .i64 0, .int .i64 0, .int .i64 0] 27))
  have HBL := hide ((Below.refl w.heap.size w).alloc (Nat.le_refl _) (.cells #[.int .i64 0, .int .i64 0, .int .i64 0, .int .i64 0, .int .i64 0, .int .i64 0] 27))
  have HSZ : Hid (w.heap.size < (w.alloc (.cells #[.int .i64 0, .int .i64 0, .int .i64 0, .int .i64 0, .int .i64 0, .int .i64 0] 27)).heap.size) := hide (by simp)
  generalize (w.alloc (.cells #[.int .i64 0, .int .i64 0, .int .i64 0, .int .i64 0, .int .i64 0, .int .i64 0] 27)) = W1 at *
  go_loopg [4, 6] (1970 - A) (fun gk u4 u6 wx => ∃ y : Nat, y = A + gk ∧ y ≤ 1970 ∧ u4 = .int .i64 (q - yn (y : Int)) ∧ u6 = .int .i64 (y : Int) ∧ wx = W1)
  case atStart => exact ⟨1970, by have := HA.out; omega, by omega, by rw [show ((1970 : Nat) : Int) = 1970 from rfl, yn_1970, Int.sub_zero], rfl, rfl⟩
  case round =>
    obtain ⟨y, hyg, hy0, rfl, rfl, hwx⟩ := hrel
    obtain rfl := hwx.symm
    have hyb := yn_bd (y := y) (by have := HA.out; omega) (by omega)
    have hq2 := QB.out
    cases gk with
    | zero =>
      obtain rfl : y = A := by omega
      have hge : ¬ q - yn (y : Int) < 0 := by
        have := yn_mono (show (y : Int) ≤ (Y : Int) by have := HA.out; omega)
        have := IB.out
        have := HA.out
        omega
      have G := hide hy0
      clear hy0 hyg
      go_wp2_with fail
      clear hge
      go_loopg [4, 6] (Y - y) (fun gk u4 u6 wx => ∃ z : Nat, z + gk = Y ∧ 1677 ≤ z ∧ u4 = .int .i64 (q - yn (z : Int)) ∧ u6 = .int .i64 (z : Int) ∧ wx = W1)
      case atStart => exact ⟨y, by have := HA.out; omega, by have := HA.out; omega, rfl, rfl, rfl⟩
      case round =>
        obtain ⟨z, hzg, hz0, rfl, rfl, hwx⟩ := hrel
        obtain rfl := hwx.symm
        have HL := fun W => hide (year_c z W)
        have hb := yn_bd (y := z) (by omega) (by have := HY.out; omega)
        have hb2 := yd_le (z : Int)
        have HS := hide (yn_succ (z : Int))
        have ZG := hide (And.intro hzg hz0)
        have hzI : (z : Int) ≤ 2262 := by have := HY.out; omega
        clear hzg hz0 hyb
        cases gk with
        | zero =>
          obtain rfl : z = Y := by have := ZG.out; omega
          have hlt : ¬ yd (z : Int) ≤ q - yn (z : Int) := by have := IB.out; omega
          generalize yd (z : Int) = dd at *
          go_wp2_with (go_at_call 35; refine (HL _).out.mono ?_; rintro e w1 ⟨rfl, hw⟩; obtain rfl := hw.symm; clear HL)
          clear hlt hb2
          go_loopg [4, 7] (M - 1) (fun gk u4 u7 wx => ∃ k : Nat, k + gk = M ∧ 1 ≤ k ∧ u4 = .int .i64 (q - yn (z : Int) - mn (z : Int) (k : Int)) ∧ u7 = .int .i64 (k : Int) ∧ Hid (Below W1.heap.size W1 wx))
          case atStart => exact ⟨1, by have := IM.out; omega, by omega, by rw [show ((1 : Nat) : Int) = 1 from rfl, mn_1, Int.sub_zero], rfl, hide (Below.refl _ _)⟩
          case round =>
            obtain ⟨k, hkg, hk0, rfl, rfl, BX⟩ := hrel
            have hm12 : k ≤ 12 := by have := IM.out; omega
            have HLM := fun W => hide (month_c z k W hk0 hm12)
            have hb3 := md_le (z : Int) (k : Int)
            have hmb := mn_bd (z : Int) (m := k) (by omega) (by omega)
            have HSM := hide (mn_succ (z : Int) (m := k) (by omega) (by omega))
            have KG := hide (And.intro hkg (And.intro hk0 hm12))
            have hkI : (k : Int) ≤ 12 := by omega
            clear hkg hk0 hm12
            cases gk with
            | zero =>
              obtain rfl : k = M := by have := KG.out; omega
              have hlt : ¬ md (z : Int) (k : Int) ≤ q - yn (z : Int) - mn (z : Int) (k : Int) := by have := IB.out; omega
              have hdd : q - yn (z : Int) - mn (z : Int) (k : Int) + 1 = d := by have := ID.out; unfold dn at this; omega
              have hdb : -1000000 ≤ q - yn (z : Int) - mn (z : Int) (k : Int) ∧ q - yn (z : Int) - mn (z : Int) (k : Int) ≤ 1000000 := by omega
              obtain ⟨r0, r1, r2, r3, r4⟩ := RB.out
              generalize q - yn (z : Int) - mn (z : Int) (k : Int) = x at *
              generalize md (z : Int) (k : Int) = dd2 at *
              clear hb hmb hq2
              go_wp2_with (first
                | (go_at_call 30; refine (HLM _).out.mono ?_; rintro e w2 ⟨rfl, hw⟩; have B2 := hide (BX.out.trans (hw.mono BX.out.size)); have HZ := hide ((B2.out.block _ HSZ.out).trans HW.out); clear hw HLM)
                | (refine wpList_store6 rfl 27 (.tmp 2) (.tmp 57) rfl w.heap.size #[.int .i64 (z : Int), .int .i64 (k : Int), .int .i64 d, .int .i64 h, .int .i64 mi, .int .i64 se] rfl rfl #[.int .i64 0, .int .i64 0, .int .i64 0, .int .i64 0, .int .i64 0, .int .i64 0] 27 HZ.out info6R rfl (by simp [Value.oneCell']) ?_; intro w6 h6 k6))
              have B5 := hide (HBL.out.trans (B2.out.mono (Nat.le_of_lt HSZ.out)))
              exact bodyPost_ret (results_cell_row rfl _ _ w.heap.size 27 _ (0, 0) _ (by rfl) h6.out Try.underlying27 rfl info6R) rfl ⟨rfl, B5.out.trans (k6.out.below B5.out.size (fun i hi q => by omega))⟩
            | succ g1 =>
              have hlt : md (z : Int) (k : Int) ≤ q - yn (z : Int) - mn (z : Int) (k : Int) := by
                have := mn_next (z : Int) (m := k) (k := M) (by have := KG.out; omega) (by have := KG.out; omega) (by have := IM.out; omega)
                have := IB.out
                omega
              generalize md (z : Int) (k : Int) = dd2 at *
              generalize mn (z : Int) (k : Int) = y1 at *
              generalize yn (z : Int) = y2 at *
              go_wp2_with (go_at_call 30; refine (HLM _).out.mono ?_; rintro e w2 ⟨rfl, hw⟩; have BX := hide (BX.out.trans (hw.mono BX.out.size)); clear hw)
              go_roundg g1
              case measure => omega
              case rel => exact ⟨k + 1, by have := KG.out; omega, by omega, by rw [show ((k + 1 : Nat) : Int) = (k : Int) + 1 by omega, HSM.out, show q - y2 - (y1 + dd2) = q - y2 - y1 - dd2 by omega], by go_num, BX⟩
        | succ g1 =>
          have hlt : yd (z : Int) ≤ q - yn (z : Int) := by
            have := yn_next (show (z : Int) < (Y : Int) by have := ZG.out; omega)
            have := IB.out
            omega
          generalize yd (z : Int) = dd at *
          generalize yn (z : Int) = y2 at *
          go_wp2_with (go_at_call 35; refine (HL _).out.mono ?_; rintro e w1 ⟨rfl, hw⟩; obtain rfl := hw.symm)
          go_roundg g1
          case measure => omega
          case rel => exact ⟨z + 1, by have := ZG.out; omega, by have := ZG.out; omega, by rw [show ((z + 1 : Nat) : Int) = (z : Int) + 1 by omega, HS.out, show q - (y2 + dd) = q - y2 - dd by omega], by go_num, rfl⟩
    | succ g1 =>
      obtain ⟨z, hz⟩ : ∃ z : Nat, y = z + 1 := ⟨A + g1, by omega⟩
      have hlt : q - yn (y : Int) < 0 := by
        have := yn_next (show (Y : Int) < (y : Int) by have := HA.out; omega)
        have := IB.out
        omega
      have HL := fun W => hide (year_c z W)
      have HS := hide (yn_succ (z : Int))
      have hzi : (y : Int) - 1 = (z : Int) := by omega
      rw [show (z : Int) + 1 = (y : Int) by omega] at HS
      have hb2 := yd_le (z : Int)
      have YG := hide (And.intro hyg (And.intro hy0 hz))
      have hzI : (z : Int) ≤ 2262 := by omega
      clear hyg hy0 hz
      generalize yd (z : Int) = dd at *
      generalize yn (y : Int) = y2 at *
      go_wp2_with (go_at_call 35; refine (HL _).out.mono ?_; rintro e w1 ⟨rfl, hw⟩; obtain rfl := hw.symm)
      go_roundg g1
      case measure => omega
      case rel => exact ⟨z, by have := YG.out; omega, by have := YG.out; omega, by rw [show q - y2 + dd = q - yn (z : Int) by have := HS.out; omega], by first | rfl | go_num, rfl⟩
end Go.Proofs.Ythhajodedmaefaa.T
