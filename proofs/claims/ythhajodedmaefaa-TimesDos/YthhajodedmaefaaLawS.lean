/- The law TimesDos: its walk. -/
import Derived.Test.YthhajodedmaefaaRDos
namespace Go.Proofs.Ythhajodedmaefaa.T
set_option maxRecDepth 100000
open Go Go.RowKit
set_option linter.unusedVariables false
/-- Back it is rounded down to two seconds. -/
theorem dos_back {t Y M d h mi se : Int} (hd : IsDt (t / 1000000000) Y M d h mi se) (hy : 1980 ≤ Y ∧ Y ≤ 2107) :
    FdV (1980 + dosD Y M d / 512) (dosD Y M d / 32 % 16) (dosD Y M d % 32) (dosK h mi se / 2048) (dosK h mi se / 32 % 64) (dosK h mi se % 32 * 2) = flo t 2000000000 ∧
    FdB (1980 + dosD Y M d / 512) (dosD Y M d / 32 % 16) (dosD Y M d % 32) (dosK h mi se / 2048) (dosK h mi se / 32 % 64) (dosK h mi se % 32 * 2) = true ∧ (0 ≤ dosD Y M d ∧ dosD Y M d < 65536) ∧ (0 ≤ dosK h mi se ∧ dosK h mi se < 65536) := by
  have hb := hd.back
  obtain ⟨⟨hm, hdd, _⟩, hh, hmi, hse, _⟩ := hd
  have hml := md_le Y M
  have hyn : 3652 ≤ yn Y := by
    have := yn_mono (show (1980 : Int) ≤ Y by omega)
    rw [show yn 1980 = 3652 by decide] at this
    omega
  have hmn := mn_bd Y (m := M) (by omega) (by omega)
  have e1 : 1980 + dosD Y M d / 512 = Y := by unfold dosD; omega
  have e2 : dosD Y M d / 32 % 16 = M := by unfold dosD; omega
  have e3 : dosD Y M d % 32 = d := by unfold dosD; omega
  have e4 : dosK h mi se / 2048 = h := by unfold dosK; omega
  have e5 : dosK h mi se / 32 % 64 = mi := by unfold dosK; omega
  have e6 : dosK h mi se % 32 * 2 = se - se % 2 := by unfold dosK; omega
  rw [e1, e2, e3, e4, e5, e6]
  have hv : Vd Y M d h mi (se - se % 2) := ⟨by omega, hm, hdd, hh, hmi, by omega⟩
  refine ⟨?_, decide_eq_true hv, by unfold dosD; omega, by unfold dosK; omega⟩
  rw [show FdV Y M d h mi (se - se % 2) = _ from if_pos hv]
  have hs : sc Y M d h mi (se - se % 2) = dn Y M d * 86400 + h * 3600 + mi * 60 + (se - se % 2) := rfl
  rw [hs]
  have hdn : 3652 ≤ dn Y M d := by unfold dn; omega
  generalize dn Y M d = D at *
  clear e1 e2 e3 e4 e5 e6 hv hs hyn hmn hml hdd
  unfold flo
  rw [if_neg (by omega), if_neg (by omega)]
  omega
set_option maxHeartbeats 8000000 in
theorem timesDos_walk (D K t : Int) (W : World) (hD : 0 ≤ D ∧ D < 65536) (hK : 0 ≤ K ∧ K < 65536) (ht : -9223372036854775808 ≤ t ∧ t ≤ 9223372036854775807) : Calls Try.prog 5 #[.int .u16 D, .int .u16 K, .int .i64 t] W fun e w' => e = .returned (.bool true) ∧ Below W.heap.size W w' := by
  obtain ⟨Y, M, d, hd⟩ := dt_of (t / 1000000000)
  generalize t / 1000000000 % 86400 / 3600 = h at *
  generalize t / 1000000000 % 86400 % 3600 / 60 = mi at *
  generalize t / 1000000000 % 86400 % 60 = se at *
  have H1 := fun w => hide (fromDos_c D K w hD hK)
  have H2 := fun w => hide (rfromDos_c D K w hD hK)
  generalize FdV (1980 + D / 512) (D / 32 % 16) (D % 32) (K / 2048) (K / 32 % 64) (K % 32 * 2) = v at *
  generalize FdB (1980 + D / 512) (D / 32 % 16) (D % 32) (K / 2048) (K / 32 % 64) (K % 32 * 2) = b at *
  have H3 := fun w => hide (alive_c w)
  have H7 := fun w => hide (floor_c t 2000000000 w ht.1 ht.2 (by omega))
  by_cases hy : 1980 ≤ Y ∧ Y ≤ 2107
  · have H4 := fun w => hide (toDos_yes w ht.1 ht.2 hd hy)
    have H5 := fun w => hide (rtoDos_yes w ht.1 ht.2 hd hy)
    obtain ⟨k1, k2, k3, k4⟩ := dos_back hd hy
    have H6 := fun w => hide (fromDos_c (dosD Y M d) (dosK h mi se) w k3 k4)
    rw [k1, k2] at H6
    clear k1 k2 k3 k4 hd hy hD hK ht
    generalize flo t 2000000000 = f at *
    generalize dosD Y M d = x at *
    generalize dosK h mi se = z at *
    go_enter Try.func5, Try.ntmps5
    go_wp2_with (first
      | (go_at_call 14; refine (H1 _).out.mono ?_; rintro e w1 ⟨rfl, hw⟩; have B1 := hide hw; clear hw H1)
      | (go_at_call 15; refine (H2 _).out.mono ?_; rintro e w2 ⟨rfl, hw⟩; have B2 := hide (B1.out.trans (hw.mono B1.out.size)); clear hw H2 B1)
      | (go_at_call 16; refine (H4 _).out.mono ?_; rintro e w3 ⟨rfl, hw⟩; have B3 := hide (B2.out.trans (hw.mono B2.out.size)); clear hw H4 B2)
      | (go_at_call 17; refine (H5 _).out.mono ?_; rintro e w4 ⟨rfl, hw⟩; have B4 := hide (B3.out.trans (hw.mono B3.out.size)); clear hw H5 B3)
      | (go_at_call 14; refine (H6 _).out.mono ?_; rintro e w5 ⟨rfl, hw⟩; have B5 := hide (B4.out.trans (hw.mono B4.out.size)); clear hw H6 B4)
      | (go_at_call 11; refine (H3 _).out.mono ?_; rintro e w6 ⟨rfl, hw⟩; have B6 := hide (B5.out.trans (hw.mono B5.out.size)); clear hw H3 B5)
      | (go_at_call 18; refine (H7 _).out.mono ?_; rintro e w7 ⟨rfl, hw⟩; obtain rfl := hw.symm; clear H7))
    all_goals go_ret
    all_goals exact ⟨by simp, B6.out⟩
  · have H4 := fun w => hide (toDos_no w ht.1 ht.2 hd hy)
    have H5 := fun w => hide (rtoDos_no w ht.1 ht.2 hd hy)
    have H6 := fun w => hide (fromDos_c 0 0 w (by omega) (by omega))
    generalize FdV (1980 + 0 / 512) (0 / 32 % 16) (0 % 32) (0 / 2048) (0 / 32 % 64) (0 % 32 * 2) = x at *
    generalize FdB (1980 + 0 / 512) (0 / 32 % 16) (0 % 32) (0 / 2048) (0 / 32 % 64) (0 % 32 * 2) = z at *
    clear hd hy hD hK ht H7
    go_enter Try.func5, Try.ntmps5
    go_wp2_with (first
      | (go_at_call 14; refine (H1 _).out.mono ?_; rintro e w1 ⟨rfl, hw⟩; have B1 := hide hw; clear hw H1)
      | (go_at_call 15; refine (H2 _).out.mono ?_; rintro e w2 ⟨rfl, hw⟩; have B2 := hide (B1.out.trans (hw.mono B1.out.size)); clear hw H2 B1)
      | (go_at_call 16; refine (H4 _).out.mono ?_; rintro e w3 ⟨rfl, hw⟩; have B3 := hide (B2.out.trans (hw.mono B2.out.size)); clear hw H4 B2)
      | (go_at_call 17; refine (H5 _).out.mono ?_; rintro e w4 ⟨rfl, hw⟩; have B4 := hide (B3.out.trans (hw.mono B3.out.size)); clear hw H5 B3)
      | (go_at_call 14; refine (H6 _).out.mono ?_; rintro e w5 ⟨rfl, hw⟩; have B5 := hide (B4.out.trans (hw.mono B4.out.size)); clear hw H6 B4)
      | (go_at_call 11; refine (H3 _).out.mono ?_; rintro e w6 ⟨rfl, hw⟩; have B6 := hide (B5.out.trans (hw.mono B5.out.size)); clear hw H3 B5))
    all_goals go_ret
    all_goals exact ⟨by simp, B6.out⟩
end Go.Proofs.Ythhajodedmaefaa.T
