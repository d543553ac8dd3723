/- The laws on Clean and Parents: walked. -/
import Derived.Test.YtjmhnmpnpgiaeaaDoorEAlive
import Derived.Test.YtjmhnmpnpgiaeaaDoorERef
import Derived.Test.YtjmhnmpnpgiaeaaDoorELaw1
namespace Go.Proofs.YtjmhnmpnpgiaeaaDoor.E
set_option maxRecDepth 100000
open Go Go.RowKit
set_option linter.unusedVariables false

set_option maxHeartbeats 4000000 in
theorem namesCleans_walk (s : ByteArray) (w : World) (hs : s.size ≤ 1048576) (hT : Tab w) : Calls Tryd.prog 3 #[.string s] w (Yes' w) := by
  have HT := hide hT
  have HC := hide (clean_c s (by omega) w)
  have HR := hide (fun W => rclean_c s (by omega) W)
  unfold ClnOk at HC HR
  generalize tx ((cln s.data.toList).getD []) = S at HC HR
  generalize (if (cln s.data.toList).isSome then (0 : Int) else 140) = q at HC HR
  clear hT
  go_enter Tryd.func3, Tryd.ntmps3
  go_wp2_with (first
    | (go_at_call 9; refine HC.out.mono ?_; rintro e w1 ⟨rfl, b1⟩; have B1 := hide b1; clear b1 HC)
    | (go_at_call 10; refine (HR.out w1).mono ?_; rintro e w2 ⟨rfl, b2⟩; have B2 := hide (B1.out.trans (b2.mono B1.out.size)); clear b2 HR)
    | (go_at_call 11; refine (alive_c w2 (HT.out.stay B2.out)).mono ?_; rintro e w3 ⟨rfl, b3⟩; have B3 := hide (B2.out.trans (b3.mono B2.out.size)); clear b3))
  go_ret
  exact ⟨rfl, B3.out⟩
theorem Pt.mem {l : List UInt8} {f : Nat} {O : List (List UInt8)} {p : List UInt8} {i : Nat} (h : Pt l i f (O ++ [p])) : p ∈ spl l := by
  obtain ⟨_, ⟨_, _, h3, _⟩ | ⟨_, h2⟩⟩ := h
  · rw [h3]; simp
  · rw [h2]; simp

set_option maxHeartbeats 8000000 in
theorem namesAgain_walk (s : ByteArray) (w : World) (hs : s.size ≤ 140737488351232) (hT : Tab w) : Calls Tryd.prog 4 #[.string s] w (Yes' w) := by
  have HT := hide hT
  have HC := hide (clean_c s (by omega) w)
  unfold ClnOk at HC
  cases hc : cln s.data.toList with
  | none =>
    rw [hc] at HC
    replace HC : Hid (Calls Tryd.prog 9 #[.string s] w fun e w' => e = .returned (.tuple #[.string ⟨#[]⟩, .int .i64 140]) ∧ Below w.heap.size w w') := HC
    clear hT hc
    go_enter Tryd.func4, Tryd.ntmps4
    go_wp2_with (first
      | (go_at_call 9; refine HC.out.mono ?_; rintro e w1 ⟨rfl, b1⟩; have B1 := hide b1; clear b1 HC)
      | (go_at_call 11; refine (alive_c w1 (HT.out.stay B1.out)).mono ?_; rintro e w3 ⟨rfl, b3⟩; have B3 := hide (B1.out.trans (b3.mono B1.out.size)); clear b3))
    go_ret
    exact ⟨rfl, B3.out⟩
  | some x =>
    rw [hc] at HC
    replace HC : Hid (Calls Tryd.prog 9 #[.string s] w fun e w' => e = .returned (.tuple #[.string (tx x), .int .i64 0]) ∧ Below w.heap.size w w') := HC
    have hxl : x.length ≤ 200 := by obtain ⟨_, _, _, _, h⟩ := cln_is hc; exact h
    have HC2 := hide (fun W => clean_c (tx x) (by rw [tx_size]; omega) W)
    unfold ClnOk at HC2
    rw [tx_list, cln_again hc] at HC2
    replace HC2 : Hid (∀ W, Calls Tryd.prog 9 #[.string (tx x)] W fun e w' => e = .returned (.tuple #[.string (tx x), .int .i64 0]) ∧ Below W.heap.size W w') := HC2
    have HPA := hide (cln_parts hc)
    have HPR := hide (fun W => parents_c (tx x) (by rw [tx_size]; omega) W)
    unfold ParOk at HPR
    rw [tx_list] at HPR
    have HSP := hide (prs_spl x)
    have HG := hide (show ∀ i (hi : i < (tx x).size), ((tx x)[i]'hi).toNat = bt x i from fun i hi => get_bt (tx x) i hi)
    have HUP := fun f pos => hide (tx_cut x f pos)
    have HTS := hide (tx_size x)
    obtain ⟨N, hN⟩ : ∃ N, N = (tx x).size := ⟨_, rfl⟩
    have hNl : N ≤ 200 := by rw [hN, HTS.out]; exact hxl
    have HNX : Hid (N = x.length) := hide (by rw [hN, HTS.out])
    have HN := hide hN
    have P0 : Hid (Pt x 0 0 []) := hide ⟨Nat.le_refl _, .inl ⟨Nat.zero_le _, Nat.le_refl _, by rw [List.drop_zero]; rfl, fun j _ h => by omega⟩⟩
    generalize tx x = S at HC HC2 HPR HG HUP hN HN HTS
    clear hT hc hxl hN
    go_enter Tryd.func4, Tryd.ntmps4
    go_upto_region 5 with (first
      | (go_at_call 9; refine HC.out.mono ?_; rintro e w1 ⟨rfl, b1⟩; have B1 := hide b1; have HC3 := hide (HC2.out w1); clear b1 HC HC2)
      | (go_at_call 9; refine HC3.out.mono ?_; rintro e w2 ⟨rfl, b2⟩; have B2 := hide (B1.out.trans (b2.mono B1.out.size)); clear b2 HC3))
    have hsz : S.size = N := HN.out.symm
    go_wp2_with fail
    go_loopg [7, 8, 9] (N + 1) (fun gk u7 u8 u9 wx => wx = w2 ∧ ∃ (i f q : Nat) (O : List (List UInt8)), i + gk = N + 1 ∧ u7 = .int .i64 (q : Int) ∧ u8 = .int .i64 (f : Int) ∧ u9 = .int .i64 (i : Int) ∧ Hid (q = O.length + 1) ∧ q ≤ i + 1 ∧ Hid (Pt x i f O))
    case atStart => exact ⟨rfl, 0, 0, 1, [], by omega, rfl, rfl, rfl, hide rfl, by omega, P0⟩
    case round =>
      obtain ⟨hw, i, f, q, O, hg, rfl, rfl, rfl, HQ, hqi, PX⟩ := hrel
      subst hw
      clear P0
      cases gk with
      | zero =>
        have hi : i = N + 1 := by omega
        have hge : ¬ (i : Int) ≤ (N : Int) := by omega
        have HA : Hid (q = (prs x x.length).length + 2) := hide (by
          have := Pt.all (f := f) (l := x) (O := O) (by rw [← HNX.out, ← hi]; exact PX.out)
          rw [HQ.out, this, HSP.out])
        have HP2 := hide (fun W => HPR.out W)
        obtain ⟨Z, hZ⟩ : ∃ Z, Z = (prs x x.length).length := ⟨_, rfl⟩
        have HZ := hide hZ
        rw [← hZ] at HA
        have hq2 : (q : Int) - 2 = (Z : Int) := by have := HA.out; omega
        have hle : (N : Int) ≤ 200 := by omega
        clear hi hZ PX HQ HPR HG HUP
        go_wp2_with (first
          | (go_at_call 11; refine (alive_c wr (HT.out.stay B2.out)).mono ?_; rintro e w3 ⟨rfl, b3⟩; have B3 := hide (B2.out.trans (b3.mono B2.out.size)); have HP3 := hide (HP2.out w3); clear b3 HP2)
          | (go_at_call 12; refine HP3.out.mono ?_; rintro e w4 ⟨v4, rfl, o4, b4⟩; have B4 := hide (B3.out.trans (b4.mono B3.out.size)); obtain ⟨a4, c4, hv4, _⟩ := Own.form o4; rw [← HZ.out] at hv4; subst hv4; clear o4 b4 HP3))
        go_ret
        exact ⟨rfl, B4.out⟩
      | succ g1 =>
        have hi : i ≤ N := by omega
        have hle : (i : Int) ≤ (N : Int) := by omega
        have hfi := PX.out.from_ (by rw [← HNX.out]; exact hi)
        have q1 : (0 : Int) ≤ (f : Int) := by omega
        have q2 : (f : Int) ≤ (i : Int) := by omega
        have q3 : (i : Int) ≤ (S.size : Int) := by rw [hsz]; omega
        by_cases hend : i = N
        · subst hend
          have hn : ¬ (i : Int) < (i : Int) := by omega
          have PL := hide (show Pt x (i + 1) (i + 1) (O ++ [(x.drop f).take (i - f)]) by have := PX.out; rw [HNX.out] at this ⊢; exact this.last)
          obtain ⟨g1', g2', g3'⟩ := HPA.out _ PL.out.mem
          have HU := hide (HUP f i).out
          generalize (x.drop f).take (i - f) = P at PL g1' g2' g3' HU
          have e0 : (S.extract f i).toList.isEmpty = false := by rw [HU.out, is_emp]; simpa using g1'
          have e1 : ((S.extract f i).toList == [46]) = false := by rw [HU.out, is_one]; simpa using g2'
          have e2 : ((S.extract f i).toList == [46, 46]) = false := by rw [HU.out, is_one]; simpa using g3'
          have HQ2 : Hid (q + 1 = (O ++ [P]).length + 1) := hide (by rw [List.length_append, HQ.out]; rfl)
          clear g1' g2' g3' PX HQ HUP HU
          go_wp2_with fail
          go_roundg g1
          case measure => omega
          case rel => exact ⟨rfl, i + 1, i + 1, q + 1, _, by omega, by go_num, by go_num, by go_num, HQ2, by omega, PL⟩
        · have hlt : i < N := by omega
          have hlt2 : (i : Int) < (N : Int) := by omega
          have hix := HG.out i (by rw [hsz]; exact hlt)
          by_cases h47 : bt x i = 47
          · rw [h47] at hix
            have PL := hide (PX.out.cut (by rw [← HNX.out]; exact hlt) h47)
            obtain ⟨g1', g2', g3'⟩ := HPA.out _ PL.out.mem
            have HU := hide (HUP f i).out
            generalize (x.drop f).take (i - f) = P at PL g1' g2' g3' HU
            have e0 : (S.extract f i).toList.isEmpty = false := by rw [HU.out, is_emp]; simpa using g1'
            have e1 : ((S.extract f i).toList == [46]) = false := by rw [HU.out, is_one]; simpa using g2'
            have e2 : ((S.extract f i).toList == [46, 46]) = false := by rw [HU.out, is_one]; simpa using g3'
            have HQ2 : Hid (q + 1 = (O ++ [P]).length + 1) := hide (by rw [List.length_append, HQ.out]; rfl)
            clear g1' g2' g3' PX HQ HUP HU h47 hend
            go_wp2_with fail
            go_roundg g1
            case measure => omega
            case rel => exact ⟨rfl, i + 1, i + 1, q + 1, _, by omega, by go_num, by go_num, by go_num, HQ2, by omega, PL⟩
          · have PL := hide (PX.out.skip (by rw [← HNX.out]; exact hlt) h47)
            have hlt8 := bt_lt x i
            generalize bt x i = v at h47 hix hlt8
            have hv1 : ¬ (v : Int) = 47 := by omega
            have hvb : ((v : Int) != 47) = true := by simpa using hv1
            clear h47 PX HUP hend
            go_wp2_with fail
            go_roundg g1
            case measure => omega
            case rel => exact ⟨rfl, i + 1, f, q, O, by omega, rfl, rfl, by go_num, HQ, by omega, PL⟩

set_option maxHeartbeats 8000000 in
theorem namesParents_walk (s : ByteArray) (w : World) (hs : s.size ≤ 1048576) (hT : Tab w) : Calls Tryd.prog 5 #[.string s] w (Yes' w) := by
  have HT := hide hT
  have HP := hide (parents_c s (by omega) w)
  have HR := hide (fun W => rparents_c s (by omega) W)
  unfold ParOk at HP HR
  have hzb := prs_le s.data.toList s.data.toList.length
  rw [len_eq] at hzb
  have HZB : Hid ((prs s.data.toList s.data.toList.length).length ≤ 1048576) := hide (by rw [len_eq]; omega)
  clear hzb
  generalize prs s.data.toList s.data.toList.length = ps at HP HR HZB
  obtain ⟨Z, hZ⟩ : ∃ Z, Z = ps.length := ⟨_, rfl⟩
  have HZ := hide hZ
  clear hT hZ
  go_enter Tryd.func5, Tryd.ntmps5
  go_upto_region 2 with (first
    | (go_at_call 12; refine HP.out.mono ?_; rintro e w1 ⟨v1, rfl, o1, b1⟩; have O1 := hide o1; have B1 := hide b1; have HR1 := hide (HR.out w1); clear o1 b1 HP HR)
    | (go_at_call 13; refine HR1.out.mono ?_; rintro e w2 ⟨v2, rfl, o2, b2⟩; have O2 := hide o2; have O1' := hide (O1.out.stay b2); have B2 := hide (B1.out.trans (b2.mono B1.out.size)); clear o2 b2 O1 HR1))
  obtain ⟨a1, c1, hv1, _⟩ := O1'.out.form
  obtain ⟨a2, c2, hv2, _⟩ := O2.out.form
  subst hv1
  subst hv2
  have C1 := hide (Own.cells O1'.out)
  have C2 := hide (Own.cells O2.out)
  rw [← HZ.out]
  clear O1' O2
  go_wp2_with fail
  go_loopg [17] Z (fun gk u17 wx => ∃ i : Nat, i + gk = Z ∧ u17 = .int .i64 (i : Int) ∧ Hid (Below w2.heap.size w2 wx))
  case atStart => exact ⟨0, by omega, rfl, Below.refl _ _⟩
  case round =>
    obtain ⟨i, hg, rfl, BX⟩ := hrel
    cases gk with
    | zero =>
      obtain rfl : i = Z := by omega
      have hge : ¬ (i : Int) < (i : Int) := by omega
      have BB := hide (B2.out.trans (BX.out.mono B2.out.size))
      go_wp2_with (go_at_call 11; refine (alive_c wr (HT.out.stay BB.out)).mono ?_; rintro e w3 ⟨rfl, b3⟩; have B3 := hide (BB.out.trans (b3.mono BB.out.size)); clear b3)
      go_ret
      exact ⟨rfl, B3.out⟩
    | succ g1 =>
      have hlt : (i : Int) < (Z : Int) := by omega
      have hi0 : (0 : Int) ≤ (i : Int) := by omega
      have hil : i < ps.length := by rw [← HZ.out]; omega
      have h64 : i ≤ 1048576 := by have := HZB.out; omega
      obtain ⟨P, hP⟩ : ∃ P, P = tx ps[i] := ⟨_, rfl⟩
      obtain ⟨g1', hg1, hl1, hc1⟩ : ∃ g, a1 = some ⟨g, 0, none⟩ ∧ g < w2.heap.size ∧ w2.cell? ⟨g, i, none⟩ = some (.string P) := by
        rcases C1.out with h | ⟨g, h1, _, h3, h4⟩
        · omega
        · exact ⟨g, h1, h3, by rw [h4 i hil, hP]; rfl⟩
      obtain ⟨g2', hg2, hl2, hc2⟩ : ∃ g, a2 = some ⟨g, 0, none⟩ ∧ g < w2.heap.size ∧ w2.cell? ⟨g, i, none⟩ = some (.string P) := by
        rcases C2.out with h | ⟨g, h1, _, h3, h4⟩
        · omega
        · exact ⟨g, h1, h3, by rw [h4 i hil, hP]; rfl⟩
      subst hg1
      subst hg2
      have BD := hide (show Below w2.heap.size w2 wr.drew from BX.out.drew)
      have KS := hide (show wr.drew.cell? ⟨g1', i, none⟩ = some (.string P) ∧ wr.drew.cell? ⟨g2', i, none⟩ = some (.string P) from ⟨(BD.out.cell (p := ⟨g1', i, none⟩) hl1).trans hc1, (BD.out.cell (p := ⟨g2', i, none⟩) hl2).trans hc2⟩)
      clear hP hil hc1 hc2
      go_upto_region 7 with fail
      go_region_held3 (fun W => W.cell? ⟨g1', i, none⟩ = some (.string P) ∧ W.cell? ⟨g2', i, none⟩ = some (.string P)) (first | exact KS.out) (fail)
      go_wp2_with fail
      go_roundg g1
      case measure => omega
      case rel => exact ⟨i + 1, by omega, by go_num, BD⟩
end Go.Proofs.YtjmhnmpnpgiaeaaDoor.E
