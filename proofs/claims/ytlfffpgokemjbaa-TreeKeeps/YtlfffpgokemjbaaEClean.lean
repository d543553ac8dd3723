/- The program's Clean: contract. -/
import Derived.Test.YtlfffpgokemjbaaECln
namespace Go.Proofs.Ytlfffpgokemjbaa.E
set_option maxRecDepth 100000
open Go Go.RowKit
set_option linter.unusedVariables false

theorem is_emp (l : List UInt8) : (tx l).toList.isEmpty = l.isEmpty := by rw [tx_to]
theorem is_one (l : List UInt8) (m : List UInt8) : ((tx l).toList == m) = (l == m) := by rw [tx_to]
theorem emp_to (t : ByteArray) : t.toList.isEmpty = decide (t.size = 0) := by
  rw [ByteArray.toList_eq, ← len_eq]
  cases t.data.toList <;> simp
theorem fin_no {x : List UInt8} (h : x = [] ∨ 200 < x.length) : fin (some x) = none := by simp only [fin]; rw [if_pos h]
theorem fin_yes {x : List UInt8} (h : ¬ (x = [] ∨ 200 < x.length)) : fin (some x) = some x := by simp only [fin]; rw [if_neg h]

set_option maxHeartbeats 8000000 in
theorem clean_c (s : ByteArray) (hsm : s.size ≤ 140737488355000) (w : World) : Calls Try.prog 54 #[.string s] w (ClnOk s.data.toList w) := by
  have HV := hide (valid_c s (by omega) w)
  have HC := fun W => hide (sh_strings_Contains_one s 0 W)
  have HP := fun W => hide (sh_strings_HasPrefix s ⟨#[47]⟩ W)
  rw [ib_is] at HC
  replace HP : ∀ W, Hid (Calls Try.prog 73 #[.string s, .string ⟨#[47]⟩] W fun e w' => e = .returned (.bool (Lib.hasPrefix s.data.toList [47])) ∧ w' = W) := HP
  rw [pre_47] at HP
  by_cases hv : vld s.data.toList = true
  · rw [hv] at HV
    by_cases h0 : 0 ∈ s.data.toList
    · rw [decide_eq_true h0] at HC
      have HN : Hid (∀ w', Below w.heap.size w w' → ClnOk s.data.toList w (.returned (.tuple #[.string ⟨#[]⟩, .int .i64 140])) w') := hide fun w' hb => ClnOk.no (show cln s.data.toList = none by rw [cln, if_neg (fun q => q.2.1 h0)]) hb
      generalize ClnOk s.data.toList w = PO at HN ⊢
      clear hv h0 HP
      go_enter Try.func54, Try.ntmps54
      go_wp2_with (first
        | (go_at_call 71; refine HV.out.mono ?_; rintro e w1 ⟨rfl, b1⟩; have B1 := hide b1; clear b1 HV)
        | (go_at_call 72; refine (HC _).out.mono ?_; rintro e wq ⟨rfl, hw⟩; obtain rfl := hw.symm; clear HC)
        | (go_at_call 73; refine (HP _).out.mono ?_; rintro e wq ⟨rfl, hw⟩; obtain rfl := hw.symm; clear HP))
      exact HN.out _ B1.out
    · rw [decide_eq_false h0] at HC
      by_cases h47 : s.data.toList.head? = some 47
      · rw [decide_eq_true h47] at HP
        have HN : Hid (∀ w', Below w.heap.size w w' → ClnOk s.data.toList w (.returned (.tuple #[.string ⟨#[]⟩, .int .i64 140])) w') := hide fun w' hb => ClnOk.no (show cln s.data.toList = none by rw [cln, if_neg (fun q => q.2.2 h47)]) hb
        generalize ClnOk s.data.toList w = PO at HN ⊢
        clear hv h0 h47
        go_enter Try.func54, Try.ntmps54
        go_wp2_with (first
          | (go_at_call 71; refine HV.out.mono ?_; rintro e w1 ⟨rfl, b1⟩; have B1 := hide b1; clear b1 HV)
          | (go_at_call 72; refine (HC _).out.mono ?_; rintro e wq ⟨rfl, hw⟩; obtain rfl := hw.symm; clear HC)
          | (go_at_call 73; refine (HP _).out.mono ?_; rintro e wq ⟨rfl, hw⟩; obtain rfl := hw.symm; clear HP))
        exact HN.out _ B1.out
      · rw [decide_eq_false h47] at HP
        obtain ⟨C, hC⟩ : ∃ C, C = cl (spl s.data.toList) [] := ⟨_, rfl⟩
        have hcl : cln s.data.toList = fin C := by rw [cln, if_pos ⟨hv, h0, h47⟩, hC]
        have HN : Hid (C = none → ∀ w', Below w.heap.size w w' → ClnOk s.data.toList w (.returned (.tuple #[.string ⟨#[]⟩, .int .i64 140])) w') := hide fun e w' hb => ClnOk.no (by rw [hcl, e]; rfl) hb
        have HN2 : Hid (∀ X, C = some X → (X = [] ∨ 200 < X.length) → ∀ w', Below w.heap.size w w' → ClnOk s.data.toList w (.returned (.tuple #[.string ⟨#[]⟩, .int .i64 140])) w') := hide fun X e hx w' hb => ClnOk.no (by rw [hcl, e, fin_no hx]) hb
        have HY : Hid (∀ X, C = some X → ¬ (X = [] ∨ 200 < X.length) → ∀ w', Below w.heap.size w w' → ClnOk s.data.toList w (.returned (.tuple #[.string (tx X), .int .i64 0])) w') := hide fun X e hx w' hb => ClnOk.yes (by rw [hcl, e, fin_yes hx]) hb
        generalize ClnOk s.data.toList w = PO at HN HN2 HY ⊢
        have HCC := hide hC.symm
        have HSM := hide hsm
        clear hv h0 h47 hC hcl hsm
        go_enter Try.func54, Try.ntmps54
        go_wp2_with (first
          | (go_at_call 71; refine HV.out.mono ?_; rintro e w1 ⟨rfl, b1⟩; have B1 := hide b1; clear b1 HV)
          | (go_at_call 72; refine (HC _).out.mono ?_; rintro e wq ⟨rfl, hw⟩; obtain rfl := hw.symm; clear HC)
          | (go_at_call 73; refine (HP _).out.mono ?_; rintro e wq ⟨rfl, hw⟩; obtain rfl := hw.symm; clear HP))
        have E0 := hide (Own.nil (T := 5) (f := fB) w1 w1.heap.size)
        go_loopg [4, 5] s.size (fun gk u4 u5 wx => ∃ (t : ByteArray) (X : List UInt8) (L : Nat) (ad : Option Addr) (cp : Nat), u5 = .string t ∧ u4 = .slice ad L cp ∧ Hid (t.size ≤ gk) ∧ Hid (L = X.length) ∧ Hid (Own 5 fB wx w1.heap.size (.slice ad L cp) X) ∧ Hid (Below w1.heap.size w1 wx) ∧ Hid (cl (spl t.data.toList) X = C) ∧ L + t.size ≤ s.size + 1 ∧ Hid (t.size ≠ 0 → L + t.size ≤ s.size))
        case atStart => exact ⟨s, [], 0, none, 0, rfl, rfl, hide (Nat.le_refl _), hide rfl, E0, hide (Below.refl _ _), HCC, by omega, hide (fun _ => by omega)⟩
        case round =>
          obtain ⟨t, X, L, ad, cp, rfl, rfl, HT, HL, OX, BX, HS, hb1, HB2⟩ := hrel
          clear E0
          have hsmo := HSM.out
          by_cases ht : t.size = 0
          · have he : t.toList.isEmpty = true := by rw [emp_to, decide_eq_true ht]
            have hX : C = some X := by rw [← HS.out, List.eq_nil_of_length_eq_zero (l := t.data.toList) (by rw [len_eq]; exact ht), show spl [] = [[]] from rfl, cl_skip _ _ (.inl rfl)]; rfl
            have BB := hide (B1.out.trans (BX.out.mono B1.out.size))
            by_cases hX0 : L = 0
            · subst hX0
              have HF := hide (HN2.out X hX (.inl (List.eq_nil_of_length_eq_zero HL.out.symm)) wr BB.out)
              clear HN HN2 HY ht hX HS HB2 hb1
              go_wp2_with fail
              exact HF.out
            · have hX1 : ¬ (L : Int) = 0 := by omega
              have hXb : ((L : Int) == 0) = false := by simpa using hX1
              by_cases hX2 : 200 < L
              · have hX3 : (200 : Int) < (L : Int) := by omega
                have HF := hide (HN2.out X hX (.inr (by rw [← HL.out]; exact hX2)) wr BB.out)
                clear HN HN2 HY ht hX HS HB2 hb1
                go_wp2_with fail
                exact HF.out
              · have hX3 : ¬ (200 : Int) < (L : Int) := by omega
                have HF := hide (HY.out X hX (fun q => by rcases q with q | q; exact hX0 (by rw [HL.out, q]; rfl); exact hX2 (by rw [HL.out]; exact q)) wr BB.out)
                have hcv : (convert 78 9 (.slice ad L cp)).run Try.prog wr = .ok (.string (tx X)) wr := by
                  have := OX.out
                  rw [HL.out] at this ⊢
                  exact conv_own this
                clear HN HN2 HY ht hX HS HB2 hb1
                go_wp2_with fail
                exact HF.out
          · have he : t.toList.isEmpty = false := by rw [emp_to, decide_eq_false ht]
            obtain ⟨P, R, f, hcut, hRt, hPR, hPR2, hout, hskip, htake⟩ := cut_c t (by omega) ht
            have HCUT := hide (hcut wr)
            have HRG : Hid (R.length < gk) := hide (by have := HT.out; omega)
            have hB2 := HB2.out ht
            replace hout := fun e => hout e X
            replace hskip := fun e => hskip e X
            replace htake := fun e => htake e X
            rw [HS.out] at hout hskip htake
            obtain ⟨r, hr⟩ : ∃ r, r = tx R := ⟨_, rfl⟩
            have hrs : r.size = R.length := by rw [hr]; rfl
            have hrd : r.data.toList = R := by rw [hr]; rfl
            rw [← hr] at HCUT
            have HRS := hide hrs
            have HRD := hide hrd
            rw [← hrd] at hskip htake
            rw [← hrs] at hRt hPR
            clear hcut HT hr hrs hrd HB2 HS ht
            by_cases p0 : P = []
            · have q0 : (tx P).toList.isEmpty = true := by rw [is_emp, p0]; rfl
              have HS2 := hide (hskip (.inl p0)).symm
              clear hout hskip htake hPR2 p0
              go_wp2_with (go_at_call 74; refine HCUT.out.mono ?_; rintro e w2 ⟨rfl, b2⟩; have B2 := hide (BX.out.trans (b2.mono BX.out.size)); have O2 := hide (OX.out.stay b2); clear b2 HCUT)
              go_roundg R.length
              case measure => exact HRG.out
              case rel => exact ⟨r, X, L, ad, cp, rfl, rfl, hide (Nat.le_of_eq HRS.out), HL, O2, B2, HS2, by omega, hide (fun _ => by omega)⟩
            · have q0 : (tx P).toList.isEmpty = false := by rw [is_emp]; simpa using p0
              by_cases p1 : P = [46]
              · have q1 : ((tx P).toList == [46]) = true := by rw [is_one, p1]; rfl
                have HS2 := hide (hskip (.inr p1)).symm
                clear hout hskip htake hPR2 p0 p1
                go_wp2_with (go_at_call 74; refine HCUT.out.mono ?_; rintro e w2 ⟨rfl, b2⟩; have B2 := hide (BX.out.trans (b2.mono BX.out.size)); have O2 := hide (OX.out.stay b2); clear b2 HCUT)
                go_roundg R.length
                case measure => exact HRG.out
                case rel => exact ⟨r, X, L, ad, cp, rfl, rfl, hide (Nat.le_of_eq HRS.out), HL, O2, B2, HS2, by omega, hide (fun _ => by omega)⟩
              · have q1 : ((tx P).toList == [46]) = false := by rw [is_one]; simpa using p1
                by_cases p2 : P = [46, 46]
                · have q2 : ((tx P).toList == [46, 46]) = true := by rw [is_one, p2]; rfl
                  have HCN := hide (hout p2)
                  have HF := hide (HN.out HCN.out)
                  clear hout hskip htake hPR2 HN HN2 HY HCN p0 p1 p2
                  go_wp2_with (go_at_call 74; refine HCUT.out.mono ?_; rintro e w2 ⟨rfl, b2⟩; have B2 := hide (BX.out.trans (b2.mono BX.out.size)); have O2 := hide (OX.out.stay b2); clear b2 HCUT)
                  exact HF.out _ (B1.out.trans (B2.out.mono B1.out.size))
                · have q2 : ((tx P).toList == [46, 46]) = false := by rw [is_one]; simpa using p2
                  have HS2 := hide (htake ⟨p0, p1, p2⟩).symm
                  have hPl : 0 < P.length := List.length_pos_iff.2 p0
                  have HPL := hide (show P.length + 1 + R.length ≤ t.size ∨ R.length = 0 by rcases hPR2 with h | h; exact .inl h; exact .inr (by rw [h]; rfl))
                  clear hout hskip htake hPR2 p0 p1 p2
                  by_cases hL0 : L = 0
                  · have hX0 : X = [] := List.eq_nil_of_length_eq_zero (by rw [← HL.out]; exact hL0)
                    rw [if_pos hX0] at HS2
                    subst hX0
                    subst hL0
                    have hn0 : ¬ (0 : Int) < ((0 : Nat) : Int) := by omega
                    have HPE : Hid ([] ++ P = P) := hide (List.nil_append P)
                    go_wp2_with (first
                      | (go_at_call 74; refine HCUT.out.mono ?_; rintro e w2 ⟨rfl, b2⟩; have B2 := hide (BX.out.trans (b2.mono BX.out.size)); have O2 := hide (OX.out.stay b2); clear b2 HCUT)
                      | (refine wpList_appT w2 rfl (.tmp 39) (.tmp 40) rfl w1.heap.size (.slice ad 0 cp) [] (by rfl) O2.out P (by rfl) (by simp; omega) B2.out.size ?_; intro v3 w3 h3 k3; have O3 := hide h3; have B3 := hide (growO O2.out (Nat.le_refl _) B2.out k3); clear h3 k3))
                    obtain ⟨ad3, cp3, hv3, _⟩ := O3.out.form
                    rw [HPE.out] at O3 hv3
                    subst hv3
                    go_roundg R.length
                    case measure => exact HRG.out
                    case rel => exact ⟨r, P, P.length, ad3, cp3, rfl, rfl, hide (Nat.le_of_eq HRS.out), hide rfl, O3, B3, HS2, by omega, hide (fun _ => by have := HRS.out; have := HPL.out; omega)⟩
                  · have hX0 : X ≠ [] := fun e => hL0 (by rw [HL.out, e]; rfl)
                    rw [if_neg hX0] at HS2
                    have hn0 : (0 : Int) < (L : Int) := by omega
                    have hlw := HL.out
                    have HO2 : Hid (∀ w2, Own 5 fB w2 w1.heap.size (.slice ad L cp) X → Own 5 fB (w2.alloc (.cells #[.int .u8 47] 5)) w1.heap.size (.slice ad L cp) X) := hide fun w2 h => h.alloc _
                    have HXL : Hid ((X.length + 1) * 1 ≤ 140737488355328 ∧ (X ++ [47]).length + P.length ≤ 140737488355328 ∧ (X ++ [47] ++ P).length = L + 1 + P.length) := hide ⟨by omega, by rw [List.length_append, List.length_cons, List.length_nil]; omega, by rw [List.length_append, List.length_append, List.length_cons, List.length_nil]; omega⟩
                    have HPE : Hid (X ++ [47] ++ P = X ++ 47 :: P) := hide (by rw [List.append_assoc]; rfl)
                    clear hlw hX0
                    go_wp2_with (first
                      | (go_at_call 74; refine HCUT.out.mono ?_; rintro e w2 ⟨rfl, b2⟩; have B2 := hide (BX.out.trans (b2.mono BX.out.size)); have O2 := hide (OX.out.stay b2); clear b2 HCUT)
                      | (refine wpList_app1 Try.underlying78 infoB rfl _ rfl (.tmp 36) (.tmp 37) rfl w1.heap.size (.slice ad L cp) X (by rfl) (HO2.out w2 O2.out) 47 w2.heap.size 1 (by rfl) (cells_of (heap_new w2 _) 0) rfl HXL.out.1 (by decide) (by have := B2.out.size; simp; omega) ?_; intro v3 w3 h3 k3; have O3 := hide h3; have B3 := hide (growO (HO2.out w2 O2.out) (Nat.le_refl _) (B2.out.alloc B2.out.size _) k3); clear h3 k3)
                      | (refine wpList_appT w3 rfl (.tmp 39) (.tmp 40) rfl w1.heap.size v3 (X ++ [47]) (by rfl) O3.out P (by rfl) HXL.out.2.1 B3.out.size ?_; intro v4 w4 h4 k4; have O4 := hide h4; have B4 := hide (growO O3.out (Nat.le_refl _) B3.out k4); clear h4 k4))
                    obtain ⟨ad4, cp4, hv4, _⟩ := O4.out.form
                    rw [HXL.out.2.2] at hv4
                    rw [HPE.out] at O4
                    subst hv4
                    go_roundg R.length
                    case measure => exact HRG.out
                    case rel => exact ⟨r, X ++ 47 :: P, L + 1 + P.length, ad4, cp4, rfl, rfl, hide (Nat.le_of_eq HRS.out), hide (by rw [List.length_append, List.length_cons, ← HL.out]; omega), O4, B4, HS2, by have := HRS.out; have := HPL.out; omega, hide (fun _ => by have := HRS.out; have := HPL.out; omega)⟩
  · rw [Bool.eq_false_iff.2 hv] at HV
    have HN : Hid (∀ w', Below w.heap.size w w' → ClnOk s.data.toList w (.returned (.tuple #[.string ⟨#[]⟩, .int .i64 140])) w') := hide fun w' hb => ClnOk.no (show cln s.data.toList = none by rw [cln, if_neg (fun q => hv q.1)]) hb
    generalize ClnOk s.data.toList w = PO at HN ⊢
    clear hv HC HP
    go_enter Try.func54, Try.ntmps54
    go_wp2_with (go_at_call 71; refine HV.out.mono ?_; rintro e w1 ⟨rfl, b1⟩; have B1 := hide b1; clear b1 HV)
    exact HN.out _ B1.out
end Go.Proofs.Ytlfffpgokemjbaa.E
