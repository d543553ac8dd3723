/- The reference's Parents, parts, Clean: contracts. -/
import Derived.Test.YtlfffpgokemjbaaEPar
import Derived.Test.YtlfffpgokemjbaaEClean
import Derived.Deep.DeepCutAuto
namespace Go.Proofs.Ytlfffpgokemjbaa.E
set_option maxRecDepth 100000
open Go Go.RowKit
set_option linter.unusedVariables false

set_option maxHeartbeats 8000000 in
theorem rparents_c (s : ByteArray) (hsm : s.size ≤ 8000000000000) (w : World) : Calls Try.prog 27 #[.string s] w (ParOk s.data.toList w) := by
  have HLS := hide (len_eq s)
  have HSM := hide hsm
  have HG := hide (show ∀ i (hi : i < s.size), (s[i]'hi).toNat = bt s.data.toList i from fun i hi => get_bt s i hi)
  have HUP := fun pos => hide (show s.extract 0 pos = tx (s.data.toList.take pos) from tx_upto s.data.toList pos)
  obtain ⟨l, hl⟩ : ∃ l, l = s.data.toList := ⟨_, rfl⟩
  rw [← hl] at HLS HUP HG
  rw [← hl]
  have E0 := hide (Own.nil (T := 9) (f := fS) w w.heap.size)
  clear hl hsm
  go_enter Try.func27, Try.ntmps27
  go_wp2_with fail
  go_loopg [3, 4] s.size (fun gk u3 u4 wx => ∃ pos : Nat, pos + gk = s.size ∧ u4 = .int .i64 (pos : Int) ∧ Hid (Own 9 fS wx w.heap.size u3 (prs l pos)) ∧ Hid (Below w.heap.size w wx))
  case atStart => exact ⟨0, by omega, rfl, E0, Below.refl _ _⟩
  case round =>
    obtain ⟨pos, hg, rfl, OX, BX⟩ := hrel
    clear E0
    cases gk with
    | zero =>
      obtain rfl : pos = s.size := by omega
      have hge : ¬ (s.size : Int) < (s.size : Int) := by omega
      go_wp2_with fail
      go_ret
      exact ⟨_, rfl, by rw [HLS.out]; exact OX.out, BX.out⟩
    | succ g1 =>
      have h : pos < s.size := by omega
      have h64 : pos ≤ 9000000000000 := by have := HSM.out; omega
      have hlt : (pos : Int) < (s.size : Int) := by omega
      have hpi : (0 : Int) ≤ (pos : Int) ∧ (pos : Int) ≤ (s.size : Int) := by omega
      have hix := HG.out pos h
      by_cases h47 : bt l pos = 47
      · rw [h47] at hix
        have HPY := hide (prs_yes l pos h47).symm
        have hpl := prs_le l pos
        have HB : Hid (((prs l pos).length + 1) * 16 ≤ 140737488355328) := hide (by have := HSM.out; omega)
        have O2 := hide (OX.out.alloc (.cells #[.string (s.extract 0 pos)] 9))
        have B2 := hide (BX.out.alloc BX.out.size (.cells #[.string (s.extract 0 pos)] 9))
        have HF : Hid (fS (l.take pos) = .string (s.extract 0 pos)) := hide (by rw [(HUP pos).out]; rfl)
        clear h47 hpl HUP OX
        go_wp2_with (refine wpList_app1 Try.underlying41 infoS rfl _ rfl (.tmp 15) (.tmp 19) rfl w.heap.size _ (prs l pos) (by rfl) O2.out (l.take pos) wr.heap.size 1 (by rfl) (by rw [HF.out]; exact cells_of (heap_new wr _) 0) rfl HB.out (by decide) (by have := B2.out.size; omega) ?_; intro v3 w3 h3 k3; have O3 := hide h3; have B3 := hide (growO O2.out (Nat.le_refl _) B2.out k3); clear h3 k3)
        rw [HPY.out] at O3
        go_roundg g1
        case measure => omega
        case rel => exact ⟨pos + 1, by omega, by go_num, O3, B3⟩
      · have HPN := hide (prs_no l pos h47).symm
        have hlt8 := bt_lt l pos
        rw [HPN.out] at OX
        generalize bt l pos = v at h47 hix hlt8
        have hv1 : ¬ (v : Int) = 47 := by omega
        have hvb : ((v : Int) == 47) = false := by simpa using hv1
        clear h47 HPN
        go_wp2_with fail
        go_roundg g1
        case measure => omega
        case rel => exact ⟨pos + 1, by omega, by go_num, OX, BX⟩
/-- How far parts has come: what is told, from where the next part begins. -/
def Pt (l : List UInt8) (i f : Nat) (O : List (List UInt8)) : Prop := O.length ≤ i ∧ ((i ≤ l.length ∧ f ≤ i ∧ spl l = O ++ spl (l.drop f) ∧ ∀ j, f ≤ j → j < i → bt l j ≠ 47) ∨ (i = l.length + 1 ∧ spl l = O))
theorem seg_no {l : List UInt8} {f i : Nat} (hfi : f ≤ i) (hi : i ≤ l.length) (h : ∀ j, f ≤ j → j < i → bt l j ≠ 47) : 47 ∉ (l.drop f).take (i - f) := fun m => by
  obtain ⟨k, hk, e⟩ := List.getElem_of_mem m
  have hk2 : k < i - f := by rw [List.length_take] at hk; omega
  have := h (f + k) (by omega) (by omega)
  apply this
  rw [List.getElem_take, List.getElem_drop] at e
  unfold bt
  rw [List.getD, List.getElem?_eq_getElem (by omega), Option.getD_some, e]
  rfl
theorem Pt.skip {l : List UInt8} {i f : Nat} {O : List (List UInt8)} (h : Pt l i f O) (hi : i < l.length) (h47 : bt l i ≠ 47) : Pt l (i + 1) f O := by
  obtain ⟨h0, ⟨h1, h2, h3, h4⟩ | ⟨h1, _⟩⟩ := h
  · refine ⟨by omega, .inl ⟨by omega, by omega, h3, fun j q1 q2 => ?_⟩⟩
    rcases Nat.lt_or_ge j i with q | q
    · exact h4 j q1 q
    · obtain rfl : j = i := by omega
      exact h47
  · omega
theorem Pt.from_ {l : List UInt8} {i f : Nat} {O : List (List UInt8)} (h : Pt l i f O) (hi : i ≤ l.length) : f ≤ i := by
  obtain ⟨h0, ⟨h1, h2, h3, h4⟩ | ⟨h1, _⟩⟩ := h
  · exact h2
  · omega
theorem Pt.cut {l : List UInt8} {i f : Nat} {O : List (List UInt8)} (h : Pt l i f O) (hi : i < l.length) (h47 : bt l i = 47) : Pt l (i + 1) (i + 1) (O ++ [(l.drop f).take (i - f)]) := by
  obtain ⟨h0, ⟨h1, h2, h3, h4⟩ | ⟨h1, _⟩⟩ := h
  · refine ⟨by rw [List.length_append, List.length_singleton]; omega, .inl ⟨by omega, Nat.le_refl _, ?_, fun j q1 q2 => by omega⟩⟩
    have e : l.drop f = (l.drop f).take (i - f) ++ 47 :: l.drop (i + 1) := by
      have hc : (47 : UInt8) = l[i] := by
        apply UInt8.toNat_inj.1
        have : bt l i = (l[i]).toNat := by simp [bt, List.getD, hi]
        rw [← this, h47]
        rfl
      conv => lhs; rw [← List.take_append_drop (i - f) (l.drop f)]
      rw [List.drop_drop, show f + (i - f) = i by omega, List.drop_eq_getElem_cons hi, hc]
    have hs := seg_no h2 (by omega) h4
    rw [h3, e, spl_part _ _ hs, ← e, List.append_assoc]
    rfl
  · omega
theorem Pt.last {l : List UInt8} {f : Nat} {O : List (List UInt8)} (h : Pt l l.length f O) : Pt l (l.length + 1) (l.length + 1) (O ++ [(l.drop f).take (l.length - f)]) := by
  obtain ⟨h0, ⟨h1, h2, h3, h4⟩ | ⟨h1, _⟩⟩ := h
  · refine ⟨by rw [List.length_append, List.length_singleton]; omega, .inr ⟨rfl, ?_⟩⟩
    have hs := seg_no h2 (Nat.le_refl _) h4
    have e : (l.drop f).take (l.length - f) = l.drop f := List.take_of_length_le (by rw [List.length_drop]; exact Nat.le_refl _)
    rw [e] at hs
    rw [h3, e, spl_one _ hs]
  · omega
theorem spl_sub : ∀ (l p : List UInt8), p ∈ spl l → p.length ≤ l.length := by
  intro l
  induction l with
  | nil => intro p hp; simp only [spl, List.mem_singleton] at hp; subst hp; exact Nat.le_refl _
  | cons c t ih =>
    intro p hp
    by_cases h : c = 47
    · subst h
      rw [spl_47] at hp
      rcases List.mem_cons.1 hp with rfl | hp
      · exact Nat.zero_le _
      · have := ih p hp; rw [List.length_cons]; omega
    · rw [spl, if_neg h] at hp
      cases hs : spl t with
      | nil => exact absurd hs (spl_ne t)
      | cons q qs =>
        rw [hs] at hp ih
        rcases List.mem_cons.1 hp with rfl | hp
        · have := ih q (List.mem_cons_self ..); rw [List.length_cons, List.length_cons]; omega
        · have := ih p (List.mem_cons_of_mem _ hp); rw [List.length_cons]; omega
theorem Pt.all {l : List UInt8} {f : Nat} {O : List (List UInt8)} (h : Pt l (l.length + 1) f O) : O = spl l := by
  obtain ⟨h0, ⟨h1, _⟩ | ⟨_, h2⟩⟩ := h
  · omega
  · exact h2.symm
def PrtOk (l : List UInt8) (w : World) (e : Ending) (w' : World) : Prop := ∃ v, e = .returned v ∧ Own 9 fS w' w.heap.size v (spl l) ∧ Below w.heap.size w w'

set_option maxHeartbeats 8000000 in
theorem rparts_c (s : ByteArray) (hsm : s.size ≤ 8000000000000) (w : World) : Calls Try.prog 58 #[.string s] w (PrtOk s.data.toList w) := by
  have HLS := hide (len_eq s)
  have HSM := hide hsm
  have HG := hide (show ∀ i (hi : i < s.size), (s[i]'hi).toNat = bt s.data.toList i from fun i hi => get_bt s i hi)
  have HUP := fun f pos => hide (show s.extract f pos = tx ((s.data.toList.drop f).take (pos - f)) from tx_cut s.data.toList f pos)
  obtain ⟨l, hl⟩ : ∃ l, l = s.data.toList := ⟨_, rfl⟩
  rw [← hl] at HLS HUP HG
  rw [← hl]
  have E0 := hide (Own.nil (T := 9) (f := fS) w w.heap.size)
  have P0 : Hid (Pt l 0 0 []) := hide ⟨Nat.le_refl _, .inl ⟨Nat.zero_le _, Nat.le_refl _, by rw [List.drop_zero]; rfl, fun j _ h => by omega⟩⟩
  obtain ⟨N, hN⟩ : ∃ N, N = s.size := ⟨_, rfl⟩
  have HN := hide hN
  clear hl hsm
  go_enter Try.func58, Try.ntmps58
  go_wp2_with fail
  go_loopg [3, 4, 5] (s.size + 1) (fun gk u3 u4 u5 wx => ∃ (i f : Nat) (O : List (List UInt8)), i + gk = s.size + 1 ∧ u4 = .int .i64 (f : Int) ∧ u5 = .int .i64 (i : Int) ∧ Hid (Pt l i f O) ∧ Hid (Own 9 fS wx w.heap.size u3 O) ∧ Hid (Below w.heap.size w wx))
  case atStart => exact ⟨0, 0, [], by omega, rfl, rfl, P0, E0, Below.refl _ _⟩
  case round =>
    obtain ⟨i, f, O, hg, rfl, rfl, PX, OX, BX⟩ := hrel
    clear E0 P0 hN HN
    cases gk with
    | zero =>
      have hi : i = s.size + 1 := by omega
      have hge : ¬ (i : Int) ≤ (s.size : Int) := by omega
      have HA : Hid (O = spl l) := hide (Pt.all (f := f) (by rw [HLS.out, ← hi]; exact PX.out))
      clear hi
      go_wp2_with fail
      go_ret
      exact ⟨_, rfl, by rw [← HA.out]; exact OX.out, BX.out⟩
    | succ g1 =>
      have hi : i ≤ s.size := by omega
      have hle : (i : Int) ≤ (s.size : Int) := by omega
      have hfi := PX.out.from_ (by rw [HLS.out]; exact hi)
      have hol := PX.out.1
      have q1 : (0 : Int) ≤ (f : Int) := by omega
      have q2 : (f : Int) ≤ (i : Int) := by omega
      have HB : Hid ((O.length + 1) * 16 ≤ 140737488355328) := hide (by have := HSM.out; omega)
      have O2 := hide (OX.out.alloc (.cells #[.string (s.extract f i)] 9))
      have B2 := hide (BX.out.alloc BX.out.size (.cells #[.string (s.extract f i)] 9))
      have HF : Hid (fS ((l.drop f).take (i - f)) = .string (s.extract f i)) := hide (by rw [(HUP f i).out]; rfl)
      have h64 : i ≤ 9000000000000 := by have := HSM.out; omega
      by_cases hend : i = s.size
      · subst hend
        have heq : ((s.size : Int) == (s.size : Int)) = true := by simp
        have PL := hide (show Pt l (s.size + 1) (s.size + 1) (O ++ [(l.drop f).take (s.size - f)]) by have := PX.out; rw [← HLS.out] at this ⊢; exact this.last)
        clear PX OX BX hol HUP
        go_wp2_with (refine wpList_app1 Try.underlying41 infoS rfl _ rfl (.tmp 22) (.tmp 27) rfl w.heap.size _ O (by rfl) O2.out ((l.drop f).take (s.size - f)) wr.heap.size 1 (by rfl) (by rw [HF.out]; exact cells_of (heap_new wr _) 0) rfl HB.out (by decide) (by have := B2.out.size; omega) ?_; intro v3 w3 h3 k3; have O3 := hide h3; have B3 := hide (growO O2.out (Nat.le_refl _) B2.out k3); clear h3 k3)
        go_roundg g1
        case measure => omega
        case rel => exact ⟨s.size + 1, s.size + 1, _, by omega, by go_num, by go_num, PL, O3, B3⟩
      · have hlt : i < s.size := by omega
        have hne : ¬ (i : Int) = (s.size : Int) := by omega
        have hneb : ((i : Int) == (s.size : Int)) = false := by simpa using hne
        have hix := HG.out i hlt
        by_cases h47 : bt l i = 47
        · rw [h47] at hix
          have PL := hide (PX.out.cut (by rw [HLS.out]; exact hlt) h47)
          clear PX OX BX hol HUP h47
          go_wp2_with (refine wpList_app1 Try.underlying41 infoS rfl _ rfl (.tmp 22) (.tmp 27) rfl w.heap.size _ O (by rfl) O2.out ((l.drop f).take (i - f)) wr.heap.size 1 (by rfl) (by rw [HF.out]; exact cells_of (heap_new wr _) 0) rfl HB.out (by decide) (by have := B2.out.size; omega) ?_; intro v3 w3 h3 k3; have O3 := hide h3; have B3 := hide (growO O2.out (Nat.le_refl _) B2.out k3); clear h3 k3)
          go_roundg g1
          case measure => omega
          case rel => exact ⟨i + 1, i + 1, _, by omega, by go_num, by go_num, PL, O3, B3⟩
        · have PL := hide (PX.out.skip (by rw [HLS.out]; exact hlt) h47)
          have hlt8 := bt_lt l i
          generalize bt l i = v at h47 hix hlt8
          have hv1 : ¬ (v : Int) = 47 := by omega
          have hvb : ((v : Int) == 47) = false := by simpa using hv1
          clear PX hol HUP h47 O2 B2 HF HB
          go_wp2_with fail
          go_roundg g1
          case measure => omega
          case rel => exact ⟨i + 1, f, O, by omega, rfl, by go_num, PL, OX, BX⟩

theorem add_tx (a b : List UInt8) (h : a.length + b.length ≤ 9223372036854775807) (W : World) : (Op.stringOp .add (tx a) (tx b)).run Try.prog W = .ok (.string (tx (a ++ b))) W := by
  rw [run_string_add_sum W (tx a) (tx b) (by rw [tx_size, tx_size]; exact h)]
  have := ByteArray.mk_append_mk a b
  exact congrArg (fun x => Result.ok (Value.string x) W) this
set_option maxHeartbeats 8000000 in
theorem rclean_c (s : ByteArray) (hsm : s.size ≤ 2000000) (w : World) : Calls Try.prog 43 #[.string s] w (ClnOk s.data.toList w) := by
  have HV := hide (rvalid_c s (by omega) w)
  have HPT := fun W => hide (rparts_c s (by omega) W)
  have HLS := hide (len_eq s)
  have HSM := hide hsm
  have HG := hide (show ∀ i (hi : i < s.size), (s[i]'hi).toNat = bt s.data.toList i from fun i hi => get_bt s i hi)
  by_cases hv : vld s.data.toList = true
  · rw [hv] at HV
    by_cases h47 : s.data.toList.head? = some 47
    · have HN : Hid (∀ w', Below w.heap.size w w' → ClnOk s.data.toList w (.returned (.tuple #[.string ⟨#[]⟩, .int .i64 140])) w') := hide fun w' hb => ClnOk.no (show cln s.data.toList = none by rw [cln, if_neg (fun q => q.2.2 h47)]) hb
      have hpos : 0 < s.size := by
        rw [← len_eq]
        cases hl : s.data.toList with
        | nil => rw [hl] at h47; cases h47
        | cons c t => simp
      have hix := HG.out 0 hpos
      have hb0 : bt s.data.toList 0 = 47 := by
        cases hl : s.data.toList with
        | nil => rw [hl] at h47; cases h47
        | cons c t => rw [hl] at h47; simp at h47; rw [h47]; rfl
      rw [hb0] at hix
      generalize ClnOk s.data.toList w = PO at HN ⊢
      clear hv h47 HG hb0 HPT
      go_enter Try.func43, Try.ntmps43
      go_wp2_with (go_at_call 44; refine HV.out.mono ?_; rintro e wq ⟨rfl, hw⟩; obtain rfl := hw.symm; clear HV)
      exact HN.out _ (Below.refl _ _)
    · have hcond : ¬ 0 < s.size ∨ (0 < s.size ∧ bt s.data.toList 0 ≠ 47) := by
        rcases Nat.lt_or_ge 0 s.size with h | h
        · refine .inr ⟨h, fun e => h47 ?_⟩
          cases hl : s.data.toList with
          | nil => rw [← len_eq, hl] at h; simp at h
          | cons c t => rw [hl] at e; exact congrArg some (UInt8.toNat_inj.1 (show c.toNat = (47 : UInt8).toNat from e))
        · exact .inl (by omega)
      have HZ : Hid (∀ i, i < s.size → bt s.data.toList i = 0 → ∀ w', Below w.heap.size w w' → ClnOk s.data.toList w (.returned (.tuple #[.string ⟨#[]⟩, .int .i64 140])) w') := hide fun i hi hz w' hb => ClnOk.no (show cln s.data.toList = none by
        have hl : i < s.data.toList.length := by rw [len_eq]; exact hi
        have : s.data.toList[i] = 0 := by
          apply UInt8.toNat_inj.1
          have e : bt s.data.toList i = (s.data.toList[i]).toNat := by unfold bt; rw [List.getD, List.getElem?_eq_getElem hl, Option.getD_some]
          rw [← e, hz]
          rfl
        have hm : (0 : UInt8) ∈ s.data.toList := by rw [← this]; exact List.getElem_mem hl
        rw [cln, if_neg (fun q => q.2.1 hm)]) hb
      obtain ⟨C, hC⟩ : ∃ C, C = cl (spl s.data.toList) [] := ⟨_, rfl⟩
      have hcl : 0 ∉ s.data.toList → cln s.data.toList = fin C := fun h0 => by rw [cln, if_pos ⟨hv, h0, h47⟩, hC]
      have HN : Hid (0 ∉ s.data.toList → C = none → ∀ w', Below w.heap.size w w' → ClnOk s.data.toList w (.returned (.tuple #[.string ⟨#[]⟩, .int .i64 140])) w') := hide fun h0 e w' hb => ClnOk.no (by rw [hcl h0, e]; rfl) hb
      have HN2 : Hid (0 ∉ s.data.toList → ∀ X, C = some X → (X = [] ∨ 200 < X.length) → ∀ w', Below w.heap.size w w' → ClnOk s.data.toList w (.returned (.tuple #[.string ⟨#[]⟩, .int .i64 140])) w') := hide fun h0 X e hx w' hb => ClnOk.no (by rw [hcl h0, e, fin_no hx]) hb
      have HY : Hid (0 ∉ s.data.toList → ∀ X, C = some X → ¬ (X = [] ∨ 200 < X.length) → ∀ w', Below w.heap.size w w' → ClnOk s.data.toList w (.returned (.tuple #[.string (tx X), .int .i64 0])) w') := hide fun h0 X e hx w' hb => ClnOk.yes (by rw [hcl h0, e, fin_yes hx]) hb
      have HMEM : Hid ((∀ j, j < s.size → bt s.data.toList j ≠ 0) → 0 ∉ s.data.toList) := hide fun h m => by
        obtain ⟨k, hk, e⟩ := List.getElem_of_mem m
        apply h k (by rw [← len_eq]; exact hk)
        unfold bt
        rw [List.getD, List.getElem?_eq_getElem hk, Option.getD_some, e]
        exact UInt8.toNat_zero
      have HPL : Hid (∀ i, i < (spl s.data.toList).length → ((spl s.data.toList).getD i []).length ≤ s.size ∧ (spl s.data.toList).length ≤ s.size + 1) := hide fun i hi => by
        have hm := List.getElem_mem hi
        rw [show (spl s.data.toList).getD i [] = (spl s.data.toList)[i] by simp [hi]]
        have h1 := spl_len s.data.toList
        have h2 := List.count_le_length (a := (47 : UInt8)) (l := s.data.toList)
        rw [len_eq] at h2
        refine ⟨?_, by omega⟩
        rw [← len_eq]
        exact spl_sub _ _ hm
      generalize ClnOk s.data.toList w = PO at HN HN2 HY HZ ⊢
      have HC0 := hide hC.symm
      clear hv h47 hC hcl
      generalize s.data.toList = l at *
      have HL0 : Hid (∀ i, bt l i < 256) := hide (bt_lt l)
      obtain ⟨v0, hv0⟩ : ∃ v0, v0 = bt l 0 := ⟨_, rfl⟩
      have HG0 := hide (fun h => (HG.out 0 h).trans hv0.symm)
      rw [← hv0] at hcond
      clear hv0
      rcases hcond with hz0 | ⟨hp0, hv47⟩
      · have hz1 : ¬ (0 : Int) < (s.size : Int) := by omega
        clear HG0
        go_enter Try.func43, Try.ntmps43
        go_wp2_with (go_at_call 44; refine HV.out.mono ?_; rintro e wq ⟨rfl, hw⟩; obtain rfl := hw.symm; clear HV)
        go_loopg [4] s.size (fun gk u4 wx => wx = w ∧ ∃ i : Nat, i + gk = s.size ∧ u4 = .int .i64 (i : Int) ∧ Hid (∀ j, j < i → bt l j ≠ 0))
        case atStart => exact ⟨rfl, 0, by omega, rfl, fun j hj => by omega⟩
        case round =>
          obtain ⟨hw, i, hg, rfl, HZ0⟩ := hrel
          subst hw
          have h64 : i ≤ 9000000000000 := by have := HSM.out; omega
          cases gk with
          | succ g1 =>
            have hi : i < s.size := by omega
            have hlt : (i : Int) < (s.size : Int) := by omega
            have hgi := HG.out i hi
            by_cases hz : bt l i = 0
            · have HF := hide (HZ.out i hi hz wr (Below.refl _ _))
              rw [hz] at hgi
              clear HZ HN HN2 HY hz HZ0 HMEM HG
              go_wp2_with fail
              exact HF.out
            · have HZ1 : Hid (∀ j, j < i + 1 → bt l j ≠ 0) := hide fun j hj => by
                rcases Nat.lt_or_ge j i with h | h
                · exact HZ0.out j h
                · obtain rfl : j = i := by omega
                  exact hz
              have hb8 := HL0.out i
              generalize bt l i = v at hz hgi hb8
              have hvz : ((v : Int) == 0) = false := by
                have : ¬ (v : Int) = 0 := by omega
                simpa using this
              clear hz HZ0
              go_wp2_with fail
              go_roundg g1
              case measure => omega
              case rel => exact ⟨rfl, i + 1, by omega, by go_num, HZ1⟩
          | zero =>
            obtain rfl : i = s.size := by omega
            have hge : ¬ (s.size : Int) < (s.size : Int) := by omega
            have h0 := HMEM.out HZ0.out
            replace HN := hide (HN.out h0)
            replace HN2 := hide (HN2.out h0)
            replace HY := hide (HY.out h0)
            have HPW := hide (HPT wr).out
            clear HPT HMEM HZ0 HZ HG h0
            go_upto_region 10 with (go_at_call 58; refine HPW.out.mono ?_; rintro e w2 ⟨v2, rfl, o2, b2⟩; have O2 := hide o2; have B2 := hide b2; clear b2 o2 HPW)
            obtain ⟨ad, cp, hv2, _⟩ := O2.out.form
            subst hv2
            have OC := hide (Own.cells O2.out)
            have HSN := hide (spl_ne l)
            generalize spl l = ps at *
            obtain ⟨Z, hZ⟩ : ∃ Z, Z = ps.length := ⟨_, rfl⟩
            have HZL := hide hZ
            rw [← hZ] at HPL ⊢
            clear hZ O2
            go_wp2_with fail
            go_loopg [5, 7] Z (fun gk u5 u7 wx => wx = w2 ∧ ∃ (i : Nat) (X : List UInt8), i + gk = Z ∧ u5 = .string (tx X) ∧ u7 = .int .i64 (i : Int) ∧ Hid (cl (ps.drop i) X = C) ∧ Hid (X.length ≤ 2000001 * i))
            case atStart => exact ⟨rfl, 0, [], by omega, rfl, rfl, hide (by rw [List.drop_zero]; exact HC0.out), hide (by simp)⟩
            case round =>
              obtain ⟨hw2, i, X, hg2, rfl, rfl, HCI, HXL⟩ := hrel
              subst hw2
              have hi64 : i ≤ 3000000 := by
                have h1 := HPL.out
                have h2 := HSM.out
                rcases Nat.eq_zero_or_pos Z with h | h
                · omega
                · have := (h1 0 h).2; omega
              cases gk with
              | zero =>
                obtain rfl : i = Z := by omega
                have hge2 : ¬ (i : Int) < (i : Int) := by omega
                have hX : C = some X := by rw [← HCI.out, List.drop_of_length_le (by rw [← HZL.out]; exact Nat.le_refl _)]; rfl
                have hsz := tx_size X
                clear HL0 HC0
                by_cases hX0 : X = []
                · have he : (tx X).toList.isEmpty = true := by rw [is_emp, hX0]; rfl
                  have HF := hide (HN2.out X hX (.inl hX0) wr B2.out)
                  clear HN HN2 HY hX HCI hX0 hsz
                  go_wp2_with fail
                  exact HF.out
                · have he : (tx X).toList.isEmpty = false := by rw [is_emp]; simpa using hX0
                  by_cases hX2 : 200 < X.length
                  · have hX3 : (200 : Int) < ((tx X).size : Int) := by rw [hsz]; omega
                    have HF := hide (HN2.out X hX (.inr hX2) wr B2.out)
                    clear HN HN2 HY hX HCI hX0 hsz hX2
                    go_wp2_with fail
                    exact HF.out
                  · have hX3 : ¬ (200 : Int) < ((tx X).size : Int) := by rw [hsz]; omega
                    have HF := hide (HY.out X hX (fun q => by rcases q with q | q; exact hX0 q; exact hX2 q) wr B2.out)
                    clear HN HN2 HY hX HCI hX0 hsz hX2
                    go_wp2_with fail
                    exact HF.out
              | succ g1 =>
                have hi : i < Z := by omega
                have hlt : (i : Int) < (Z : Int) := by omega
                have hi0 : (0 : Int) ≤ (i : Int) := by omega
                have hil : i < ps.length := by rw [← HZL.out]; exact hi
                obtain ⟨P, hP⟩ : ∃ P, P = ps[i] := ⟨_, rfl⟩
                obtain ⟨g, hg1, hcell⟩ : ∃ g, ad = some ⟨g, 0, none⟩ ∧ wr.cell? ⟨g, i, none⟩ = some (.string (tx P)) := by
                  rcases OC.out with h | ⟨g, h1, _, _, h4⟩
                  · omega
                  · exact ⟨g, h1, by rw [h4 i hil, ← hP]; rfl⟩
                subst hg1
                have hdr : ps.drop i = P :: ps.drop (i + 1) := by rw [List.drop_eq_getElem_cons hil, hP]
                have hpl := (HPL.out i hi).1
                rw [show ps.getD i [] = P by rw [hP]; simp [hil]] at hpl
                have hPs : P.length ≤ 2000000 := by have := HSM.out; omega
                have hXs : X.length ≤ 9000000000000 := by have := HXL.out; omega
                rw [hdr] at HCI
                have HC2 := HCI.out
                clear HCI HL0 hP hdr hil
                by_cases p2 : P = [46, 46]
                · have q2 : ((tx P).toList == [46, 46]) = true := by rw [is_one, p2]; rfl
                  have HF := hide (HN.out (by rw [← HC2, p2, cl_out]) wr B2.out)
                  clear HN HN2 HY HC2 p2
                  go_wp2_with fail
                  exact HF.out
                · have q2 : ((tx P).toList == [46, 46]) = false := by rw [is_one]; simpa using p2
                  by_cases p0 : P = []
                  · have q0 : (tx P).toList.isEmpty = true := by rw [is_emp, p0]; rfl
                    rw [cl_skip _ _ (.inl p0)] at HC2
                    have HC3 := hide HC2
                    clear HC2 p0 p2
                    go_wp2_with fail
                    go_roundg g1
                    case measure => omega
                    case rel => exact ⟨rfl, i + 1, X, by omega, rfl, by go_num, HC3, hide (by have := HXL.out; omega)⟩
                  · have q0 : (tx P).toList.isEmpty = false := by rw [is_emp]; simpa using p0
                    by_cases p1 : P = [46]
                    · have q1 : ((tx P).toList == [46]) = true := by rw [is_one, p1]; rfl
                      rw [cl_skip _ _ (.inr p1)] at HC2
                      have HC3 := hide HC2
                      clear HC2 p0 p1 p2
                      go_wp2_with fail
                      go_roundg g1
                      case measure => omega
                      case rel => exact ⟨rfl, i + 1, X, by omega, rfl, by go_num, HC3, hide (by have := HXL.out; omega)⟩
                    · have q1 : ((tx P).toList == [46]) = false := by rw [is_one]; simpa using p1
                      rw [cl_take _ _ ⟨p0, p1, p2⟩] at HC2
                      by_cases hX0 : X = []
                      · have he : (tx X).toList.isEmpty = true := by rw [is_emp, hX0]; rfl
                        rw [if_pos hX0] at HC2
                        have HC3 := hide HC2
                        have hadd : ∀ W, (Op.stringOp .add (tx X) (tx P)).run Try.prog W = .ok (.string (tx P)) W := fun W => by
                          rw [hX0, add_tx [] P (by simp; omega) W]; rfl
                        clear HC2 p0 p1 p2 hX0
                        go_wp2_with fail
                        go_roundg g1
                        case measure => omega
                        case rel => exact ⟨rfl, i + 1, P, by omega, rfl, by go_num, HC3, hide (by omega)⟩
                      · have he : (tx X).toList.isEmpty = false := by rw [is_emp]; simpa using hX0
                        rw [if_neg hX0] at HC2
                        have HC3 := hide HC2
                        have hadd1 : ∀ W, (Op.stringOp .add (tx X) ⟨#[47]⟩).run Try.prog W = .ok (.string (tx (X ++ [47]))) W := fun W => add_tx X [47] (by simp; omega) W
                        have hadd2 : ∀ W, (Op.stringOp .add (tx (X ++ [47])) (tx P)).run Try.prog W = .ok (.string (tx (X ++ 47 :: P))) W := fun W => by
                          rw [add_tx (X ++ [47]) P (by simp; omega) W, List.append_assoc]; rfl
                        clear HC2 p0 p1 p2 hX0
                        go_wp2_with fail
                        go_roundg g1
                        case measure => omega
                        case rel => exact ⟨rfl, i + 1, X ++ 47 :: P, by omega, rfl, by go_num, HC3, hide (by rw [List.length_append, List.length_cons]; have := HXL.out; omega)⟩
      · have hp1 : (0 : Int) < (s.size : Int) := by omega
        have hix0 := HG0.out hp0
        have hv1 : ¬ (v0 : Int) = 47 := by omega
        have hvb : ((v0 : Int) == 47) = false := by simpa using hv1
        clear HG0
        go_enter Try.func43, Try.ntmps43
        go_wp2_with (go_at_call 44; refine HV.out.mono ?_; rintro e wq ⟨rfl, hw⟩; obtain rfl := hw.symm; clear HV)
        go_loopg [4] s.size (fun gk u4 wx => wx = w ∧ ∃ i : Nat, i + gk = s.size ∧ u4 = .int .i64 (i : Int) ∧ Hid (∀ j, j < i → bt l j ≠ 0))
        case atStart => exact ⟨rfl, 0, by omega, rfl, fun j hj => by omega⟩
        case round =>
          obtain ⟨hw, i, hg, rfl, HZ0⟩ := hrel
          subst hw
          have h64 : i ≤ 9000000000000 := by have := HSM.out; omega
          cases gk with
          | succ g1 =>
            have hi : i < s.size := by omega
            have hlt : (i : Int) < (s.size : Int) := by omega
            have hgi := HG.out i hi
            by_cases hz : bt l i = 0
            · have HF := hide (HZ.out i hi hz wr (Below.refl _ _))
              rw [hz] at hgi
              clear HZ HN HN2 HY hz HZ0 HMEM HG
              go_wp2_with fail
              exact HF.out
            · have HZ1 : Hid (∀ j, j < i + 1 → bt l j ≠ 0) := hide fun j hj => by
                rcases Nat.lt_or_ge j i with h | h
                · exact HZ0.out j h
                · obtain rfl : j = i := by omega
                  exact hz
              have hb8 := HL0.out i
              generalize bt l i = v at hz hgi hb8
              have hvz : ((v : Int) == 0) = false := by
                have : ¬ (v : Int) = 0 := by omega
                simpa using this
              clear hz HZ0
              go_wp2_with fail
              go_roundg g1
              case measure => omega
              case rel => exact ⟨rfl, i + 1, by omega, by go_num, HZ1⟩
          | zero =>
            obtain rfl : i = s.size := by omega
            have hge : ¬ (s.size : Int) < (s.size : Int) := by omega
            have h0 := HMEM.out HZ0.out
            replace HN := hide (HN.out h0)
            replace HN2 := hide (HN2.out h0)
            replace HY := hide (HY.out h0)
            have HPW := hide (HPT wr).out
            clear HPT HMEM HZ0 HZ HG h0
            go_upto_region 10 with (go_at_call 58; refine HPW.out.mono ?_; rintro e w2 ⟨v2, rfl, o2, b2⟩; have O2 := hide o2; have B2 := hide b2; clear b2 o2 HPW)
            obtain ⟨ad, cp, hv2, _⟩ := O2.out.form
            subst hv2
            have OC := hide (Own.cells O2.out)
            have HSN := hide (spl_ne l)
            generalize spl l = ps at *
            obtain ⟨Z, hZ⟩ : ∃ Z, Z = ps.length := ⟨_, rfl⟩
            have HZL := hide hZ
            rw [← hZ] at HPL ⊢
            clear hZ O2
            go_wp2_with fail
            go_loopg [5, 7] Z (fun gk u5 u7 wx => wx = w2 ∧ ∃ (i : Nat) (X : List UInt8), i + gk = Z ∧ u5 = .string (tx X) ∧ u7 = .int .i64 (i : Int) ∧ Hid (cl (ps.drop i) X = C) ∧ Hid (X.length ≤ 2000001 * i))
            case atStart => exact ⟨rfl, 0, [], by omega, rfl, rfl, hide (by rw [List.drop_zero]; exact HC0.out), hide (by simp)⟩
            case round =>
              obtain ⟨hw2, i, X, hg2, rfl, rfl, HCI, HXL⟩ := hrel
              subst hw2
              have hi64 : i ≤ 3000000 := by
                have h1 := HPL.out
                have h2 := HSM.out
                rcases Nat.eq_zero_or_pos Z with h | h
                · omega
                · have := (h1 0 h).2; omega
              cases gk with
              | zero =>
                obtain rfl : i = Z := by omega
                have hge2 : ¬ (i : Int) < (i : Int) := by omega
                have hX : C = some X := by rw [← HCI.out, List.drop_of_length_le (by rw [← HZL.out]; exact Nat.le_refl _)]; rfl
                have hsz := tx_size X
                clear HL0 HC0
                by_cases hX0 : X = []
                · have he : (tx X).toList.isEmpty = true := by rw [is_emp, hX0]; rfl
                  have HF := hide (HN2.out X hX (.inl hX0) wr B2.out)
                  clear HN HN2 HY hX HCI hX0 hsz
                  go_wp2_with fail
                  exact HF.out
                · have he : (tx X).toList.isEmpty = false := by rw [is_emp]; simpa using hX0
                  by_cases hX2 : 200 < X.length
                  · have hX3 : (200 : Int) < ((tx X).size : Int) := by rw [hsz]; omega
                    have HF := hide (HN2.out X hX (.inr hX2) wr B2.out)
                    clear HN HN2 HY hX HCI hX0 hsz hX2
                    go_wp2_with fail
                    exact HF.out
                  · have hX3 : ¬ (200 : Int) < ((tx X).size : Int) := by rw [hsz]; omega
                    have HF := hide (HY.out X hX (fun q => by rcases q with q | q; exact hX0 q; exact hX2 q) wr B2.out)
                    clear HN HN2 HY hX HCI hX0 hsz hX2
                    go_wp2_with fail
                    exact HF.out
              | succ g1 =>
                have hi : i < Z := by omega
                have hlt : (i : Int) < (Z : Int) := by omega
                have hi0 : (0 : Int) ≤ (i : Int) := by omega
                have hil : i < ps.length := by rw [← HZL.out]; exact hi
                obtain ⟨P, hP⟩ : ∃ P, P = ps[i] := ⟨_, rfl⟩
                obtain ⟨g, hg1, hcell⟩ : ∃ g, ad = some ⟨g, 0, none⟩ ∧ wr.cell? ⟨g, i, none⟩ = some (.string (tx P)) := by
                  rcases OC.out with h | ⟨g, h1, _, _, h4⟩
                  · omega
                  · exact ⟨g, h1, by rw [h4 i hil, ← hP]; rfl⟩
                subst hg1
                have hdr : ps.drop i = P :: ps.drop (i + 1) := by rw [List.drop_eq_getElem_cons hil, hP]
                have hpl := (HPL.out i hi).1
                rw [show ps.getD i [] = P by rw [hP]; simp [hil]] at hpl
                have hPs : P.length ≤ 2000000 := by have := HSM.out; omega
                have hXs : X.length ≤ 9000000000000 := by have := HXL.out; omega
                rw [hdr] at HCI
                have HC2 := HCI.out
                clear HCI HL0 hP hdr hil
                by_cases p2 : P = [46, 46]
                · have q2 : ((tx P).toList == [46, 46]) = true := by rw [is_one, p2]; rfl
                  have HF := hide (HN.out (by rw [← HC2, p2, cl_out]) wr B2.out)
                  clear HN HN2 HY HC2 p2
                  go_wp2_with fail
                  exact HF.out
                · have q2 : ((tx P).toList == [46, 46]) = false := by rw [is_one]; simpa using p2
                  by_cases p0 : P = []
                  · have q0 : (tx P).toList.isEmpty = true := by rw [is_emp, p0]; rfl
                    rw [cl_skip _ _ (.inl p0)] at HC2
                    have HC3 := hide HC2
                    clear HC2 p0 p2
                    go_wp2_with fail
                    go_roundg g1
                    case measure => omega
                    case rel => exact ⟨rfl, i + 1, X, by omega, rfl, by go_num, HC3, hide (by have := HXL.out; omega)⟩
                  · have q0 : (tx P).toList.isEmpty = false := by rw [is_emp]; simpa using p0
                    by_cases p1 : P = [46]
                    · have q1 : ((tx P).toList == [46]) = true := by rw [is_one, p1]; rfl
                      rw [cl_skip _ _ (.inr p1)] at HC2
                      have HC3 := hide HC2
                      clear HC2 p0 p1 p2
                      go_wp2_with fail
                      go_roundg g1
                      case measure => omega
                      case rel => exact ⟨rfl, i + 1, X, by omega, rfl, by go_num, HC3, hide (by have := HXL.out; omega)⟩
                    · have q1 : ((tx P).toList == [46]) = false := by rw [is_one]; simpa using p1
                      rw [cl_take _ _ ⟨p0, p1, p2⟩] at HC2
                      by_cases hX0 : X = []
                      · have he : (tx X).toList.isEmpty = true := by rw [is_emp, hX0]; rfl
                        rw [if_pos hX0] at HC2
                        have HC3 := hide HC2
                        have hadd : ∀ W, (Op.stringOp .add (tx X) (tx P)).run Try.prog W = .ok (.string (tx P)) W := fun W => by
                          rw [hX0, add_tx [] P (by simp; omega) W]; rfl
                        clear HC2 p0 p1 p2 hX0
                        go_wp2_with fail
                        go_roundg g1
                        case measure => omega
                        case rel => exact ⟨rfl, i + 1, P, by omega, rfl, by go_num, HC3, hide (by omega)⟩
                      · have he : (tx X).toList.isEmpty = false := by rw [is_emp]; simpa using hX0
                        rw [if_neg hX0] at HC2
                        have HC3 := hide HC2
                        have hadd1 : ∀ W, (Op.stringOp .add (tx X) ⟨#[47]⟩).run Try.prog W = .ok (.string (tx (X ++ [47]))) W := fun W => add_tx X [47] (by simp; omega) W
                        have hadd2 : ∀ W, (Op.stringOp .add (tx (X ++ [47])) (tx P)).run Try.prog W = .ok (.string (tx (X ++ 47 :: P))) W := fun W => by
                          rw [add_tx (X ++ [47]) P (by simp; omega) W, List.append_assoc]; rfl
                        clear HC2 p0 p1 p2 hX0
                        go_wp2_with fail
                        go_roundg g1
                        case measure => omega
                        case rel => exact ⟨rfl, i + 1, X ++ 47 :: P, by omega, rfl, by go_num, HC3, hide (by rw [List.length_append, List.length_cons]; have := HXL.out; omega)⟩
  · rw [Bool.eq_false_iff.2 hv] at HV
    have HN : Hid (∀ w', Below w.heap.size w w' → ClnOk s.data.toList w (.returned (.tuple #[.string ⟨#[]⟩, .int .i64 140])) w') := hide fun w' hb => ClnOk.no (show cln s.data.toList = none by rw [cln, if_neg (fun q => hv q.1)]) hb
    generalize ClnOk s.data.toList w = PO at HN ⊢
    clear hv HG HPT
    go_enter Try.func43, Try.ntmps43
    go_wp2_with (go_at_call 44; refine HV.out.mono ?_; rintro e wq ⟨rfl, hw⟩; obtain rfl := hw.symm; clear HV)
    exact HN.out _ (Below.refl _ _)
end Go.Proofs.Ytlfffpgokemjbaa.E
