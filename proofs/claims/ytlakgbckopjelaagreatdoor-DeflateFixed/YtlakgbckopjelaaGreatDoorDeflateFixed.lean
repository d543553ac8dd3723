/-
  PROVED: 'wainloadlaw08.DeflateFixed' answers true: tokens that may be make the fixed block that the document says, bit by bit, and it is read as what they tell; others are refused; for all tokens. The card: the order of lengths is what the program's text lays.
-/
import Derived.Test.YtlakgbckopjelaaGreatDoorDFewT
import Derived.Test.YtlakgbckopjelaaGreatDoorDQFx
import Derived.SliceStrings
namespace Go.Proofs.YtlakgbckopjelaaGreatDoor.deflateFixed
set_option maxRecDepth 100000
open Go.ChangeShapes Go.WideShapes Go.ChangeAt Go.RowKit
set_option linter.unusedVariables false

theorem fixed_ret {w : World} {ts : List M.Tk} {e : Ending} {w' : World} (h : OneRet w ts 1 e w') : ∃ g c, e = .returned (.tuple #[.slice (some ⟨g, 0, none⟩) (dataL (blB 1 true [] iFix iFive ts)).length c, .bool true]) ∧ OwnsB w' w.heap.size (.slice (some ⟨g, 0, none⟩) (dataL (blB 1 true [] iFix iFive ts)).length c) (dataL (blB 1 true [] iFix iFive ts)) ∧ Below w.heap.size w w' := by
  obtain ⟨S, D, H, g, c, hbk, _, hH, he, ho, hb⟩ := h
  obtain ⟨_, rfl, rfl⟩ : 1 = 1 ∧ S = iFix ∧ D = iFive := by
    rcases hbk.kind with h | h
    · exact h
    · omega
  obtain rfl : H = [] := by
    rcases hH with h | h
    · exact h.2
    · omega
  exact ⟨g, c, he, ho, hb⟩
theorem fx_short {ts : List M.Tk} (hr : M.Rt ts) (hl : ts.length ≤ 600) : (dataL (blB 1 true [] iFix iFive ts)).length ≤ 100000 := by
  have h1 := fxB_len hr ts.length (Nat.le_refl _)
  rw [List.take_length] at h1
  rw [dataL_length, ← fxB_all, List.length_append, rowL_length]
  omega
set_option maxHeartbeats 4000000 in
theorem walk (a : Option Addr) (ct : Nat) (ts : List M.Tk) (w : World) (h : M.TIn w a ct ts) (hb : ∀ b off, a = some ⟨b, off, none⟩ → b < w.heap.size) (hT : Tab w) :
    Calls Tryz.prog 4 #[.slice a ts.length ct] w fun e w' => e = .returned (.bool true) ∧ Below w.heap.size w w' := by
  have HA : Hid (∀ W, Below w.heap.size w W → Calls Tryz.prog 8 #[] W fun e w' => e = .returned (.bool true) ∧ Below W.heap.size W w') := fun W hW => alive_c W (hT.on hW)
  have H0 := hide (few_c a ct ts w h.toks)
  by_cases hf : fewB ts = true
  case neg =>
    rw [show fewB ts = false by simpa using hf] at H0
    clear h hT hb hf
    go_enter Tryz.func4, Tryz.ntmps4
    go_wp2_with (first
      | (go_at_call 12; refine H0.out.mono ?_; rintro e w1 ⟨rfl, b1⟩; have B1 := hide b1; clear b1 H0)
      | (go_at_call 8; refine (HA.out _ B1.out).mono ?_; rintro x w9 ⟨rfl, b9⟩; have B9 := hide (B1.out.trans (b9.mono B1.out.size)); clear b9))
    go_ret
    exact ⟨rfl, B9.out⟩
  rw [hf] at H0
  have hlen := fewB_len hf
  by_cases hr : M.Rt ts
  case neg =>
    have H1 : Hid (∀ W, Below w.heap.size w W → Calls Tryz.prog 13 #[.slice a ts.length ct] W fun e w' => e = .returned (.tuple #[.slice none 0 0, .bool false]) ∧ Below W.heap.size W w') := fun W hW => fixed_no W a ct ts (h.toks.stay hW) (by omega) hr
    have H2 : Hid (∀ W, Below w.heap.size w W → Calls Tryz.prog 14 #[.slice a ts.length ct] W fun e w' => e = .returned (.bool false) ∧ Below W.heap.size W w') := fun W hW => M.qright_no a ct ts W (h.toks.stay hW) (by omega) hr
    clear h hT hb hf hr
    go_enter Tryz.func4, Tryz.ntmps4
    go_wp2_with (first
      | (go_at_call 12; refine H0.out.mono ?_; rintro e w1 ⟨rfl, b1⟩; have B1 := hide b1; clear b1 H0)
      | (go_at_call 13; refine (H1.out _ B1.out).mono ?_; rintro x w2 ⟨rfl, b2⟩; have B2 := hide (B1.out.trans (b2.mono B1.out.size)); clear b2 H1)
      | (go_at_call 14; refine (H2.out _ B2.out).mono ?_; rintro x w3 ⟨rfl, b3⟩; have B3 := hide (B2.out.trans (b3.mono B2.out.size)); clear b3 H2)
      | (go_at_call 8; refine (HA.out _ B3.out).mono ?_; rintro x w9 ⟨rfl, b9⟩; have B9 := hide (B3.out.trans (b9.mono B3.out.size)); clear b9))
    go_ret
    exact ⟨rfl, B9.out⟩
  have H1 : Hid (∀ W, Below w.heap.size w W → Calls Tryz.prog 13 #[.slice a ts.length ct] W fun e w' => ∃ g c, e = .returned (.tuple #[.slice (some ⟨g, 0, none⟩) (dataL (blB 1 true [] iFix iFive ts)).length c, .bool true]) ∧ OwnsB w' W.heap.size (.slice (some ⟨g, 0, none⟩) (dataL (blB 1 true [] iFix iFive ts)).length c) (dataL (blB 1 true [] iFix iFive ts)) ∧ Below W.heap.size W w') := fun W hW => (fixed_yes W (hT.on hW) (hT.on hW).pos a ct ts ((TkIn.of h hb hr hlen).stay hW) hr).mono fun _ _ h => fixed_ret h
  have H2 : Hid (∀ W, Below w.heap.size w W → Calls Tryz.prog 14 #[.slice a ts.length ct] W fun e w' => e = .returned (.bool true) ∧ Below W.heap.size W w') := fun W hW => M.qright_yes a ct ts W (h.toks.stay hW) (by omega) hr
  have H3 : Hid (∀ W, Below w.heap.size w W → Calls Tryz.prog 15 #[.slice a ts.length ct] W fun e w' => ∃ a' c', e = .returned (.slice a' (dataL (blB 1 true [] iFix iFive ts)).length c') ∧ OwnsB w' W.heap.size (.slice a' (dataL (blB 1 true [] iFix iFive ts)).length c') (dataL (blB 1 true [] iFix iFive ts)) ∧ Below W.heap.size W w') := fun W hW => q8Fixed_c W a ct ts (h.toks.stay hW) hr h.bt (by omega)
  have H4 : Hid (∀ W, Below w.heap.size w W → Calls Tryz.prog 16 #[.slice a ts.length ct] W fun e w' => ∃ o oc, e = .returned (.slice o (M.tel ts).length oc) ∧ OwnsB w' W.heap.size (.slice o (M.tel ts).length oc) (M.tel ts) ∧ Below W.heap.size W w') := fun W hW => M.qtell_c a ct ts W (h.toks.stay hW) (by omega) hr
  have H5 : Hid (∀ (W : World) g c base (o : Option Addr) oc base2, OwnsB W base (.slice (some ⟨g, 0, none⟩) (dataL (blB 1 true [] iFix iFive ts)).length c) (dataL (blB 1 true [] iFix iFive ts)) → OwnsB W base2 (.slice o (M.tel ts).length oc) (M.tel ts) → Calls Tryz.prog 11 #[.slice (some ⟨g, 0, none⟩) (dataL (blB 1 true [] iFix iFive ts)).length c, .slice o (M.tel ts).length oc] W fun e w' => e = .returned (.bool true) ∧ Below W.heap.size W w') := fun W g c base o oc base2 h1 h2 => tells_block (fix_ok (TOk.of hr h.bt) (by omega)) (.inl ⟨rfl, rfl⟩) hr h.bt hlen (fx_short hr hlen) h1 h2
  generalize dataL (blB 1 true [] iFix iFive ts) = ST at H1 H3 H5
  generalize M.tel ts = Z at H4 H5
  obtain ⟨S, hS⟩ : ∃ S, strOfNums ST = S := ⟨_, rfl⟩
  have HS := hide hS
  clear h hT hb hf hr hS
  go_enter Tryz.func4, Tryz.ntmps4
  go_upto_region 6 with (first
    | (go_at_call 12; refine H0.out.mono ?_; rintro e w1 ⟨rfl, b1⟩; have B1 := hide b1; clear b1 H0)
    | (go_at_call 13; refine (H1.out _ B1.out).mono ?_; rintro x w2 ⟨g, c1, rfl, o2, b2⟩; have B2 := hide (B1.out.trans (b2.mono B1.out.size)); have O2 := hide o2; clear o2 b2 H1)
    | (go_at_call 14; refine (H2.out _ B2.out).mono ?_; rintro x w3 ⟨rfl, b3⟩; have B3 := hide (B2.out.trans (b3.mono B2.out.size)); have O3 := hide (O2.out.below b3); clear b3 H2 O2))
  refine wp_region_any (by kernel_rfl) ?_
  change wpAny _ _ _ _ _ _ _ (World.drew _)
  refine wpAny_ready (rs := [0]) (by kernel_rfl) (by simp) ?_
  refine AllReady.cons rfl (fun K hK => ?_) AllReady.nil
  go_simp
  go_wp2_with (go_at_call 8; refine (HA.out _ (B3.out.trans (((Below.refl _ w3).drew).mono B3.out.size))).mono ?_; rintro e w4 ⟨rfl, b4⟩; have b4' : Below w3.heap.size w3 w4 := (Below.refl _ w3).drew.trans b4; have B4 := hide (B3.out.trans (b4'.mono B3.out.size)); have O4 := hide (O3.out.below b4'); have hc4 := conv_own O4.out; rw [HS.out] at hc4; clear b4 b4')
  try (refine hK _ _ ?_; clear hK K)
  try simp only [Act.put, List.getElem_toArray, List.getElem_cons_zero, List.getElem_cons_succ, List.setIfInBounds_toArray, List.set_cons_zero, List.set_cons_succ]
  (refine wpAny_take (i := 1) (v := ?_) rfl (by kernel_rfl) (by kernel_rfl) (by kernel_rfl) (fun _ _ _ h => h) (Or.inl ⟨by rfl, ?_⟩) ?_; rotate_left; (intro w; go_simp); (try with_reducible rfl); try simp only [Act.put, List.getElem_toArray, List.getElem_cons_zero, List.getElem_cons_succ, List.setIfInBounds_toArray, List.set_cons_zero, List.set_cons_succ])
  (refine wpAny_take (i := 2) (v := ?_) rfl (by kernel_rfl) (by kernel_rfl) (by kernel_rfl) (fun _ _ _ h => h) (Or.inl ⟨by rfl, ?_⟩) ?_; rotate_left; (intro w; go_simp); (try with_reducible rfl); try simp only [Act.put, List.getElem_toArray, List.getElem_cons_zero, List.getElem_cons_succ, List.setIfInBounds_toArray, List.set_cons_zero, List.set_cons_succ])
  (refine wpAny_take (i := 3) (v := ?_) rfl (by kernel_rfl) (by kernel_rfl) (by kernel_rfl) (fun _ _ _ h => h) (Or.inl ⟨by rfl, ?_⟩) ?_; rotate_left; (intro w; go_simp); (try with_reducible rfl); try simp only [Act.put, List.getElem_toArray, List.getElem_cons_zero, List.getElem_cons_succ, List.setIfInBounds_toArray, List.set_cons_zero, List.set_cons_succ])
  (refine wpAny_take (i := 4) (v := ?_) rfl (by kernel_rfl) (by kernel_rfl) (by kernel_rfl) (fun _ _ _ h => h) (Or.inl ⟨by rfl, ?_⟩) ?_; rotate_left; (intro w; go_simp); (try with_reducible rfl); try simp only [Act.put, List.getElem_toArray, List.getElem_cons_zero, List.getElem_cons_succ, List.setIfInBounds_toArray, List.set_cons_zero, List.set_cons_succ])
  (refine wpAny_take (i := 5) (v := ?_) rfl (by kernel_rfl) (by kernel_rfl) (by kernel_rfl) (fun _ _ _ h => h) (Or.inl ⟨by rfl, ?_⟩) ?_; rotate_left; (intro w; go_simp); (try with_reducible rfl); try simp only [Act.put, List.getElem_toArray, List.getElem_cons_zero, List.getElem_cons_succ, List.setIfInBounds_toArray, List.set_cons_zero, List.set_cons_succ])
  (refine wpAny_take (i := 7) (v := ?_) rfl (by kernel_rfl) (by kernel_rfl) (by kernel_rfl) (fun _ _ _ h => h) (Or.inl ⟨by rfl, ?_⟩) ?_; rotate_left; (intro w; go_simp); (try with_reducible rfl); try simp only [Act.put, List.getElem_toArray, List.getElem_cons_zero, List.getElem_cons_succ, List.setIfInBounds_toArray, List.set_cons_zero, List.set_cons_succ])
  refine wpAny_ready (rs := [6, 8]) (by kernel_rfl) (by simp) ?_
  refine AllReady.cons rfl (fun K hK => ?_) (AllReady.cons rfl (fun K hK => ?_) AllReady.nil)
  · go_simp
    try (refine hK _ _ ?_; clear hK K)
    try simp only [Act.put, List.getElem_toArray, List.getElem_cons_zero, List.getElem_cons_succ, List.setIfInBounds_toArray, List.set_cons_zero, List.set_cons_succ]
    refine wpAny_ready (rs := [8]) (by kernel_rfl) (by simp) ?_
    refine AllReady.cons rfl (fun K hK => ?_) AllReady.nil
    go_simp
    go_wp2_with (go_at_call 15; refine (H3.out w4 B4.out).mono ?_; rintro e w5 ⟨o5, c5, rfl, k5, k6⟩; have B5 := hide (B4.out.trans (k6.mono B4.out.size)); have O5 := hide (O4.out.below k6); have hc5 := conv_own k5; have hc6 := conv_own O5.out; rw [HS.out] at hc5 hc6; clear k5 k6)
    try (refine hK _ _ ?_; clear hK K)
    try simp only [Act.put, List.getElem_toArray, List.getElem_cons_zero, List.getElem_cons_succ, List.setIfInBounds_toArray, List.set_cons_zero, List.set_cons_succ]
    refine wpAny_ready (rs := [9]) (by kernel_rfl) (by simp) ?_
    refine AllReady.cons rfl (fun K hK => ?_) AllReady.nil
    go_simp
    try (refine hK _ _ ?_; clear hK K)
    try simp only [Act.put, List.getElem_toArray, List.getElem_cons_zero, List.getElem_cons_succ, List.setIfInBounds_toArray, List.set_cons_zero, List.set_cons_succ]
    (refine wpAny_take (i := 10) (v := ?_) rfl (by kernel_rfl) (by kernel_rfl) (by kernel_rfl) (fun _ _ _ h => h) (Or.inl ⟨by rfl, ?_⟩) ?_; rotate_left; (intro w; go_simp); (try with_reducible rfl); try simp only [Act.put, List.getElem_toArray, List.getElem_cons_zero, List.getElem_cons_succ, List.setIfInBounds_toArray, List.set_cons_zero, List.set_cons_succ])
    (refine wpAny_take (i := 11) (v := ?_) rfl (by kernel_rfl) (by kernel_rfl) (by kernel_rfl) (fun _ _ _ h => h) (Or.inl ⟨by rfl, ?_⟩) ?_; rotate_left; (intro w; go_simp); (try with_reducible rfl); try simp only [Act.put, List.getElem_toArray, List.getElem_cons_zero, List.getElem_cons_succ, List.setIfInBounds_toArray, List.set_cons_zero, List.set_cons_succ])
    (refine wpAny_take (i := 12) (v := ?_) rfl (by kernel_rfl) (by kernel_rfl) (by kernel_rfl) (fun _ _ _ h => h) (Or.inl ⟨by rfl, ?_⟩) ?_; rotate_left; (intro w; go_simp); (try with_reducible rfl); try simp only [Act.put, List.getElem_toArray, List.getElem_cons_zero, List.getElem_cons_succ, List.setIfInBounds_toArray, List.set_cons_zero, List.set_cons_succ])
    (refine wpAny_take (i := 13) (v := ?_) rfl (by kernel_rfl) (by kernel_rfl) (by kernel_rfl) (fun _ _ _ h => h) (Or.inl ⟨by rfl, ?_⟩) ?_; rotate_left; (intro w; go_simp); (try with_reducible rfl); try simp only [Act.put, List.getElem_toArray, List.getElem_cons_zero, List.getElem_cons_succ, List.setIfInBounds_toArray, List.set_cons_zero, List.set_cons_succ])
    (refine wpAny_take (i := 14) (v := ?_) rfl (by kernel_rfl) (by kernel_rfl) (by kernel_rfl) (fun _ _ _ h => h) (Or.inl ⟨by rfl, ?_⟩) ?_; rotate_left; (intro w; go_simp); (try with_reducible rfl); try simp only [Act.put, List.getElem_toArray, List.getElem_cons_zero, List.getElem_cons_succ, List.setIfInBounds_toArray, List.set_cons_zero, List.set_cons_succ])
    refine wpAny_ready (rs := [15]) (by kernel_rfl) (by simp) ?_
    refine AllReady.cons rfl (fun K hK => ?_) AllReady.nil
    go_simp
    go_wp2_with (go_at_call 16; refine (H4.out w5 B5.out).mono ?_; rintro e w6 ⟨o6, c6, rfl, k7⟩; have B6 := hide (B5.out.trans (k7.2.mono B5.out.size)); have O6 := hide (O5.out.below k7.2); have HTL := hide (H5.out w6 _ _ _ _ _ _ O6.out k7.1); clear k7)
    try (refine hK _ _ ?_; clear hK K)
    try simp only [Act.put, List.getElem_toArray, List.getElem_cons_zero, List.getElem_cons_succ, List.setIfInBounds_toArray, List.set_cons_zero, List.set_cons_succ]
    refine wpAny_ready (rs := [16]) (by kernel_rfl) (by simp) ?_
    refine AllReady.cons rfl (fun K hK => ?_) AllReady.nil
    go_simp
    go_wp2_with (go_at_call 11; refine HTL.out.mono ?_; rintro e w7 ⟨rfl, b7⟩; have B7 := hide (B6.out.trans (b7.mono B6.out.size)); clear b7)
    try (refine hK _ _ ?_; clear hK K)
    try simp only [Act.put, List.getElem_toArray, List.getElem_cons_zero, List.getElem_cons_succ, List.setIfInBounds_toArray, List.set_cons_zero, List.set_cons_succ]
    (refine wpAny_take (i := 17) (v := ?_) rfl (by kernel_rfl) (by kernel_rfl) (by kernel_rfl) (fun _ _ _ h => h) (Or.inl ⟨by rfl, ?_⟩) ?_; rotate_left; (intro w; go_simp); (try with_reducible rfl); try simp only [Act.put, List.getElem_toArray, List.getElem_cons_zero, List.getElem_cons_succ, List.setIfInBounds_toArray, List.set_cons_zero, List.set_cons_succ])
    (refine wpAny_take (i := 18) (v := ?_) rfl (by kernel_rfl) (by kernel_rfl) (by kernel_rfl) (fun _ _ _ h => h) (Or.inl ⟨by rfl, ?_⟩) ?_; rotate_left; (intro w; go_simp); (try with_reducible rfl); try simp only [Act.put, List.getElem_toArray, List.getElem_cons_zero, List.getElem_cons_succ, List.setIfInBounds_toArray, List.set_cons_zero, List.set_cons_succ])
    refine wpAny_done (by kernel_rfl) ?_ _
    go_wp2_with fail
    go_ret
    exact ⟨rfl, B7.out⟩
  · go_simp
    go_wp2_with (go_at_call 15; refine (H3.out w4 B4.out).mono ?_; rintro e w5 ⟨o5, c5, rfl, k5, k6⟩; have B5 := hide (B4.out.trans (k6.mono B4.out.size)); have O5 := hide (O4.out.below k6); have hc5 := conv_own k5; have hc6 := conv_own O5.out; rw [HS.out] at hc5 hc6; clear k5 k6)
    try (refine hK _ _ ?_; clear hK K)
    try simp only [Act.put, List.getElem_toArray, List.getElem_cons_zero, List.getElem_cons_succ, List.setIfInBounds_toArray, List.set_cons_zero, List.set_cons_succ]
    refine wpAny_ready (rs := [6, 9]) (by kernel_rfl) (by simp) ?_
    refine AllReady.cons rfl (fun K hK => ?_) (AllReady.cons rfl (fun K hK => ?_) AllReady.nil)
    · go_simp
      try (refine hK _ _ ?_; clear hK K)
      try simp only [Act.put, List.getElem_toArray, List.getElem_cons_zero, List.getElem_cons_succ, List.setIfInBounds_toArray, List.set_cons_zero, List.set_cons_succ]
      refine wpAny_ready (rs := [9]) (by kernel_rfl) (by simp) ?_
      refine AllReady.cons rfl (fun K hK => ?_) AllReady.nil
      go_simp
      try (refine hK _ _ ?_; clear hK K)
      try simp only [Act.put, List.getElem_toArray, List.getElem_cons_zero, List.getElem_cons_succ, List.setIfInBounds_toArray, List.set_cons_zero, List.set_cons_succ]
      (refine wpAny_take (i := 10) (v := ?_) rfl (by kernel_rfl) (by kernel_rfl) (by kernel_rfl) (fun _ _ _ h => h) (Or.inl ⟨by rfl, ?_⟩) ?_; rotate_left; (intro w; go_simp); (try with_reducible rfl); try simp only [Act.put, List.getElem_toArray, List.getElem_cons_zero, List.getElem_cons_succ, List.setIfInBounds_toArray, List.set_cons_zero, List.set_cons_succ])
      (refine wpAny_take (i := 11) (v := ?_) rfl (by kernel_rfl) (by kernel_rfl) (by kernel_rfl) (fun _ _ _ h => h) (Or.inl ⟨by rfl, ?_⟩) ?_; rotate_left; (intro w; go_simp); (try with_reducible rfl); try simp only [Act.put, List.getElem_toArray, List.getElem_cons_zero, List.getElem_cons_succ, List.setIfInBounds_toArray, List.set_cons_zero, List.set_cons_succ])
      (refine wpAny_take (i := 12) (v := ?_) rfl (by kernel_rfl) (by kernel_rfl) (by kernel_rfl) (fun _ _ _ h => h) (Or.inl ⟨by rfl, ?_⟩) ?_; rotate_left; (intro w; go_simp); (try with_reducible rfl); try simp only [Act.put, List.getElem_toArray, List.getElem_cons_zero, List.getElem_cons_succ, List.setIfInBounds_toArray, List.set_cons_zero, List.set_cons_succ])
      (refine wpAny_take (i := 13) (v := ?_) rfl (by kernel_rfl) (by kernel_rfl) (by kernel_rfl) (fun _ _ _ h => h) (Or.inl ⟨by rfl, ?_⟩) ?_; rotate_left; (intro w; go_simp); (try with_reducible rfl); try simp only [Act.put, List.getElem_toArray, List.getElem_cons_zero, List.getElem_cons_succ, List.setIfInBounds_toArray, List.set_cons_zero, List.set_cons_succ])
      (refine wpAny_take (i := 14) (v := ?_) rfl (by kernel_rfl) (by kernel_rfl) (by kernel_rfl) (fun _ _ _ h => h) (Or.inl ⟨by rfl, ?_⟩) ?_; rotate_left; (intro w; go_simp); (try with_reducible rfl); try simp only [Act.put, List.getElem_toArray, List.getElem_cons_zero, List.getElem_cons_succ, List.setIfInBounds_toArray, List.set_cons_zero, List.set_cons_succ])
      refine wpAny_ready (rs := [15]) (by kernel_rfl) (by simp) ?_
      refine AllReady.cons rfl (fun K hK => ?_) AllReady.nil
      go_simp
      go_wp2_with (go_at_call 16; refine (H4.out w5 B5.out).mono ?_; rintro e w6 ⟨o6, c6, rfl, k7⟩; have B6 := hide (B5.out.trans (k7.2.mono B5.out.size)); have O6 := hide (O5.out.below k7.2); have HTL := hide (H5.out w6 _ _ _ _ _ _ O6.out k7.1); clear k7)
      try (refine hK _ _ ?_; clear hK K)
      try simp only [Act.put, List.getElem_toArray, List.getElem_cons_zero, List.getElem_cons_succ, List.setIfInBounds_toArray, List.set_cons_zero, List.set_cons_succ]
      refine wpAny_ready (rs := [16]) (by kernel_rfl) (by simp) ?_
      refine AllReady.cons rfl (fun K hK => ?_) AllReady.nil
      go_simp
      go_wp2_with (go_at_call 11; refine HTL.out.mono ?_; rintro e w7 ⟨rfl, b7⟩; have B7 := hide (B6.out.trans (b7.mono B6.out.size)); clear b7)
      try (refine hK _ _ ?_; clear hK K)
      try simp only [Act.put, List.getElem_toArray, List.getElem_cons_zero, List.getElem_cons_succ, List.setIfInBounds_toArray, List.set_cons_zero, List.set_cons_succ]
      (refine wpAny_take (i := 17) (v := ?_) rfl (by kernel_rfl) (by kernel_rfl) (by kernel_rfl) (fun _ _ _ h => h) (Or.inl ⟨by rfl, ?_⟩) ?_; rotate_left; (intro w; go_simp); (try with_reducible rfl); try simp only [Act.put, List.getElem_toArray, List.getElem_cons_zero, List.getElem_cons_succ, List.setIfInBounds_toArray, List.set_cons_zero, List.set_cons_succ])
      (refine wpAny_take (i := 18) (v := ?_) rfl (by kernel_rfl) (by kernel_rfl) (by kernel_rfl) (fun _ _ _ h => h) (Or.inl ⟨by rfl, ?_⟩) ?_; rotate_left; (intro w; go_simp); (try with_reducible rfl); try simp only [Act.put, List.getElem_toArray, List.getElem_cons_zero, List.getElem_cons_succ, List.setIfInBounds_toArray, List.set_cons_zero, List.set_cons_succ])
      refine wpAny_done (by kernel_rfl) ?_ _
      go_wp2_with fail
      go_ret
      exact ⟨rfl, B7.out⟩
    · go_simp
      try (refine hK _ _ ?_; clear hK K)
      try simp only [Act.put, List.getElem_toArray, List.getElem_cons_zero, List.getElem_cons_succ, List.setIfInBounds_toArray, List.set_cons_zero, List.set_cons_succ]
      refine wpAny_ready (rs := [6]) (by kernel_rfl) (by simp) ?_
      refine AllReady.cons rfl (fun K hK => ?_) AllReady.nil
      go_simp
      try (refine hK _ _ ?_; clear hK K)
      try simp only [Act.put, List.getElem_toArray, List.getElem_cons_zero, List.getElem_cons_succ, List.setIfInBounds_toArray, List.set_cons_zero, List.set_cons_succ]
      (refine wpAny_take (i := 10) (v := ?_) rfl (by kernel_rfl) (by kernel_rfl) (by kernel_rfl) (fun _ _ _ h => h) (Or.inl ⟨by rfl, ?_⟩) ?_; rotate_left; (intro w; go_simp); (try with_reducible rfl); try simp only [Act.put, List.getElem_toArray, List.getElem_cons_zero, List.getElem_cons_succ, List.setIfInBounds_toArray, List.set_cons_zero, List.set_cons_succ])
      (refine wpAny_take (i := 11) (v := ?_) rfl (by kernel_rfl) (by kernel_rfl) (by kernel_rfl) (fun _ _ _ h => h) (Or.inl ⟨by rfl, ?_⟩) ?_; rotate_left; (intro w; go_simp); (try with_reducible rfl); try simp only [Act.put, List.getElem_toArray, List.getElem_cons_zero, List.getElem_cons_succ, List.setIfInBounds_toArray, List.set_cons_zero, List.set_cons_succ])
      (refine wpAny_take (i := 12) (v := ?_) rfl (by kernel_rfl) (by kernel_rfl) (by kernel_rfl) (fun _ _ _ h => h) (Or.inl ⟨by rfl, ?_⟩) ?_; rotate_left; (intro w; go_simp); (try with_reducible rfl); try simp only [Act.put, List.getElem_toArray, List.getElem_cons_zero, List.getElem_cons_succ, List.setIfInBounds_toArray, List.set_cons_zero, List.set_cons_succ])
      (refine wpAny_take (i := 13) (v := ?_) rfl (by kernel_rfl) (by kernel_rfl) (by kernel_rfl) (fun _ _ _ h => h) (Or.inl ⟨by rfl, ?_⟩) ?_; rotate_left; (intro w; go_simp); (try with_reducible rfl); try simp only [Act.put, List.getElem_toArray, List.getElem_cons_zero, List.getElem_cons_succ, List.setIfInBounds_toArray, List.set_cons_zero, List.set_cons_succ])
      (refine wpAny_take (i := 14) (v := ?_) rfl (by kernel_rfl) (by kernel_rfl) (by kernel_rfl) (fun _ _ _ h => h) (Or.inl ⟨by rfl, ?_⟩) ?_; rotate_left; (intro w; go_simp); (try with_reducible rfl); try simp only [Act.put, List.getElem_toArray, List.getElem_cons_zero, List.getElem_cons_succ, List.setIfInBounds_toArray, List.set_cons_zero, List.set_cons_succ])
      refine wpAny_ready (rs := [15]) (by kernel_rfl) (by simp) ?_
      refine AllReady.cons rfl (fun K hK => ?_) AllReady.nil
      go_simp
      go_wp2_with (go_at_call 16; refine (H4.out w5 B5.out).mono ?_; rintro e w6 ⟨o6, c6, rfl, k7⟩; have B6 := hide (B5.out.trans (k7.2.mono B5.out.size)); have O6 := hide (O5.out.below k7.2); have HTL := hide (H5.out w6 _ _ _ _ _ _ O6.out k7.1); clear k7)
      try (refine hK _ _ ?_; clear hK K)
      try simp only [Act.put, List.getElem_toArray, List.getElem_cons_zero, List.getElem_cons_succ, List.setIfInBounds_toArray, List.set_cons_zero, List.set_cons_succ]
      refine wpAny_ready (rs := [16]) (by kernel_rfl) (by simp) ?_
      refine AllReady.cons rfl (fun K hK => ?_) AllReady.nil
      go_simp
      go_wp2_with (go_at_call 11; refine HTL.out.mono ?_; rintro e w7 ⟨rfl, b7⟩; have B7 := hide (B6.out.trans (b7.mono B6.out.size)); clear b7)
      try (refine hK _ _ ?_; clear hK K)
      try simp only [Act.put, List.getElem_toArray, List.getElem_cons_zero, List.getElem_cons_succ, List.setIfInBounds_toArray, List.set_cons_zero, List.set_cons_succ]
      (refine wpAny_take (i := 17) (v := ?_) rfl (by kernel_rfl) (by kernel_rfl) (by kernel_rfl) (fun _ _ _ h => h) (Or.inl ⟨by rfl, ?_⟩) ?_; rotate_left; (intro w; go_simp); (try with_reducible rfl); try simp only [Act.put, List.getElem_toArray, List.getElem_cons_zero, List.getElem_cons_succ, List.setIfInBounds_toArray, List.set_cons_zero, List.set_cons_succ])
      (refine wpAny_take (i := 18) (v := ?_) rfl (by kernel_rfl) (by kernel_rfl) (by kernel_rfl) (fun _ _ _ h => h) (Or.inl ⟨by rfl, ?_⟩) ?_; rotate_left; (intro w; go_simp); (try with_reducible rfl); try simp only [Act.put, List.getElem_toArray, List.getElem_cons_zero, List.getElem_cons_succ, List.setIfInBounds_toArray, List.set_cons_zero, List.set_cons_succ])
      refine wpAny_done (by kernel_rfl) ?_ _
      go_wp2_with fail
      go_ret
      exact ⟨rfl, B7.out⟩

set_option maxRecDepth 100000 in
theorem lifted (os : Os) (started : os.Started) (H : Type) (enc : TypeId × Value → H) :
    ReturnsInHanded {} Tryz.checked os 4 .any (fun w args => (Rows.deflateFixedSpec.pre enc Tryz.prog Tryz.f4 Rows.deflateFixedRow.domain false w args ∧ laidMetH Tryz.prog Rows.deflateFixedRow.laid w) ∧ sizedMet enc Tryz.prog Tryz.f4 (OpenSpec.ofChange Rows.deflateFixedSpec) false w args)
      (Rows.deflateFixedSpec.post enc Tryz.prog Tryz.f4 false true false false) := by
  refine returnsInHanded_of_change_and (C := Tryz.checked) (X := fun w _ => laidMetH Tryz.prog Rows.deflateFixedRow.laid w) (fun _ _ _ hh h => h.of_heap hh) own started (by kernel_rfl) Tryz.func4
    (ChangeSpec.witness_shaped (enc := enc) (C := Tryz.checked) (os := os) (X := fun w _ => laidMetH Tryz.prog Rows.deflateFixedRow.laid w) false (World.laidAll Tryz.prog os Rows.deflateFixedRow.laid) #[.slice none 0 0] 8 (World.laidAll_os _ _ _)
      (World.shaped_of_ZipB (by kernel_rfl) (by kernel_rfl)) (by kernel_rfl) (by kernel_rfl) (by kernel_rfl) (wit_met os _)) ?_
  intro W base args ds gs before hval0 hW _ hsz0 hL _
  have hsz : (DataW.weightsEach Tryz.prog (Tryz.f4.params.toList ++ Rows.deflateFixedSpec.plain.varTypes Tryz.prog) (ds ++ gs)).all (· ≤ reachBytes) = true := hsz0
  clear hsz0
  have hval : ∀ (j : Nat) t v, Tryz.f4.params[j]? = some t → args[j]? = some v → Value.okWide Tryz.prog W .any base t v := hval0
  have hW' := hW
  obtain ⟨p, q, hA0, hV, rfl, hfz, hnd⟩ := hW
  have hA : DataW.TrodAll enc Tryz.prog W 0 (fun _ => true) true Tryz.f4.params.toList args.toList ds p := hA0
  rw [Tryz.params4] at hA hval hsz
  obtain ⟨v0, vs0, d0, ds0, p0, q0, hargs, rfl, rfl, h0, r0⟩ := trodAll_cons hA
  obtain ⟨rfl, rfl, rfl⟩ := trodAll_nil r0
  obtain rfl : args = #[v0] := by cases args; simp_all
  obtain ⟨rfl, rfl⟩ := trodVars_none hV
  obtain ⟨a0, len0, cap0, rfl⟩ := okWide_slice Tryz.underlying27 (hval 0 27 v0 rfl rfl)
  have k0 := h0
  have lt0 : ∀ x ∈ p0, x.block < W.heap.size := by obtain ⟨m, hm⟩ := k0; exact DataW.trod_lt m _ _ _ hm
  obtain ⟨x0, rfl, t0⟩ := M.open_toks h0
  have tb0 : ∀ b off, a0 = some ⟨b, off, none⟩ → b < W.heap.size := fun b off e => by subst e; exact tok_block (hval 0 27 _ rfl rfl)
  clear hA0 hval0
  refine (walk a0 cap0 x0 W t0 tb0 (tab_of_laid hL)).mono fun e W' ⟨he, bel⟩ => ?_
  subst he
  exact ⟨_, rfl, _, _, _, [], _, [], hW', trodAll_mk1 (shut_bool Tryz.underlying4 _), (trodAll_cons_mk (Below.trod laidOut (by kernel_rfl) (of_decide_eq_true (by kernel_rfl)) k0 bel lt0) trodAll_mk0), rfl, bel.frame _, fun h => by cases h⟩

theorem over : Rows.DeflateFixedSaid :=
  OpenClaim.holds_of_wide 4 Tryz.f4 rfl rfl rfl rfl rfl rfl rfl ⟨rfl, rfl, rfl, rfl, rfl⟩ rfl rfl rfl rfl rfl (by kernel_rfl) Tryz.func4 (by kernel_rfl)
    (of_decide_eq_true (by kernel_rfl)) (by unfold Func.isWrapper; first | (rw [if_pos (by decide +kernel)]; kernel_rfl) | (rw [if_neg (by decide +kernel)]; exact ⟨rfl, rfl⟩))
    (fun os started H enc _ => lifted os started H enc)
end Go.Proofs.YtlakgbckopjelaaGreatDoor.deflateFixed
namespace Go.Proofs.YtlakgbckopjelaaGreatDoor
theorem deflateFixed_holds : Rows.DeflateFixedCardSaid :=
  Claim7.holds_tied_plain_at .later [] [.data] true Rows.deflateFixedCard.stood.harness false
    deflateFixed.over (fun _ h => by cases h) (by kernel_rfl) (fun _ h => by cases h) deflateFixed_row_tie rfl ⟨rfl, rfl⟩ (by kernel_rfl) rfl
    (fun f fn hf hfn => by
      obtain rfl : f = 4 := Option.some.inj ((show Tryz.prog.funcNamed Rows.deflateFixedRow.func = some 4 by kernel_rfl).symm.trans hf) |>.symm
      obtain rfl : fn = Tryz.f4 := (Option.some.inj (Tryz.func4.symm.trans hfn)).symm
      exact ⟨by kernel_rfl, fun j t ht => by
        rw [Tryz.params4] at ht
        have hm : t ∈ [27] := by simpa using Array.mem_of_getElem? ht
        have hall : ([27].all fun u => !Tryz.prog.wantsStandIn u) = true := by kernel_rfl
        exact (show Tryz.prog.wantsStandIn t = false by simpa using List.all_eq_true.1 hall t hm)⟩)
    (by kernel_rfl)
#print axioms deflateFixed_holds
end Go.Proofs.YtlakgbckopjelaaGreatDoor
