/-
  PROVED: 'wainloadlaw08.DeflateDynamic' answers true: tokens that may be make a dynamic block that is read as what they tell; others are refused; for all tokens. The card: the order of lengths is what the program's text lays.
-/
import Derived.Test.YtlakgbckopjelaaGreatDoorDFewT
import Derived.Test.YtlakgbckopjelaaGreatDoorDOpen
import Derived.SliceStrings
namespace Go.Proofs.YtlakgbckopjelaaGreatDoor.deflateDynamic
set_option maxRecDepth 100000
open Go.ChangeShapes Go.WideShapes Go.ChangeAt Go.RowKit
set_option linter.unusedVariables false

set_option maxHeartbeats 4000000 in
theorem walk (a : Option Addr) (ct : Nat) (ts : List M.Tk) (w : World) (h : M.TIn w a ct ts) (hb : ∀ b off, a = some ⟨b, off, none⟩ → b < w.heap.size) (hT : Tab w) :
    Calls Tryz.prog 5 #[.slice a ts.length ct] w fun e w' => e = .returned (.bool true) ∧ Below w.heap.size w w' := by
  have HA : Hid (∀ W, Below w.heap.size w W → Calls Tryz.prog 8 #[] W fun e w' => e = .returned (.bool true) ∧ Below W.heap.size W w') := fun W hW => alive_c W (hT.on hW)
  have H0 := hide (few_c a ct ts w h.toks)
  by_cases hf : fewB ts = true
  case neg =>
    rw [show fewB ts = false by simpa using hf] at H0
    clear h hT hb hf
    go_enter Tryz.func5, Tryz.ntmps5
    go_wp2_with (first
      | (go_at_call 12; refine H0.out.mono ?_; rintro e w1 ⟨rfl, b1⟩; have B1 := hide b1; clear b1 H0)
      | (go_at_call 8; refine (HA.out _ B1.out).mono ?_; rintro x w9 ⟨rfl, b9⟩; have B9 := hide (B1.out.trans (b9.mono B1.out.size)); clear b9))
    go_ret
    exact ⟨rfl, B9.out⟩
  rw [hf] at H0
  have hlen := fewB_len hf
  by_cases hr : M.Rt ts
  case neg =>
    have H1 : Hid (∀ W, Below w.heap.size w W → Calls Tryz.prog 17 #[.slice a ts.length ct] W fun e w' => e = .returned (.tuple #[.slice none 0 0, .bool false]) ∧ Below W.heap.size W w') := fun W hW => dynamic_no W a ct ts (h.toks.stay hW) (by omega) hr
    have H2 : Hid (∀ W, Below w.heap.size w W → Calls Tryz.prog 14 #[.slice a ts.length ct] W fun e w' => e = .returned (.bool false) ∧ Below W.heap.size W w') := fun W hW => M.qright_no a ct ts W (h.toks.stay hW) (by omega) hr
    clear h hT hb hf hr
    go_enter Tryz.func5, Tryz.ntmps5
    go_wp2_with (first
      | (go_at_call 12; refine H0.out.mono ?_; rintro e w1 ⟨rfl, b1⟩; have B1 := hide b1; clear b1 H0)
      | (go_at_call 17; refine (H1.out _ B1.out).mono ?_; rintro x w2 ⟨rfl, b2⟩; have B2 := hide (B1.out.trans (b2.mono B1.out.size)); clear b2 H1)
      | (go_at_call 14; refine (H2.out _ B2.out).mono ?_; rintro x w3 ⟨rfl, b3⟩; have B3 := hide (B2.out.trans (b3.mono B2.out.size)); clear b3 H2)
      | (go_at_call 8; refine (HA.out _ B3.out).mono ?_; rintro x w9 ⟨rfl, b9⟩; have B9 := hide (B3.out.trans (b9.mono B3.out.size)); clear b9))
    go_ret
    exact ⟨rfl, B9.out⟩
  have H1 : Hid (∀ W, Below w.heap.size w W → Calls Tryz.prog 17 #[.slice a ts.length ct] W fun e w' => ∃ (g c : Nat) (X : List Int), e = .returned (.tuple #[.slice (some ⟨g, 0, none⟩) X.length c, .bool true]) ∧ OwnsB w' W.heap.size (.slice (some ⟨g, 0, none⟩) X.length c) X ∧ Below W.heap.size W w' ∧ DynX ts X) := fun W hW => (dynamic_yes W (hT.on hW) (hT.on hW).pos a ct ts ((TkIn.of h hb hr hlen).stay hW) hr).mono fun e w' ⟨S, D, H, g, c, h1, h2, h3, he, ho, hb'⟩ => ⟨g, c, _, he, ho, hb', S, D, H, h1, h2 rfl, h3, rfl⟩
  have H2 : Hid (∀ W, Below w.heap.size w W → Calls Tryz.prog 14 #[.slice a ts.length ct] W fun e w' => e = .returned (.bool true) ∧ Below W.heap.size W w') := fun W hW => M.qright_yes a ct ts W (h.toks.stay hW) (by omega) hr
  have H4 : Hid (∀ W, Below w.heap.size w W → Calls Tryz.prog 16 #[.slice a ts.length ct] W fun e w' => ∃ o oc, e = .returned (.slice o (M.tel ts).length oc) ∧ OwnsB w' W.heap.size (.slice o (M.tel ts).length oc) (M.tel ts) ∧ Below W.heap.size W w') := fun W hW => M.qtell_c a ct ts W (h.toks.stay hW) (by omega) hr
  have H3 : Hid (∀ (X : List Int) (W : World) g c base, DynX ts X → OwnsB W base (.slice (some ⟨g, 0, none⟩) X.length c) X → Calls Tryz.prog 18 #[.slice (some ⟨g, 0, none⟩) X.length c] W fun e w' => ∃ v1 v2, e = .returned (.tuple #[v1, v2, .bool true]) ∧ Below W.heap.size W w') := fun X W g c base ⟨S, D, H, k1, k2, k3, hX⟩ ho => by
    subst hX
    obtain ⟨f1, f2, q, f3⟩ := open_facts k1 k3
    exact (ropen_c (some ⟨g, 0, none⟩) c _ W (own_text ho (fun i => dataL_bytes _ (bin_bl k3) i)) (dyn_short k1 k3 hlen) 1 q S D f1 f2 f3).mono fun e w' ⟨a1, a2, c1, c2, he, _, _, hb'⟩ => ⟨_, _, he, hb'⟩
  have H5 : Hid (∀ (X : List Int) (W : World) g c base (o : Option Addr) oc base2, DynX ts X → OwnsB W base (.slice (some ⟨g, 0, none⟩) X.length c) X → OwnsB W base2 (.slice o (M.tel ts).length oc) (M.tel ts) → Calls Tryz.prog 11 #[.slice (some ⟨g, 0, none⟩) X.length c, .slice o (M.tel ts).length oc] W fun e w' => e = .returned (.bool true) ∧ Below W.heap.size W w') := fun X W g c base o oc base2 ⟨S, D, H, k1, k2, k3, hX⟩ h1 h2 => by
    subst hX
    exact tells_block k1 k3 hr h.bt hlen (dyn_short k1 k3 hlen) h1 h2
  generalize M.tel ts = Z at H4 H5
  clear h hT hb hf hr
  go_enter Tryz.func5, Tryz.ntmps5
  go_upto_region 6 with (first
    | (go_at_call 12; refine H0.out.mono ?_; rintro e w1 ⟨rfl, b1⟩; have B1 := hide b1; clear b1 H0)
    | (go_at_call 17; refine (H1.out _ B1.out).mono ?_; rintro x w2 ⟨g, c1, X, rfl, o2, b2, dx⟩; have B2 := hide (B1.out.trans (b2.mono B1.out.size)); have O2 := hide o2; have DX := hide dx; clear o2 b2 dx H1)
    | (go_at_call 14; refine (H2.out _ B2.out).mono ?_; rintro x w3 ⟨rfl, b3⟩; have B3 := hide (B2.out.trans (b3.mono B2.out.size)); have O3 := hide (O2.out.below b3); clear b3 H2 O2))
  go_wp2_with (first
    | (go_at_call 18; refine (H3.out _ _ _ _ _ DX.out O3.out).mono ?_; rintro x w4 ⟨v1, v2, rfl, b4⟩; have B4 := hide (B3.out.trans (b4.mono B3.out.size)); have O4 := hide (O3.out.below b4); clear b4 H3)
    | (go_at_call 8; refine (HA.out _ B4.out).mono ?_; rintro x w5 ⟨rfl, b5⟩; have B5 := hide (B4.out.trans (b5.mono B4.out.size)); have O5 := hide (O4.out.below b5); clear b5 HA)
    | (go_at_call 16; refine (H4.out _ B5.out).mono ?_; rintro e w6 ⟨o6, c6, rfl, k7⟩; have B6 := hide (B5.out.trans (k7.2.mono B5.out.size)); have O6 := hide (O5.out.below k7.2); have HTL := hide (H5.out _ w6 _ _ _ _ _ _ DX.out O6.out k7.1); clear k7 H4)
    | (go_at_call 11; refine HTL.out.mono ?_; rintro e w7 ⟨rfl, b7⟩; have B7 := hide (B6.out.trans (b7.mono B6.out.size)); clear b7 HTL))
  go_ret
  exact ⟨rfl, B7.out⟩

set_option maxRecDepth 100000 in
theorem lifted (os : Os) (started : os.Started) (H : Type) (enc : TypeId × Value → H) :
    ReturnsInHanded {} Tryz.checked os 5 .any (fun w args => (Rows.deflateDynamicSpec.pre enc Tryz.prog Tryz.f5 Rows.deflateDynamicRow.domain false w args ∧ laidMetH Tryz.prog Rows.deflateDynamicRow.laid w) ∧ sizedMet enc Tryz.prog Tryz.f5 (OpenSpec.ofChange Rows.deflateDynamicSpec) false w args)
      (Rows.deflateDynamicSpec.post enc Tryz.prog Tryz.f5 false true false false) := by
  refine returnsInHanded_of_change_and (C := Tryz.checked) (X := fun w _ => laidMetH Tryz.prog Rows.deflateDynamicRow.laid w) (fun _ _ _ hh h => h.of_heap hh) own started (by kernel_rfl) Tryz.func5
    (ChangeSpec.witness_shaped (enc := enc) (C := Tryz.checked) (os := os) (X := fun w _ => laidMetH Tryz.prog Rows.deflateDynamicRow.laid w) false (World.laidAll Tryz.prog os Rows.deflateDynamicRow.laid) #[.slice none 0 0] 8 (World.laidAll_os _ _ _)
      (World.shaped_of_ZipB (by kernel_rfl) (by kernel_rfl)) (by kernel_rfl) (by kernel_rfl) (by kernel_rfl) (wit_met os _)) ?_
  intro W base args ds gs before hval0 hW _ hsz0 hL _
  have hsz : (DataW.weightsEach Tryz.prog (Tryz.f5.params.toList ++ Rows.deflateDynamicSpec.plain.varTypes Tryz.prog) (ds ++ gs)).all (· ≤ reachBytes) = true := hsz0
  clear hsz0
  have hval : ∀ (j : Nat) t v, Tryz.f5.params[j]? = some t → args[j]? = some v → Value.okWide Tryz.prog W .any base t v := hval0
  have hW' := hW
  obtain ⟨p, q, hA0, hV, rfl, hfz, hnd⟩ := hW
  have hA : DataW.TrodAll enc Tryz.prog W 0 (fun _ => true) true Tryz.f5.params.toList args.toList ds p := hA0
  rw [Tryz.params5] at hA hval hsz
  obtain ⟨v0, vs0, d0, ds0, p0, q0, hargs, rfl, rfl, h0, r0⟩ := trodAll_cons hA
  obtain ⟨rfl, rfl, rfl⟩ := trodAll_nil r0
  obtain rfl : args = #[v0] := by cases args; simp_all
  obtain ⟨rfl, rfl⟩ := trodVars_none hV
  obtain ⟨a0, len0, cap0, rfl⟩ := okWide_slice Tryz.underlying27 (hval 0 27 v0 rfl rfl)
  have k0 := h0
  have lt0 : ∀ x ∈ p0, x.block < W.heap.size := by obtain ⟨m, hm⟩ := k0; exact DataW.trod_lt m _ _ _ hm
  obtain ⟨x0, rfl, t0⟩ := M.open_toks h0
  have tb0 : ∀ b off, a0 = some ⟨b, off, none⟩ → b < W.heap.size := fun b off e => by subst e; exact tok_block (hval 0 27 _ rfl rfl)
  clear hA0 hval0
  refine (walk a0 cap0 x0 W t0 tb0 (tab_of_laid hL)).mono fun e W' ⟨he, bel⟩ => ?_
  subst he
  exact ⟨_, rfl, _, _, _, [], _, [], hW', trodAll_mk1 (shut_bool Tryz.underlying4 _), (trodAll_cons_mk (Below.trod laidOut (by kernel_rfl) (of_decide_eq_true (by kernel_rfl)) k0 bel lt0) trodAll_mk0), rfl, bel.frame _, fun h => by cases h⟩

theorem over : Rows.DeflateDynamicSaid :=
  OpenClaim.holds_of_wide 5 Tryz.f5 rfl rfl rfl rfl rfl rfl rfl ⟨rfl, rfl, rfl, rfl, rfl⟩ rfl rfl rfl rfl rfl (by kernel_rfl) Tryz.func5 (by kernel_rfl)
    (of_decide_eq_true (by kernel_rfl)) (by unfold Func.isWrapper; first | (rw [if_pos (by decide +kernel)]; kernel_rfl) | (rw [if_neg (by decide +kernel)]; exact ⟨rfl, rfl⟩))
    (fun os started H enc _ => lifted os started H enc)
end Go.Proofs.YtlakgbckopjelaaGreatDoor.deflateDynamic
namespace Go.Proofs.YtlakgbckopjelaaGreatDoor
theorem deflateDynamic_holds : Rows.DeflateDynamicCardSaid :=
  Claim7.holds_tied_plain_at .later [] [.data] true Rows.deflateDynamicCard.stood.harness false
    deflateDynamic.over (fun _ h => by cases h) (by kernel_rfl) (fun _ h => by cases h) deflateDynamic_row_tie rfl ⟨rfl, rfl⟩ (by kernel_rfl) rfl
    (fun f fn hf hfn => by
      obtain rfl : f = 5 := Option.some.inj ((show Tryz.prog.funcNamed Rows.deflateDynamicRow.func = some 5 by kernel_rfl).symm.trans hf) |>.symm
      obtain rfl : fn = Tryz.f5 := (Option.some.inj (Tryz.func5.symm.trans hfn)).symm
      exact ⟨by kernel_rfl, fun j t ht => by
        rw [Tryz.params5] at ht
        have hm : t ∈ [27] := by simpa using Array.mem_of_getElem? ht
        have hall : ([27].all fun u => !Tryz.prog.wantsStandIn u) = true := by kernel_rfl
        exact (show Tryz.prog.wantsStandIn t = false by simpa using List.all_eq_true.1 hall t hm)⟩)
    (by kernel_rfl)
#print axioms deflateDynamic_holds
end Go.Proofs.YtlakgbckopjelaaGreatDoor
