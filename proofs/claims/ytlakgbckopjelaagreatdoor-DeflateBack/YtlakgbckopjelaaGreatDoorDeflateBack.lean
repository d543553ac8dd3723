/-
  PROVED: 'wainloadlaw08.DeflateBack' answers true: any bytes, at any level, make a stream that is read as they are, all of it; for all bytes and all numbers. The card: the order of lengths is what the program's text lays.
-/
import Derived.Test.YtlakgbckopjelaaGreatDoorG46DQSto
import Derived.SliceStrings
namespace Go.Proofs.YtlakgbckopjelaaGreatDoor.deflateBack
set_option maxRecDepth 100000
open Go.ChangeShapes Go.WideShapes Go.ChangeAt Go.RowKit
set_option linter.unusedVariables false

theorem walk (a : Option Addr) (len cap : Nat) (zs : List Int) (lv : Int) (w : World) (h : BIn w a len cap zs) (hT : Tab w) :
    Calls Tryz.prog 7 #[.slice a len cap, .int .i64 lv] w fun e w' => e = .returned (.bool true) ∧ Below w.heap.size w w' := by
  have HA := hide (alive_c w hT)
  by_cases hl : len ≤ 4000
  · have HD : Hid (∀ w1, Below w.heap.size w w1 → Calls Tryz.prog 23 #[.slice a len cap, .int .i64 lv] w1 fun e w' => ∃ g c n, e = .returned (.slice (some ⟨g, 0, none⟩) n c) ∧ Below w1.heap.size w1 w' ∧ Calls Tryz.prog 11 #[.slice (some ⟨g, 0, none⟩) n c, .slice a len cap] w' fun e w'' => e = .returned (.bool true) ∧ Below w'.heap.size w' w'') := fun w1 k => back_in (h.stay k) (hT.on k) hl lv
    have g1 : ¬ (4000 : Int) < (len : Int) := by omega
    clear h hT
    go_enter Tryz.func7, Tryz.ntmps7
    go_wp2_with (first
      | (go_at_call 8; refine HA.out.mono ?_; rintro x w1 ⟨rfl, b1⟩; have B1 := hide b1; have H1 := hide (HD.out w1 b1); clear b1 HA HD)
      | (go_at_call 23; refine H1.out.mono ?_; rintro x w2 ⟨g, c, n, rfl, b2, t2⟩; have B2 := hide (B1.out.trans (b2.mono B1.out.size)); have H2 := hide t2; clear b2 t2 H1)
      | (go_at_call 11; refine H2.out.mono ?_; rintro x w3 ⟨rfl, b3⟩; have B3 := hide (B2.out.trans (b3.mono B2.out.size)); clear b3 H2))
    go_ret
    exact ⟨rfl, B3.out⟩
  · have g1 : (4000 : Int) < (len : Int) := by omega
    clear h hT
    go_enter Tryz.func7, Tryz.ntmps7
    go_wp2_with (go_at_call 8; refine HA.out.mono ?_; rintro x w9 ⟨rfl, b9⟩; have B9 := hide b9; clear b9)
    go_ret
    exact ⟨rfl, B9.out⟩

set_option maxRecDepth 100000 in
theorem lifted (os : Os) (started : os.Started) (H : Type) (enc : TypeId × Value → H) :
    ReturnsInHanded {} Tryz.checked os 7 .any (fun w args => (Rows.deflateBackSpec.pre enc Tryz.prog Tryz.f7 Rows.deflateBackRow.domain false w args ∧ laidMetH Tryz.prog Rows.deflateBackRow.laid w) ∧ sizedMet enc Tryz.prog Tryz.f7 (OpenSpec.ofChange Rows.deflateBackSpec) false w args)
      (Rows.deflateBackSpec.post enc Tryz.prog Tryz.f7 false true false false) := by
  refine returnsInHanded_of_change_and (C := Tryz.checked) (X := fun w _ => laidMetH Tryz.prog Rows.deflateBackRow.laid w) (fun _ _ _ hh h => h.of_heap hh) own started (by kernel_rfl) Tryz.func7
    (ChangeSpec.witness_shaped (enc := enc) (C := Tryz.checked) (os := os) (X := fun w _ => laidMetH Tryz.prog Rows.deflateBackRow.laid w) false (World.laidAll Tryz.prog os Rows.deflateBackRow.laid) #[.slice none 0 0, .int .i64 0] 8 (World.laidAll_os _ _ _)
      (World.shaped_of_ZipB (by kernel_rfl) (by kernel_rfl)) (by kernel_rfl) (by kernel_rfl) (by kernel_rfl) (wit_met os _)) ?_
  intro W base args ds gs before hval0 hW _ hsz0 hL _
  have hsz : (DataW.weightsEach Tryz.prog (Tryz.f7.params.toList ++ Rows.deflateBackSpec.plain.varTypes Tryz.prog) (ds ++ gs)).all (· ≤ reachBytes) = true := hsz0
  clear hsz0
  have hval : ∀ (j : Nat) t v, Tryz.f7.params[j]? = some t → args[j]? = some v → Value.okWide Tryz.prog W .any base t v := hval0
  have hW' := hW
  obtain ⟨p, q, hA0, hV, rfl, hfz, hnd⟩ := hW
  have hA : DataW.TrodAll enc Tryz.prog W 0 (fun _ => true) true Tryz.f7.params.toList args.toList ds p := hA0
  rw [Tryz.params7] at hA hval hsz
  obtain ⟨v0, vs0, d0, ds0, p0, q0, hargs, rfl, rfl, h0, r0⟩ := trodAll_cons hA
  obtain ⟨v1, vs1, d1, ds1, p1, q1, rfl, rfl, rfl, h1, r1⟩ := trodAll_cons r0
  obtain ⟨rfl, rfl, rfl⟩ := trodAll_nil r1
  obtain rfl : args = #[v0, v1] := by cases args; simp_all
  obtain ⟨rfl, rfl⟩ := trodVars_none hV
  obtain ⟨a0, len0, cap0, rfl⟩ := okWide_slice Tryz.underlying22 (hval 0 22 v0 rfl rfl)
  have k0 := h0
  have lt0 : ∀ x ∈ p0, x.block < W.heap.size := by obtain ⟨m, hm⟩ := k0; exact DataW.trod_lt m _ _ _ hm
  obtain ⟨x0, t0, hl0⟩ := open_bytes (j := 0) hsz rfl rfl h0
  obtain ⟨x1, rfl, rfl, rfl, wf1⟩ := open_int Tryz.underlying3 (hval 1 3 v1 rfl rfl) h1
  have bd1 := bounds_i64 wf1
  clear hA0 hval0
  refine (walk a0 len0 cap0 x0 x1 W t0 (tab_of_laid hL)).mono fun e W' ⟨he, bel⟩ => ?_
  subst he
  exact ⟨_, rfl, _, _, _, [], _, [], hW', trodAll_mk1 (shut_bool Tryz.underlying4 _), (trodAll_cons_mk (Below.trod laidOut (by kernel_rfl) (of_decide_eq_true (by kernel_rfl)) k0 bel lt0) (trodAll_cons_mk (shut_int Tryz.underlying3 wf1) trodAll_mk0)), rfl, bel.frame _, fun h => by cases h⟩

theorem over : Rows.DeflateBackSaid :=
  OpenClaim.holds_of_wide 7 Tryz.f7 rfl rfl rfl rfl rfl rfl rfl ⟨rfl, rfl, rfl, rfl, rfl⟩ rfl rfl rfl rfl rfl (by kernel_rfl) Tryz.func7 (by kernel_rfl)
    (of_decide_eq_true (by kernel_rfl)) (by unfold Func.isWrapper; first | (rw [if_pos (by decide +kernel)]; kernel_rfl) | (rw [if_neg (by decide +kernel)]; exact ⟨rfl, rfl⟩))
    (fun os started H enc _ => lifted os started H enc)
end Go.Proofs.YtlakgbckopjelaaGreatDoor.deflateBack
namespace Go.Proofs.YtlakgbckopjelaaGreatDoor
theorem deflateBack_holds : Rows.DeflateBackCardSaid :=
  Claim7.holds_tied_plain_at .later [] [.data] true Rows.deflateBackCard.stood.harness false
    deflateBack.over (fun _ h => by cases h) (by kernel_rfl) (fun _ h => by cases h) deflateBack_row_tie rfl ⟨rfl, rfl⟩ (by kernel_rfl) rfl
    (fun f fn hf hfn => by
      obtain rfl : f = 7 := Option.some.inj ((show Tryz.prog.funcNamed Rows.deflateBackRow.func = some 7 by kernel_rfl).symm.trans hf) |>.symm
      obtain rfl : fn = Tryz.f7 := (Option.some.inj (Tryz.func7.symm.trans hfn)).symm
      exact ⟨by kernel_rfl, fun j t ht => by
        rw [Tryz.params7] at ht
        have hm : t ∈ [22, 3] := by simpa using Array.mem_of_getElem? ht
        have hall : ([22, 3].all fun u => !Tryz.prog.wantsStandIn u) = true := by kernel_rfl
        exact (show Tryz.prog.wantsStandIn t = false by simpa using List.all_eq_true.1 hall t hm)⟩)
    (by kernel_rfl)
#print axioms deflateBack_holds
end Go.Proofs.YtlakgbckopjelaaGreatDoor
