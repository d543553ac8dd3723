/-
  PROVED: 'wainloadlaw06.InflateReads' answers true: any bytes are read as the document says: what they are, how many were read, or what is amiss first; for all bytes and all numbers. The card: the order of lengths is what the program's text lays.
-/
import Derived.Test.YtibolmgijaploaaDoorG24RState
import Derived.Test.YtibolmgijaploaaDoorRInf
import Derived.SliceStrings
namespace Go.Proofs.YtibolmgijaploaaDoor.inflateReads
set_option maxRecDepth 100000
open Go.ChangeShapes Go.WideShapes Go.ChangeAt Go.RowKit
set_option linter.unusedVariables false

theorem walk (a : Option Addr) (len cap : Nat) (zs : List Int) (most : Int) (w : World) (h : BIn w a len cap zs) (hT : Tab w) (hl : len ≤ 140737488351232) :
    Calls Tryd.prog 3 #[.slice a len cap, .int .i64 most] w fun e w' => e = .returned (.bool true) ∧ Below w.heap.size w w' := by
  have HT := hide hT
  have HA := hide (alive_c w hT)
  have bad : (4000 < len ∨ 100000 < most) ∨ (len ≤ 4000 ∧ most ≤ 100000) := by omega
  rcases bad with bad | ⟨h1, h2⟩
  · clear h hT
    by_cases g1 : 4000 < len
    case' pos => have g2 : (4000 : Int) < (len : Int) := by omega
    case' neg =>
      have g2 : ¬ (4000 : Int) < (len : Int) := by omega
      have g3 : 100000 < most := by omega
    all_goals
      clear bad
      go_enter Tryd.func3, Tryd.ntmps3
      go_wp2_with (go_at_call 9; refine HA.out.mono ?_; rintro x w9 ⟨rfl, b9⟩; have B9 := hide b9; clear b9)
      go_ret
      exact ⟨rfl, B9.out⟩
  · have hI := inf_in h hT hl most (by omega)
    have hzl : zs.length = len := h.1.1
    have hJ : ∀ w1, Below w.heap.size w w1 → Calls Tryd.prog 11 #[.slice a len cap, .int .i64 most] w1 (InfOk w1 (iAns zs most.toNat)) := fun w1 k => by
      have := rinf_c a cap zs most w1 (by rw [hzl]; exact (h.stay k).1) (by omega) (by omega)
      rw [hzl] at this
      exact this
    generalize iAns zs most.toNat = r1 at hI hJ
    obtain ⟨out, n, e⟩ := r1
    have HI := hide hI
    have HJ := fun w1 k => hide (hJ w1 k)
    have g1 : ¬ (4000 : Int) < (len : Int) := by omega
    have g2 : ¬ 100000 < most := by omega
    clear hI hJ h hT HA hzl
    go_enter Tryd.func3, Tryd.ntmps3
    go_wp2_with (first
      | (go_at_call 10; refine HI.out.mono ?_; rintro x w1 ⟨o1, c1, rfl, ow1, b1⟩; have O1 := hide ow1; have B1 := hide b1; clear ow1 b1 HI)
      | (go_at_call 11; refine (HJ w1 B1.out).out.mono ?_; rintro x w2 ⟨o2, c2, rfl, ow2, b2⟩; have O2 := hide ow2; have O1' := hide (O1.out.below b2); have B2 := hide (B1.out.trans (b2.mono B1.out.size)); clear ow2 b2 HJ)
      | (go_at_call 9; refine (alive_c w2 (HT.out.on B2.out)).mono ?_; rintro x w9 ⟨rfl, b9⟩; have hc1 := conv_own (O1'.out.below b9); have hc2 := conv_own (O2.out.below b9); have B9 := hide (B2.out.trans (b9.mono B2.out.size)); clear b9))
    go_ret
    exact ⟨rfl, B9.out⟩

set_option maxRecDepth 100000 in
theorem lifted (os : Os) (started : os.Started) (H : Type) (enc : TypeId × Value → H) :
    ReturnsInHanded {} Tryd.checked os 3 .any (fun w args => (Rows.inflateReadsSpec.pre enc Tryd.prog Tryd.f3 Rows.inflateReadsRow.domain false w args ∧ laidMetH Tryd.prog Rows.inflateReadsRow.laid w) ∧ sizedMet enc Tryd.prog Tryd.f3 (OpenSpec.ofChange Rows.inflateReadsSpec) false w args)
      (Rows.inflateReadsSpec.post enc Tryd.prog Tryd.f3 false true false false) := by
  refine returnsInHanded_of_change_and (C := Tryd.checked) (X := fun w _ => laidMetH Tryd.prog Rows.inflateReadsRow.laid w) (fun _ _ _ hh h => h.of_heap hh) own started (by kernel_rfl) Tryd.func3
    (ChangeSpec.witness_shaped (enc := enc) (C := Tryd.checked) (os := os) (X := fun w _ => laidMetH Tryd.prog Rows.inflateReadsRow.laid w) false (World.laidAll Tryd.prog os Rows.inflateReadsRow.laid) #[.slice none 0 0, .int .i64 0] 8 (World.laidAll_os _ _ _)
      (World.shaped_of_ZipB (by kernel_rfl) (by kernel_rfl)) (by kernel_rfl) (by kernel_rfl) (by kernel_rfl) (wit_met os _)) ?_
  intro W base args ds gs before hval0 hW _ hsz0 hL _
  have hsz : (DataW.weightsEach Tryd.prog (Tryd.f3.params.toList ++ Rows.inflateReadsSpec.plain.varTypes Tryd.prog) (ds ++ gs)).all (· ≤ reachBytes) = true := hsz0
  clear hsz0
  have hval : ∀ (j : Nat) t v, Tryd.f3.params[j]? = some t → args[j]? = some v → Value.okWide Tryd.prog W .any base t v := hval0
  have hW' := hW
  obtain ⟨p, q, hA0, hV, rfl, hfz, hnd⟩ := hW
  have hA : DataW.TrodAll enc Tryd.prog W 0 (fun _ => true) true Tryd.f3.params.toList args.toList ds p := hA0
  rw [Tryd.params3] at hA hval hsz
  obtain ⟨v0, vs0, d0, ds0, p0, q0, hargs, rfl, rfl, h0, r0⟩ := trodAll_cons hA
  obtain ⟨v1, vs1, d1, ds1, p1, q1, rfl, rfl, rfl, h1, r1⟩ := trodAll_cons r0
  obtain ⟨rfl, rfl, rfl⟩ := trodAll_nil r1
  obtain rfl : args = #[v0, v1] := by cases args; simp_all
  obtain ⟨rfl, rfl⟩ := trodVars_none hV
  obtain ⟨a0, len0, cap0, rfl⟩ := okWide_slice Tryd.underlying22 (hval 0 22 v0 rfl rfl)
  have k0 := h0
  have lt0 : ∀ x ∈ p0, x.block < W.heap.size := by obtain ⟨m, hm⟩ := k0; exact DataW.trod_lt m _ _ _ hm
  obtain ⟨x0, t0, hl0⟩ := open_bytes (j := 0) hsz rfl rfl h0
  obtain ⟨x1, rfl, rfl, rfl, wf1⟩ := open_int Tryd.underlying3 (hval 1 3 v1 rfl rfl) h1
  have bd1 := bounds_i64 wf1
  clear hA0 hval0
  refine (walk a0 len0 cap0 x0 x1 W t0 (tab_of_laid hL) hl0).mono fun e W' ⟨he, bel⟩ => ?_
  subst he
  exact ⟨_, rfl, _, _, _, [], _, [], hW', trodAll_mk1 (shut_bool Tryd.underlying4 _), (trodAll_cons_mk (Below.trod laidOut (by kernel_rfl) (of_decide_eq_true (by kernel_rfl)) k0 bel lt0) (trodAll_cons_mk (shut_int Tryd.underlying3 wf1) trodAll_mk0)), rfl, bel.frame _, fun h => by cases h⟩

theorem over : Rows.InflateReadsSaid :=
  OpenClaim.holds_of_wide 3 Tryd.f3 rfl rfl rfl rfl rfl rfl rfl ⟨rfl, rfl, rfl, rfl, rfl⟩ rfl rfl rfl rfl rfl (by kernel_rfl) Tryd.func3 (by kernel_rfl)
    (of_decide_eq_true (by kernel_rfl)) (by unfold Func.isWrapper; first | (rw [if_pos (by decide +kernel)]; kernel_rfl) | (rw [if_neg (by decide +kernel)]; exact ⟨rfl, rfl⟩))
    (fun os started H enc _ => lifted os started H enc)
end Go.Proofs.YtibolmgijaploaaDoor.inflateReads
namespace Go.Proofs.YtibolmgijaploaaDoor
theorem inflateReads_holds : Rows.InflateReadsCardSaid :=
  Claim7.holds_tied_plain_at .later [] [.data] true Rows.inflateReadsCard.stood.harness false
    inflateReads.over (fun _ h => by cases h) (by kernel_rfl) (fun _ h => by cases h) inflateReads_row_tie rfl ⟨rfl, rfl⟩ (by kernel_rfl) rfl
    (fun f fn hf hfn => by
      obtain rfl : f = 3 := Option.some.inj ((show Tryd.prog.funcNamed Rows.inflateReadsRow.func = some 3 by kernel_rfl).symm.trans hf) |>.symm
      obtain rfl : fn = Tryd.f3 := (Option.some.inj (Tryd.func3.symm.trans hfn)).symm
      exact ⟨by kernel_rfl, fun j t ht => by
        rw [Tryd.params3] at ht
        have hm : t ∈ [22, 3] := by simpa using Array.mem_of_getElem? ht
        have hall : ([22, 3].all fun u => !Tryd.prog.wantsStandIn u) = true := by kernel_rfl
        exact (show Tryd.prog.wantsStandIn t = false by simpa using List.all_eq_true.1 hall t hm)⟩)
    (by kernel_rfl)
#print axioms inflateReads_holds
end Go.Proofs.YtibolmgijaploaaDoor
