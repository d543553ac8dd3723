/-
  PROVED: 'wainloadlaw06.InflateCuts' answers true: of a stream that is read without its last bytes the end is missed; for all bytes and all numbers. The card: the order of lengths is what the program's text lays.
-/
import Derived.Test.YtibolmgijaploaaDoorPLaid
namespace Go.Proofs.YtibolmgijaploaaDoor.inflateCuts
set_option maxRecDepth 100000
open Go.ChangeShapes Go.WideShapes Go.ChangeAt Go.RowKit
set_option linter.unusedVariables false

theorem bin_cut {W : World} {a : Option Addr} {len cap : Nat} {zs : List Int} (h : BIn W a len cap zs) (k : Nat) (hk : k ≤ len) : BIn W a k cap (zs.take k) := by
  obtain ⟨⟨h1, h2, h3⟩, h4, h5⟩ := h
  refine ⟨⟨by simp; omega, fun i => ?_, ?_⟩, by omega, fun e => by have := h5 e; omega⟩
  · by_cases hi : i < k
    · have := h2 i
      simpa [List.getD, List.getElem?_take_of_lt hi] using this
    · simp [List.getD, List.getElem?_eq_none (show (zs.take k).length ≤ i by simp; omega)]
  · rcases h3 with h3 | ⟨b, off, hb, ha, hc⟩
    · exact .inl (by omega)
    · refine .inr ⟨b, off, hb, ha, fun i hi => ?_⟩
      rw [hc i (by omega)]
      simp [List.getD, List.getElem?_take_of_lt hi]
set_option maxHeartbeats 1000000 in
theorem walk (a : Option Addr) (len cap : Nat) (zs : List Int) (most cut : Int) (w : World) (h : BIn w a len cap zs) (hT : Tab w) (hl : len ≤ 140737488351232) :
    Calls Tryd.prog 7 #[.slice a len cap, .int .i64 most, .int .i64 cut] w fun e w' => e = .returned (.bool true) ∧ Below w.heap.size w w' := by
  have HT := hide hT
  by_cases hm : 1048576 < most
  · have HA := hide (alive_c w hT)
    clear h hT
    go_enter Tryd.func7, Tryd.ntmps7
    go_wp2_with (go_at_call 9; refine HA.out.mono ?_; rintro x w9 ⟨rfl, b9⟩; have B9 := hide b9; clear b9)
    go_ret
    exact ⟨rfl, B9.out⟩
  · have hI := inf_in h hT hl most (by omega)
    have hrd := iAns_read zs most.toNat
    have hct := fun k => iAns_cut zs most.toNat k
    rw [h.1.1] at hrd
    generalize iAns zs most.toNat = r1 at hI hrd hct
    obtain ⟨out, n, e⟩ := r1
    simp only at hrd hct
    have HI := hide hI
    have HB := hide h
    clear hI h hT
    have bad : (¬ e = 0 ∨ cut < 0 ∨ (n : Int) ≤ cut) ∨ (e = 0 ∧ 0 ≤ cut ∧ cut < n) := by omega
    rcases bad with bad | ⟨rfl, h1, h2⟩
    · clear hct HB
      by_cases g1 : e = 0
      case' neg => clear bad
      case' pos =>
        subst g1
        by_cases g2 : cut < 0
        case' pos => clear bad
        case' neg => have g3 : (n : Int) ≤ cut := (by omega); clear bad
      all_goals
        go_enter Tryd.func7, Tryd.ntmps7
        go_wp2_with (first
          | (go_at_call 10; refine HI.out.mono ?_; rintro x w1 ⟨o1, c1, rfl, ow1, b1⟩; have B1 := hide b1; clear ow1 b1 HI)
          | (go_at_call 9; refine (alive_c w1 (HT.out.on B1.out)).mono ?_; rintro x w9 ⟨rfl, b9⟩; have B9 := hide (B1.out.trans (b9.mono B1.out.size)); clear b9))
        go_ret
        exact ⟨rfl, B9.out⟩
    · obtain ⟨k, rfl⟩ := Int.eq_ofNat_of_zero_le h1
      have hk := hct k (by omega)
      have hJ := fun w1 (b : Below w.heap.size w w1) => inf_in (bin_cut (HB.out.stay b) k (by omega)) (HT.out.on b) (by omega) most (by omega)
      generalize iAns (zs.take k) most.toNat = r2 at hJ hk
      obtain ⟨out2, n2, e2⟩ := r2
      simp only at hk
      subst hk
      have HJ := fun w1 b => hide (hJ w1 b)
      have hkc : (k : Int) ≤ (cap : Int) := by have := HB.out.2.1; omega
      clear hJ hct
      go_enter Tryd.func7, Tryd.ntmps7
      go_wp2_with (first
        | (go_at_call 10; refine HI.out.mono ?_; rintro x w1 ⟨o1, c1, rfl, ow1, b1⟩; have B1 := hide b1; clear ow1 b1 HI)
        | (go_at_call 10; refine (HJ w1 B1.out).out.mono ?_; rintro x w2 ⟨o2, c2, rfl, ow2, b2⟩; have B2 := hide (B1.out.trans (b2.mono B1.out.size)); clear ow2 b2 HJ)
        | (go_at_call 9; refine (alive_c w2 (HT.out.on B2.out)).mono ?_; rintro x w9 ⟨rfl, b9⟩; have B9 := hide (B2.out.trans (b9.mono B2.out.size)); clear b9))
      go_ret
      exact ⟨rfl, B9.out⟩

set_option maxRecDepth 100000 in
theorem lifted (os : Os) (started : os.Started) (H : Type) (enc : TypeId × Value → H) :
    ReturnsInHanded {} Tryd.checked os 7 .any (fun w args => (Rows.inflateCutsSpec.pre enc Tryd.prog Tryd.f7 Rows.inflateCutsRow.domain false w args ∧ laidMetH Tryd.prog Rows.inflateCutsRow.laid w) ∧ sizedMet enc Tryd.prog Tryd.f7 (OpenSpec.ofChange Rows.inflateCutsSpec) false w args)
      (Rows.inflateCutsSpec.post enc Tryd.prog Tryd.f7 false true false false) := by
  refine returnsInHanded_of_change_and (C := Tryd.checked) (X := fun w _ => laidMetH Tryd.prog Rows.inflateCutsRow.laid w) (fun _ _ _ hh h => h.of_heap hh) own started (by kernel_rfl) Tryd.func7
    (ChangeSpec.witness_shaped (enc := enc) (C := Tryd.checked) (os := os) (X := fun w _ => laidMetH Tryd.prog Rows.inflateCutsRow.laid w) false (World.laidAll Tryd.prog os Rows.inflateCutsRow.laid) #[.slice none 0 0, .int .i64 0, .int .i64 0] 8 (World.laidAll_os _ _ _)
      (World.shaped_of_ZipB (by kernel_rfl) (by kernel_rfl)) (by kernel_rfl) (by kernel_rfl) (by kernel_rfl) (wit_met os _)) ?_
  intro W base args ds gs before hval0 hW _ hsz0 hL _
  have hsz : (DataW.weightsEach Tryd.prog (Tryd.f7.params.toList ++ Rows.inflateCutsSpec.plain.varTypes Tryd.prog) (ds ++ gs)).all (· ≤ reachBytes) = true := hsz0
  clear hsz0
  have hval : ∀ (j : Nat) t v, Tryd.f7.params[j]? = some t → args[j]? = some v → Value.okWide Tryd.prog W .any base t v := hval0
  have hW' := hW
  obtain ⟨p, q, hA0, hV, rfl, hfz, hnd⟩ := hW
  have hA : DataW.TrodAll enc Tryd.prog W 0 (fun _ => true) true Tryd.f7.params.toList args.toList ds p := hA0
  rw [Tryd.params7] at hA hval hsz
  obtain ⟨v0, vs0, d0, ds0, p0, q0, hargs, rfl, rfl, h0, r0⟩ := trodAll_cons hA
  obtain ⟨v1, vs1, d1, ds1, p1, q1, rfl, rfl, rfl, h1, r1⟩ := trodAll_cons r0
  obtain ⟨v2, vs2, d2, ds2, p2, q2, rfl, rfl, rfl, h2, r2⟩ := trodAll_cons r1
  obtain ⟨rfl, rfl, rfl⟩ := trodAll_nil r2
  obtain rfl : args = #[v0, v1, v2] := by cases args; simp_all
  obtain ⟨rfl, rfl⟩ := trodVars_none hV
  obtain ⟨a0, len0, cap0, rfl⟩ := okWide_slice Tryd.underlying22 (hval 0 22 v0 rfl rfl)
  have k0 := h0
  have lt0 : ∀ x ∈ p0, x.block < W.heap.size := by obtain ⟨m, hm⟩ := k0; exact DataW.trod_lt m _ _ _ hm
  obtain ⟨x0, t0, hl0⟩ := open_bytes (j := 0) hsz rfl rfl h0
  obtain ⟨x1, rfl, rfl, rfl, wf1⟩ := open_int Tryd.underlying3 (hval 1 3 v1 rfl rfl) h1
  have bd1 := bounds_i64 wf1
  obtain ⟨x2, rfl, rfl, rfl, wf2⟩ := open_int Tryd.underlying3 (hval 2 3 v2 rfl rfl) h2
  have bd2 := bounds_i64 wf2
  clear hA0 hval0
  refine (walk a0 len0 cap0 x0 x1 x2 W t0 (tab_of_laid hL) hl0).mono fun e W' ⟨he, bel⟩ => ?_
  subst he
  exact ⟨_, rfl, _, _, _, [], _, [], hW', trodAll_mk1 (shut_bool Tryd.underlying4 _), (trodAll_cons_mk (Below.trod laidOut (by kernel_rfl) (of_decide_eq_true (by kernel_rfl)) k0 bel lt0) (trodAll_cons_mk (shut_int Tryd.underlying3 wf1) (trodAll_cons_mk (shut_int Tryd.underlying3 wf2) trodAll_mk0))), rfl, bel.frame _, fun h => by cases h⟩

theorem over : Rows.InflateCutsSaid :=
  OpenClaim.holds_of_wide 7 Tryd.f7 rfl rfl rfl rfl rfl rfl rfl ⟨rfl, rfl, rfl, rfl, rfl⟩ rfl rfl rfl rfl rfl (by kernel_rfl) Tryd.func7 (by kernel_rfl)
    (of_decide_eq_true (by kernel_rfl)) (by unfold Func.isWrapper; first | (rw [if_pos (by decide +kernel)]; kernel_rfl) | (rw [if_neg (by decide +kernel)]; exact ⟨rfl, rfl⟩))
    (fun os started H enc _ => lifted os started H enc)
end Go.Proofs.YtibolmgijaploaaDoor.inflateCuts
namespace Go.Proofs.YtibolmgijaploaaDoor
theorem inflateCuts_holds : Rows.InflateCutsCardSaid :=
  Claim7.holds_tied_plain_at .later [] [.data] true Rows.inflateCutsCard.stood.harness false
    inflateCuts.over (fun _ h => by cases h) (by kernel_rfl) (fun _ h => by cases h) inflateCuts_row_tie rfl ⟨rfl, rfl⟩ (by kernel_rfl) rfl
    (fun f fn hf hfn => by
      obtain rfl : f = 7 := Option.some.inj ((show Tryd.prog.funcNamed Rows.inflateCutsRow.func = some 7 by kernel_rfl).symm.trans hf) |>.symm
      obtain rfl : fn = Tryd.f7 := (Option.some.inj (Tryd.func7.symm.trans hfn)).symm
      exact ⟨by kernel_rfl, fun j t ht => by
        rw [Tryd.params7] at ht
        have hm : t ∈ [22, 3, 3] := by simpa using Array.mem_of_getElem? ht
        have hall : ([22, 3, 3].all fun u => !Tryd.prog.wantsStandIn u) = true := by kernel_rfl
        exact (show Tryd.prog.wantsStandIn t = false by simpa using List.all_eq_true.1 hall t hm)⟩)
    (by kernel_rfl)
#print axioms inflateCuts_holds
end Go.Proofs.YtibolmgijaploaaDoor
