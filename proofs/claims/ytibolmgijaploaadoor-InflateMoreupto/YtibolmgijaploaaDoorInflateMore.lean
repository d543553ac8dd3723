/-
  PROVED: 'wainloadlaw06.InflateMore' answers true: with more bytes behind it a stream is read as without; where the arguments are together of bulk at most 1048576 (the second form). The card: the order of lengths is what the program's text lays.
-/
import Derived.Test.YtibolmgijaploaaDoorPLaid
import Derived.Test.YtibolmgijaploaaDoorPApp
namespace Go.Proofs.YtibolmgijaploaaDoor.inflateMore
set_option maxRecDepth 100000
open Go.ChangeShapes Go.WideShapes Go.ChangeAt Go.RowKit
set_option linter.unusedVariables false

set_option maxHeartbeats 1000000 in
theorem walk (a a' : Option Addr) (len cap len' cap' : Nat) (zs ys : List Int) (most : Int) (w : World) (h : BIn w a len cap zs) (h' : BIn w a' len' cap' ys) (hT : Tab w) (hl : len ≤ 1048576) (hl' : len' ≤ 1048576) :
    Calls Tryd.prog 4 #[.slice a len cap, .slice a' len' cap', .int .i64 most] w fun e w' => e = .returned (.bool true) ∧ Below w.heap.size w w' := by
  have HT := hide hT
  by_cases hm : 1048576 < most
  · have HA := hide (alive_c w hT)
    clear h h' hT
    go_enter Tryd.func4, Tryd.ntmps4
    go_wp2_with (go_at_call 9; refine HA.out.mono ?_; rintro x w9 ⟨rfl, b9⟩; have B9 := hide b9; clear b9)
    go_ret
    exact ⟨rfl, B9.out⟩
  · have hI := inf_in h hT (by omega) most (by omega)
    have hms := iAns_more zs ys most.toNat
    have hzl := h.1.1
    have hyl := h'.1.1
    have HM := hide (mem_app (mem_app (L := []) (fun x hx => absurd hx (by simp)) h.1.mem) h'.1.mem)
    have HB := hide h
    have HB' := hide h'
    obtain ⟨F, hF⟩ : ∃ F, [] ++ zs ++ ys = F := ⟨_, rfl⟩
    have hFl : F.length ≤ 2097152 := by rw [← hF]; simp; omega
    rw [show zs ++ ys = F by rw [← hF]; rfl] at hms
    rw [hF] at HM
    have hJ := fun w1 a1 c1 (b : BIn w1 a1 F.length c1 F) (t : Tab w1) => inf_in b t (by omega) most (by omega)
    have HF := hide hF
    generalize iAns zs most.toNat = r1 at hI hms
    generalize iAns F most.toNat = r2 at hJ hms
    obtain ⟨out, n, e⟩ := r1
    obtain ⟨out2, n2, e2⟩ := r2
    simp only at hms
    have HI := hide hI
    have HJ := fun w1 a1 c1 b t => hide (hJ w1 a1 c1 b t)
    have hbd : ([] : List Int).length + len ≤ 140737488355328 := by simp; omega
    have hbd2 : ([] ++ zs : List Int).length + len' ≤ 140737488355328 := by simp; omega
    have HZ := hide hzl
    have HY := hide hyl
    clear hI hJ h h' hT hzl hyl hF
    by_cases he : e = 60
    case' pos => subst he; clear hms
    case' neg => obtain ⟨rfl, rfl, rfl⟩ : out2 = out ∧ n2 = n ∧ e2 = e := (by have := hms.resolve_left he; simpa using this); clear hms
    all_goals
      go_enter Tryd.func4, Tryd.ntmps4
      go_wp2_with (first
        | (go_at_call 10; refine HI.out.mono ?_; rintro x w1 ⟨o1, c1, rfl, ow1, b1⟩; have O1 := hide ow1; have B1 := hide b1; clear ow1 b1 HI)
        | (at_builtin; refine wpList_append_in _ rfl (.tmp 24) (.tmp 25) rfl w1.heap.size _ [] rfl (own_empty w1) a len cap rfl (w1.heap.size + 1) zs ((((HB.out.stay B1.out).stay ((Below.refl _ w1).alloc (Nat.le_refl _) (.cells #[] 5))).1).up (by simp)) HB.out.2.2 hbd (by simp) ?_; intro v2 w2 ow2 gr2; have B2 := hide (((Below.refl _ w1).alloc (Nat.le_refl _) (.cells #[] 5)).grown gr2 (by simp) (fun k hk => (ownsRow_lt (own_empty w1) hk).1)); have O2 := hide ow2; clear ow2 gr2)
        | (at_builtin; refine wpList_append_in _ rfl (.tmp 26) (.tmp 27) rfl w1.heap.size _ ([] ++ zs) rfl O2.out a' len' cap' rfl w2.heap.size ys (((HB'.out.stay B1.out).stay B2.out).1) HB'.out.2.2 hbd2 B2.out.size ?_; intro v3 w3 ow3 gr3; have B3 := hide (B2.out.grown gr3 B2.out.size (fun k hk => (ownsRow_lt O2.out hk).1)); have W3 := hide (B1.out.trans (B3.out.mono B1.out.size)); rw [HF.out] at ow3; obtain ⟨a3, c3, rfl, i3⟩ := OwnsB.bin ow3 HM.out; have I3 := hide i3; clear ow3 gr3 i3)
        | (go_at_call 10; refine (HJ w3 a3 c3 I3.out (HT.out.on W3.out)).out.mono ?_; rintro x w4 ⟨o4, c4, rfl, ow4, b4⟩; have O4 := hide ow4; have O1' := hide ((O1.out.below B3.out).below b4); have B4 := hide (W3.out.trans (b4.mono W3.out.size)); clear ow4 b4 HJ)
        | (go_at_call 9; refine (alive_c w4 (HT.out.on B4.out)).mono ?_; rintro x w9 ⟨rfl, b9⟩; have hc1 := conv_own (O1'.out.below b9); have hc2 := conv_own (O4.out.below b9); have B9 := hide (B4.out.trans (b9.mono B4.out.size)); clear b9))
      go_ret
      exact ⟨rfl, B9.out⟩

theorem contract (H : Type) (enc : TypeId × Value → H) (W : World) (base : Nat) (args : Array Value) (ds gs : List (DataW H)) (before : List MemPlace)
    (hval : ∀ (j : Nat) t v, Tryd.f4.params[j]? = some t → args[j]? = some v → Value.okWide Tryd.prog W .any base t v)
    (hW : DataW.Whole enc Tryd.prog Tryd.f4.params.toList Rows.inflateMoreSpec.vars false W args.toList ds gs before) (hk : Rows.uptoSmall H (ds ++ gs) = true) (hT : Tab W) :
    Calls Tryd.prog 4 args W fun e W' => ∃ v, e = .returned v ∧ Rows.inflateMoreSpec.post enc Tryd.prog Tryd.f4 false true false false W args v W' := by
  have hW' := hW
  obtain ⟨p, q, hA0, hV, rfl, hfz, hnd⟩ := hW
  have hA : DataW.TrodAll enc Tryd.prog W 0 (fun _ => true) true Tryd.f4.params.toList args.toList ds p := hA0
  rw [Tryd.params4] at hA hval
  obtain ⟨v0, vs0, d0, ds0, p0, q0, hargs, rfl, rfl, h0, r0⟩ := trodAll_cons hA
  obtain ⟨v1, vs1, d1, ds1, p1, q1, rfl, rfl, rfl, h1, r1⟩ := trodAll_cons r0
  obtain ⟨v2, vs2, d2, ds2, p2, q2, rfl, rfl, rfl, h2, r2⟩ := trodAll_cons r1
  obtain ⟨rfl, rfl, rfl⟩ := trodAll_nil r2
  obtain rfl : args = #[v0, v1, v2] := by cases args; simp_all
  obtain ⟨rfl, rfl⟩ := trodVars_none hV
  have hb : Rows.uptoBulk d0 + (Rows.uptoBulk d1 + (Rows.uptoBulk d2 + 0)) ≤ 1048576 := by
    have := of_decide_eq_true hk
    simpa [Rows.uptoBulkAll] using this
  obtain ⟨a0, len0, cap0, rfl⟩ := okWide_slice Tryd.underlying22 (hval 0 22 v0 rfl rfl)
  have k0 := h0
  have lt0 : ∀ x ∈ p0, x.block < W.heap.size := by obtain ⟨m, hm⟩ := k0; exact DataW.trod_lt m _ _ _ hm
  obtain ⟨x0, t0, hl0⟩ := open_small (by omega) h0
  obtain ⟨a1, len1, cap1, rfl⟩ := okWide_slice Tryd.underlying22 (hval 1 22 v1 rfl rfl)
  have k1 := h1
  have lt1 : ∀ x ∈ p1, x.block < W.heap.size := by obtain ⟨m, hm⟩ := k1; exact DataW.trod_lt m _ _ _ hm
  obtain ⟨x1, t1, hl1⟩ := open_small (by omega) h1
  obtain ⟨x2, rfl, rfl, rfl, wf2⟩ := open_int Tryd.underlying3 (hval 2 3 v2 rfl rfl) h2
  have bd2 := bounds_i64 wf2
  clear hA0
  refine (walk a0 a1 len0 cap0 len1 cap1 x0 x1 x2 W t0 t1 hT hl0 hl1).mono fun e W' ⟨he, bel⟩ => ?_
  subst he
  exact ⟨_, rfl, _, _, _, [], _, [], hW', trodAll_mk1 (shut_bool Tryd.underlying4 _), (trodAll_cons_mk (Below.trod laidOut (by kernel_rfl) (of_decide_eq_true (by kernel_rfl)) k0 bel lt0) (trodAll_cons_mk (Below.trod laidOut (by kernel_rfl) (of_decide_eq_true (by kernel_rfl)) k1 bel lt1) (trodAll_cons_mk (shut_int Tryd.underlying3 wf2) trodAll_mk0))), rfl, bel.frame _, fun h => by cases h⟩

set_option maxRecDepth 100000 in
theorem lifted (os : Os) (started : os.Started) (H : Type) (enc : TypeId × Value → H) (F : Stop.Interp) :
    ReturnsInHanded {} Tryd.checked os 4 .any (fun w args => ((Rows.OpenSpec.upto Rows.inflateMoreSpec).pre enc Tryd.prog Tryd.f4 Rows.inflateMoreUptoRow.domain false w args ∧ laidMetH Tryd.prog Rows.inflateMoreUptoRow.laid w) ∧ sizedMet enc Tryd.prog Tryd.f4 (Rows.OpenSpec.upto Rows.inflateMoreSpec) false w args)
      (((Rows.OpenSpec.upto Rows.inflateMoreSpec).at F).post enc Tryd.prog Tryd.f4 false true false false) := by
  have hok : Input.okWideB Tryd.prog ((World.laidAll Tryd.prog os Rows.inflateReadsRow.laid).forCall (fun _ _ => 0) ⟨#[], #[.slice none 0 0, .slice none 0 0, .int .i64 0], []⟩) 4 ⟨#[], #[.slice none 0 0, .slice none 0 0, .int .i64 0], []⟩ = true := by kernel_rfl
  have hwh : DataW.whole enc Tryd.prog ((World.laidAll Tryd.prog os Rows.inflateReadsRow.laid).forCall (fun _ _ => 0) ⟨#[], #[.slice none 0 0, .slice none 0 0, .int .i64 0], []⟩).memory Tryd.f4.params.toList Rows.inflateMoreSpec.vars false [.slice none 0 0, .slice none 0 0, .int .i64 0] 8 = some ([.nil, .nil, .lit (.int .i64 0)], [], []) := by kernel_rfl
  refine returnsInHanded_of_calls (C := Tryd.checked) own started (by kernel_rfl)
    ⟨World.laidAll Tryd.prog os Rows.inflateReadsRow.laid, fun _ _ => 0, ⟨#[], #[.slice none 0 0, .slice none 0 0, .int .i64 0], []⟩, World.laidAll_os _ _ _, World.shaped_of_ZipB (by kernel_rfl) (by kernel_rfl), (Input.okWide_of_okWideB (base := 0) hok).1, (Input.okWide_of_okWideB hok).2,
      ⟨⟨(OpenSpec.pre_some (k := Rows.uptoSmall) rfl _ _ _ _).2 ⟨[.nil, .nil, .lit (.int .i64 0)], [], [], DataW.Whole_of_whole hwh, rfl, by kernel_rfl⟩, wit_met os _⟩, sizedMet_of_sizedB (s := Rows.inflateMoreSpec) (fuel := 8) (by kernel_rfl)⟩, by
        simp only [Assume.holds]
        exact ⟨by simp, by simp, fun h => (by cases h), by simp, by simp⟩⟩ ?_
  intro w tape i _ _ _ hok hpre hholds
  obtain ⟨_, _, _, fn', hfn', _, _, _, _, hval⟩ := hok
  obtain rfl : fn' = Tryd.f4 := Option.some.inj (hfn'.symm.trans Tryd.func4)
  obtain ⟨⟨hp1, hx⟩, _⟩ := hpre
  obtain ⟨ds, gs, before, hw, _, hkk⟩ := (OpenSpec.pre_some (k := Rows.uptoSmall) rfl _ _ _ _).1 hp1
  have hw' := DataW.Whole.of_heap (w' := w.forCall tape i) (by rfl) hw
  have hx' : laidMetH Tryd.prog Rows.inflateReadsRow.laid (w.forCall tape i) := laidMetH.of_heap (by rfl) hx
  refine (contract H enc (w.forCall tape i) w.heap.size i.args ds gs before hval hw' hkk (tab_of_laid hx')).mono fun e W' ⟨v, he, hp⟩ => ?_
  subst he
  exact ChangeSpec.post_blind hp

theorem over : Rows.InflateMoreUptoSaid :=
  OpenClaim.holds_of_cond 4 Tryd.f4 rfl rfl rfl rfl rfl rfl rfl ⟨rfl, rfl, rfl, rfl, rfl⟩ rfl rfl rfl rfl rfl (by kernel_rfl) Tryd.func4 (by kernel_rfl)
    (of_decide_eq_true (by kernel_rfl)) (by unfold Func.isWrapper; first | (rw [if_pos (by decide +kernel)]; kernel_rfl) | (rw [if_neg (by decide +kernel)]; exact ⟨rfl, rfl⟩))
    (fun os started H enc _ F => lifted os started H enc F)
end Go.Proofs.YtibolmgijaploaaDoor.inflateMore
namespace Go.Proofs.YtibolmgijaploaaDoor
theorem inflateMoreUpto_holds : Rows.InflateMoreUptoCardSaid :=
  Claim7.holds_tied_plain_at .later [] [.data] true Rows.inflateMoreUptoCard.stood.harness false
    inflateMore.over (fun _ h => by cases h) (by kernel_rfl) (fun _ h => by cases h) inflateMoreUpto_row_tie rfl ⟨rfl, rfl⟩ (by kernel_rfl) rfl
    (fun f fn hf hfn => by
      obtain rfl : f = 4 := Option.some.inj ((show Tryd.prog.funcNamed Rows.inflateMoreUptoRow.func = some 4 by kernel_rfl).symm.trans hf) |>.symm
      obtain rfl : fn = Tryd.f4 := (Option.some.inj (Tryd.func4.symm.trans hfn)).symm
      exact ⟨by kernel_rfl, fun j t ht => by
        rw [Tryd.params4] at ht
        have hm : t ∈ [22, 22, 3] := by simpa using Array.mem_of_getElem? ht
        have hall : ([22, 22, 3].all fun u => !Tryd.prog.wantsStandIn u) = true := by kernel_rfl
        exact (show Tryd.prog.wantsStandIn t = false by simpa using List.all_eq_true.1 hall t hm)⟩)
    (by kernel_rfl)
#print axioms inflateMoreUpto_holds
end Go.Proofs.YtibolmgijaploaaDoor
