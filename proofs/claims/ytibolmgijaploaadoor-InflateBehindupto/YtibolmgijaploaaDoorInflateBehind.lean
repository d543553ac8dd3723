/-
  PROVED: 'wainloadlaw06.InflateBehind' answers true: a stream behind a stored block that is not the last one tells that block's bytes, and then what it tells alone; where the arguments are together of bulk at most 1048576 (the second form). The card: the order of lengths is what the program's text lays.
-/
import Derived.Test.YtibolmgijaploaaDoorPLaid
import Derived.Test.YtibolmgijaploaaDoorPStr
namespace Go.Proofs.YtibolmgijaploaaDoor.inflateBehind
set_option maxRecDepth 100000
open Go.ChangeShapes Go.WideShapes Go.ChangeAt Go.RowKit
set_option linter.unusedVariables false

theorem wr8 (n : Nat) (h : n ≤ 65535) : IntKind.u8.wrap (n : Int) = ((n % 256 : Nat) : Int) := by simp only [IntKind.wrap_u8]; omega
set_option maxHeartbeats 1000000 in
theorem walk (s : ByteArray) (a : Option Addr) (len cap : Nat) (zs : List Int) (most : Int) (w : World) (h : BIn w a len cap zs) (hT : Tab w) (hl : len ≤ 1048576) (hs : s.size ≤ 9223372036854775807) :
    Calls Tryd.prog 8 #[.string s, .slice a len cap, .int .i64 most] w fun e w' => e = .returned (.bool true) ∧ Below w.heap.size w w' := by
  have HT := hide hT
  have HA := hide (alive_c w hT)
  have bad : (65535 < s.size ∨ most < 0 ∨ 1048576 < most) ∨ (s.size ≤ 65535 ∧ 0 ≤ most ∧ most ≤ 1048576) := by omega
  rcases bad with bad | ⟨h1, h2, h3⟩
  · clear h hT
    by_cases g1 : 65535 < s.size
    case' pos => have g1' : (65535 : Int) < (s.size : Int) := by omega
    case' neg =>
      have g1' : ¬ (65535 : Int) < (s.size : Int) := by omega
      by_cases g2 : most < 0
      case' pos => skip
      case' neg => have g3 : 1048576 < most := by omega
    all_goals
      clear bad
      go_enter Tryd.func8, Tryd.ntmps8
      go_wp2_with (go_at_call 9; refine HA.out.mono ?_; rintro x w9 ⟨rfl, b9⟩; have B9 := hide b9; clear b9)
      go_ret
      exact ⟨rfl, B9.out⟩
  · have h1' : ¬ (65535 : Int) < (s.size : Int) := by omega
    have hI := inf_in h hT (by omega) most (by omega)
    have hbh := iAns_behind (sB s) zs most.toNat (sB_mem s) (by rw [sB_length]; exact h1)
    rw [sB_length] at hbh
    have HB := hide h
    obtain ⟨m, rfl⟩ := Int.eq_ofNat_of_zero_le h2
    rw [Int.toNat_natCast] at hI hbh
    have hby := (iAns_by zs m).1
    have hrd := iAns_read zs m
    rw [HB.out.1.1] at hrd
    generalize iAns zs m = r1 at hI hbh hby hrd
    obtain ⟨out, n, e⟩ := r1
    simp only at hbh hby hrd
    replace hrd : n ≤ 1048576 := by omega
    have HI := hide hI
    clear hI h hT HA
    by_cases he : e = 0
    case neg =>
      clear hbh
      go_enter Tryd.func8, Tryd.ntmps8
      go_wp2_with (first
        | (go_at_call 10; refine HI.out.mono ?_; rintro x w1 ⟨o1, c1, rfl, ow1, b1⟩; have B1 := hide b1; clear ow1 b1 HI)
        | (go_at_call 9; refine (alive_c w1 (HT.out.on B1.out)).mono ?_; rintro x w9 ⟨rfl, b9⟩; have B9 := hide (B1.out.trans (b9.mono B1.out.size)); clear b9))
      go_ret
      exact ⟨rfl, B9.out⟩
    case pos =>
    subst he
    have hans := hbh rfl
    obtain ⟨F, hF⟩ : ∃ F, hd5 0 s.size ++ sB s ++ zs = F := ⟨_, rfl⟩
    have h5 : hd5 ((0 : Nat) : Int) s.size = iHead 0 s.size := hd5_eq 0 s.size h1
    rw [← h5, ← List.append_assoc] at hans
    replace hans : iAns F (m + s.size) = (sB s ++ out, n + 5 + s.size, 0) := by rw [← hF]; exact hans
    have hFl : F.length ≤ 2097152 := by rw [← hF, List.length_append, List.length_append, sB_length, HB.out.1.1]; simp [hd5]; omega
    have HM : Hid (∀ x ∈ F, 0 ≤ x ∧ x ≤ 255) := by
      rw [← hF, show hd5 0 s.size = iHead 0 s.size from h5]
      exact mem_app (mem_app (fun x hx => by simp [iHead] at hx; omega) (sB_mem s)) HB.out.1.mem
    have hJ := fun w1 a1 c1 (b : BIn w1 a1 F.length c1 F) (t : Tab w1) => inf_in b t (by omega) ((m : Int) + (s.size : Int)) (by omega)
    rw [show ((m : Int) + (s.size : Int)).toNat = m + s.size by omega, hans] at hJ
    obtain ⟨G, hG⟩ : ∃ G, sB s ++ out = G := ⟨_, rfl⟩
    rw [hG] at hJ
    have HG : Hid (strOfNums G = s ++ strOfNums out) := by rw [← hG, nums_app, nums_sB]; exact rfl
    have HF := hide hF
    have HJ := fun w1 a1 c1 b t => hide (hJ w1 a1 c1 b t)
    have hbd : (hd5 0 s.size).length + s.size ≤ 140737488355328 := by simp [hd5]; omega
    have hbd2 : (hd5 0 s.size ++ sB s).length + len ≤ 140737488355328 := by rw [List.length_append, sB_length]; simp [hd5]; omega
    have hnn : ((n + 5 + s.size : Nat) : Int) = (n : Int) + 5 + (s.size : Int) := by omega
    have hso : (strOfNums out).size ≤ 1048576 := by rw [strOfNums_size]; omega
    have hadd : ∀ w : World, (Op.stringOp .add s (strOfNums out)).run Tryd.prog w = .ok (.string (s ++ strOfNums out)) w := fun w => run_string_add_sum w _ _ (by omega)
    clear hso hby hs
    have hm0 : ¬ (m : Int) < 0 := by omega
    have hm1 : ¬ (1048576 : Int) < (m : Int) := by omega
    clear hJ hans hbh hF hG h5 h2 h3
    go_enter Tryd.func8, Tryd.ntmps8
    go_wp2_with (first
        | (go_at_call 10; refine HI.out.mono ?_; rintro x w1 ⟨o1, c1, rfl, ow1, b1⟩; have O1 := hide ow1; have B1 := hide b1; clear ow1 b1 HI)
        | (at_builtin; refine wpList_append_text _ rfl (.tmp 50) (.tmp 51) rfl w1.heap.size _ (hd5 0 s.size) rfl (own_hd w1 0 s.size) s rfl hbd (by simp) ?_; intro v2 w2 ow2 gr2; have B2 := hide (below_hd (l := 0) (n := s.size) gr2); have O2 := hide ow2; clear ow2 gr2)
        | (at_builtin; refine wpList_append_in _ rfl (.tmp 54) (.tmp 55) rfl w1.heap.size _ (hd5 0 s.size ++ sB s) rfl O2.out a len cap rfl w2.heap.size zs (((HB.out.stay B1.out).stay B2.out).1) HB.out.2.2 hbd2 B2.out.size ?_; intro v3 w3 ow3 gr3; have B3 := hide (B2.out.grown gr3 B2.out.size (fun k hk => (ownsRow_lt O2.out hk).1)); have W3 := hide (B1.out.trans (B3.out.mono B1.out.size)); rw [HF.out] at ow3; obtain ⟨a3, c3, rfl, i3⟩ := OwnsB.bin ow3 HM.out; have I3 := hide i3; clear ow3 gr3 i3)
        | (go_at_call 10; refine (HJ w3 a3 c3 I3.out (HT.out.on W3.out)).out.mono ?_; rintro x w4 ⟨o4, c4, rfl, ow4, b4⟩; have O4 := hide ow4; have O1' := hide ((O1.out.below B3.out).below b4); have B4 := hide (W3.out.trans (b4.mono W3.out.size)); clear ow4 b4 HJ)
        | (go_at_call 9; refine (alive_c w4 (HT.out.on B4.out)).mono ?_; rintro x w9 ⟨rfl, b9⟩; have hc1 := conv_own (O1'.out.below b9); have hc2 : (convert 22 9 (.slice o4 G.length c4)).run Tryd.prog w9 = .ok (.string (s ++ strOfNums out)) w9 := (by rw [← HG.out]; exact conv_own (O4.out.below b9)); have B9 := hide (B4.out.trans (b9.mono B4.out.size)); clear b9))
    go_ret
    exact ⟨rfl, B9.out⟩

theorem contract (H : Type) (enc : TypeId × Value → H) (W : World) (base : Nat) (args : Array Value) (ds gs : List (DataW H)) (before : List MemPlace)
    (hval : ∀ (j : Nat) t v, Tryd.f8.params[j]? = some t → args[j]? = some v → Value.okWide Tryd.prog W .any base t v)
    (hW : DataW.Whole enc Tryd.prog Tryd.f8.params.toList Rows.inflateBehindSpec.vars false W args.toList ds gs before) (hk : Rows.uptoSmall H (ds ++ gs) = true) (hT : Tab W) :
    Calls Tryd.prog 8 args W fun e W' => ∃ v, e = .returned v ∧ Rows.inflateBehindSpec.post enc Tryd.prog Tryd.f8 false true false false W args v W' := by
  have hW' := hW
  obtain ⟨p, q, hA0, hV, rfl, hfz, hnd⟩ := hW
  have hA : DataW.TrodAll enc Tryd.prog W 0 (fun _ => true) true Tryd.f8.params.toList args.toList ds p := hA0
  rw [Tryd.params8] at hA hval
  obtain ⟨v0, vs0, d0, ds0, p0, q0, hargs, rfl, rfl, h0, r0⟩ := trodAll_cons hA
  obtain ⟨v1, vs1, d1, ds1, p1, q1, rfl, rfl, rfl, h1, r1⟩ := trodAll_cons r0
  obtain ⟨v2, vs2, d2, ds2, p2, q2, rfl, rfl, rfl, h2, r2⟩ := trodAll_cons r1
  obtain ⟨rfl, rfl, rfl⟩ := trodAll_nil r2
  obtain rfl : args = #[v0, v1, v2] := by cases args; simp_all
  obtain ⟨rfl, rfl⟩ := trodVars_none hV
  have hb : Rows.uptoBulk d0 + (Rows.uptoBulk d1 + (Rows.uptoBulk d2 + 0)) ≤ 1048576 := by
    have := of_decide_eq_true hk
    simpa [Rows.uptoBulkAll] using this
  obtain ⟨s0, rfl, rfl, rfl, ws0⟩ := Go.ChangeMaps.open_string Tryd.underlying9 (hval 0 9 v0 rfl rfl) h0
  obtain ⟨a1, len1, cap1, rfl⟩ := okWide_slice Tryd.underlying22 (hval 1 22 v1 rfl rfl)
  have k1 := h1
  have lt1 : ∀ x ∈ p1, x.block < W.heap.size := by obtain ⟨m, hm⟩ := k1; exact DataW.trod_lt m _ _ _ hm
  obtain ⟨x1, t1, hl1⟩ := open_small (by omega) h1
  obtain ⟨x2, rfl, rfl, rfl, wf2⟩ := open_int Tryd.underlying3 (hval 2 3 v2 rfl rfl) h2
  have bd2 := bounds_i64 wf2
  clear hA0
  refine (walk s0 a1 len1 cap1 x1 x2 W t1 hT hl1 (by unfold maxLen at ws0; omega)).mono fun e W' ⟨he, bel⟩ => ?_
  subst he
  exact ⟨_, rfl, _, _, _, [], _, [], hW', trodAll_mk1 (shut_bool Tryd.underlying4 _), (trodAll_cons_mk (Go.ChangeMaps.shut_string Tryd.underlying9 ws0) (trodAll_cons_mk (Below.trod laidOut (by kernel_rfl) (of_decide_eq_true (by kernel_rfl)) k1 bel lt1) (trodAll_cons_mk (shut_int Tryd.underlying3 wf2) trodAll_mk0))), rfl, bel.frame _, fun h => by cases h⟩

set_option maxRecDepth 100000 in
theorem lifted (os : Os) (started : os.Started) (H : Type) (enc : TypeId × Value → H) (F : Stop.Interp) :
    ReturnsInHanded {} Tryd.checked os 8 .any (fun w args => ((Rows.OpenSpec.upto Rows.inflateBehindSpec).pre enc Tryd.prog Tryd.f8 Rows.inflateBehindUptoRow.domain false w args ∧ laidMetH Tryd.prog Rows.inflateBehindUptoRow.laid w) ∧ sizedMet enc Tryd.prog Tryd.f8 (Rows.OpenSpec.upto Rows.inflateBehindSpec) false w args)
      (((Rows.OpenSpec.upto Rows.inflateBehindSpec).at F).post enc Tryd.prog Tryd.f8 false true false false) := by
  have hok : Input.okWideB Tryd.prog ((World.laidAll Tryd.prog os Rows.inflateReadsRow.laid).forCall (fun _ _ => 0) ⟨#[], #[.string ByteArray.empty, .slice none 0 0, .int .i64 0], []⟩) 8 ⟨#[], #[.string ByteArray.empty, .slice none 0 0, .int .i64 0], []⟩ = true := by kernel_rfl
  have hwh : DataW.whole enc Tryd.prog ((World.laidAll Tryd.prog os Rows.inflateReadsRow.laid).forCall (fun _ _ => 0) ⟨#[], #[.string ByteArray.empty, .slice none 0 0, .int .i64 0], []⟩).memory Tryd.f8.params.toList Rows.inflateBehindSpec.vars false [.string ByteArray.empty, .slice none 0 0, .int .i64 0] 8 = some ([.lit (.string []), .nil, .lit (.int .i64 0)], [], []) := by kernel_rfl
  refine returnsInHanded_of_calls (C := Tryd.checked) own started (by kernel_rfl)
    ⟨World.laidAll Tryd.prog os Rows.inflateReadsRow.laid, fun _ _ => 0, ⟨#[], #[.string ByteArray.empty, .slice none 0 0, .int .i64 0], []⟩, World.laidAll_os _ _ _, World.shaped_of_ZipB (by kernel_rfl) (by kernel_rfl), (Input.okWide_of_okWideB (base := 0) hok).1, (Input.okWide_of_okWideB hok).2,
      ⟨⟨(OpenSpec.pre_some (k := Rows.uptoSmall) rfl _ _ _ _).2 ⟨[.lit (.string []), .nil, .lit (.int .i64 0)], [], [], DataW.Whole_of_whole hwh, rfl, by kernel_rfl⟩, wit_met os _⟩, sizedMet_of_sizedB (s := Rows.inflateBehindSpec) (fuel := 8) (by kernel_rfl)⟩, by
        simp only [Assume.holds]
        exact ⟨by simp, by simp, fun h => (by cases h), by simp, by simp⟩⟩ ?_
  intro w tape i _ _ _ hok hpre hholds
  obtain ⟨_, _, _, fn', hfn', _, _, _, _, hval⟩ := hok
  obtain rfl : fn' = Tryd.f8 := Option.some.inj (hfn'.symm.trans Tryd.func8)
  obtain ⟨⟨hp1, hx⟩, _⟩ := hpre
  obtain ⟨ds, gs, before, hw, _, hkk⟩ := (OpenSpec.pre_some (k := Rows.uptoSmall) rfl _ _ _ _).1 hp1
  have hw' := DataW.Whole.of_heap (w' := w.forCall tape i) (by rfl) hw
  have hx' : laidMetH Tryd.prog Rows.inflateReadsRow.laid (w.forCall tape i) := laidMetH.of_heap (by rfl) hx
  refine (contract H enc (w.forCall tape i) w.heap.size i.args ds gs before hval hw' hkk (tab_of_laid hx')).mono fun e W' ⟨v, he, hp⟩ => ?_
  subst he
  exact ChangeSpec.post_blind hp

theorem over : Rows.InflateBehindUptoSaid :=
  OpenClaim.holds_of_cond 8 Tryd.f8 rfl rfl rfl rfl rfl rfl rfl ⟨rfl, rfl, rfl, rfl, rfl⟩ rfl rfl rfl rfl rfl (by kernel_rfl) Tryd.func8 (by kernel_rfl)
    (of_decide_eq_true (by kernel_rfl)) (by unfold Func.isWrapper; first | (rw [if_pos (by decide +kernel)]; kernel_rfl) | (rw [if_neg (by decide +kernel)]; exact ⟨rfl, rfl⟩))
    (fun os started H enc _ F => lifted os started H enc F)
end Go.Proofs.YtibolmgijaploaaDoor.inflateBehind
namespace Go.Proofs.YtibolmgijaploaaDoor
theorem inflateBehindUpto_holds : Rows.InflateBehindUptoCardSaid :=
  Claim7.holds_tied_plain_at .later [] [.data] true Rows.inflateBehindUptoCard.stood.harness false
    inflateBehind.over (fun _ h => by cases h) (by kernel_rfl) (fun _ h => by cases h) inflateBehindUpto_row_tie rfl ⟨rfl, rfl⟩ (by kernel_rfl) rfl
    (fun f fn hf hfn => by
      obtain rfl : f = 8 := Option.some.inj ((show Tryd.prog.funcNamed Rows.inflateBehindUptoRow.func = some 8 by kernel_rfl).symm.trans hf) |>.symm
      obtain rfl : fn = Tryd.f8 := (Option.some.inj (Tryd.func8.symm.trans hfn)).symm
      exact ⟨by kernel_rfl, fun j t ht => by
        rw [Tryd.params8] at ht
        have hm : t ∈ [9, 22, 3] := by simpa using Array.mem_of_getElem? ht
        have hall : ([9, 22, 3].all fun u => !Tryd.prog.wantsStandIn u) = true := by kernel_rfl
        exact (show Tryd.prog.wantsStandIn t = false by simpa using List.all_eq_true.1 hall t hm)⟩)
    (by kernel_rfl)
#print axioms inflateBehindUpto_holds
end Go.Proofs.YtibolmgijaploaaDoor
