/-
  PROVED: 'wainloadlaw09.GzCuts' answers true: of a member that was written and is cut off the end is missed; where the arguments are together of bulk at most 1048576 (the second form). The card: the orders of lengths are what the program's text lays.
-/
import Derived.Test.YtgjafmppkfgkfaaGreatDoorqGcLaid
import Derived.Test.YtgjafmppkfgkfaaGreatDoorqTheCuts
namespace Go.Proofs.YtgjafmppkfgkfaaGreatDoor.gzCuts
set_option maxRecDepth 100000
open Go.ChangeShapes Go.WideShapes Go.ChangeAt Go.RowKit
set_option linter.unusedVariables false

set_option maxHeartbeats 4000000 in
theorem walk (m : Mb) (lv cut : Int) (w : World) (hT : Tab w) (ht : m.time < 4294967296) (hs : m.name.size + m.comment.size + m.extra.size + m.data.size <= 1048576) (hc : -9223372036854775808 <= cut /\ cut <= 9223372036854775807) :
  Calls Tryz.prog 6 #[.agg m.cells, .int .i64 lv, .int .i64 cut] w fun e w' => e = .returned (.bool true) /\ Below w.heap.size w w' := by
 obtain ⟨W, hW⟩ : ∃ W, W = w.alloc (.cells m.cells 32) := ⟨_, rfl⟩
 have kW : Kept (fun _ => False) w W := by rw [hW]; exact Kept.alloc _ (Kept.refl _ w) _
 have hb : W.heap[w.heap.size]? = some (.cells m.cells 32 (0, 0)) := by rw [hW]; exact heap_new w _
 have hTW : Tab W := hT.kept kW ⟨fun e => e, fun e => e⟩
 have c5 := cells_of hb 5
 have c2 := cells_of hb 2
 simp only [Mb.cells] at c5 c2
 have HE : Hid (w.alloc (.cells m.cells 32) = W) := hW.symm
 have HB := hide hb
 have HA : Hid (∀ w1, Below w.heap.size w w1 -> Calls Tryz.prog 9 #[] w1 fun e w' => e = .returned (.bool true) /\ Below w.heap.size w w') := fun w1 b1 => (alive_c w1 (hT.below b1 hT.pos) (Nat.lt_of_lt_of_le hT.pos b1.size)).mono fun e w' h => ⟨h.1, b1.trans (h.2.mono b1.size)⟩
 have HBW : Hid (Below w.heap.size w W) := kW.below (Nat.le_refl _) (fun _ _ e => e)
 obtain ⟨b3, hb3⟩ : ∃ b3, b3 = w.heap.size := ⟨_, rfl⟩
 rw [<- hb3] at c5 c2 HB
 clear hW hb
 by_cases h1 : 3000 < m.data.size
 ·have h1' : (3000 : Int) < (m.data.size : Int) := by omega
  have HA1 := hide (HA.out W HBW.out)
  clear hs hc ht kW hTW hT h1 HA
  go_enter Tryz.func6, Tryz.ntmps6
  go_upto_region 1 with fail
  rw [show w.alloc (.cells m.cells 32) = W from HE.out, <- hb3]
  clear hb3
  go_wp2_with (go_at_call 9; refine HA1.out.mono ?_; rintro x w9 ⟨rfl, b9⟩; have B9 := hide b9; clear b9)
  go_ret
  exact ⟨rfl, B9.out⟩
 have h1' : ¬ (3000 : Int) < (m.data.size : Int) := by omega
 by_cases h2 : 70000 < m.extra.size
 ·have h2' : (70000 : Int) < (m.extra.size : Int) := by omega
  have HA1 := hide (HA.out W HBW.out)
  clear hs hc ht kW hTW hT h1 h2 HA
  go_enter Tryz.func6, Tryz.ntmps6
  go_upto_region 1 with fail
  rw [show w.alloc (.cells m.cells 32) = W from HE.out, <- hb3]
  clear hb3
  go_wp2_with (go_at_call 9; refine HA1.out.mono ?_; rintro x w9 ⟨rfl, b9⟩; have B9 := hide b9; clear b9)
  go_ret
  exact ⟨rfl, B9.out⟩
 have h2' : ¬ (70000 : Int) < (m.extra.size : Int) := by omega
 by_cases hmay : ¬ gMay m
 ·have HW : Hid (Calls Tryz.prog 13 #[.agg m.cells, .int .i64 lv] W fun e w1 => e = .returned (.tuple #[.slice none 0 0, .bool false]) /\ Below w.heap.size w w1) := (write_no m lv W hmay).mono fun e w1 h => ⟨h.1, HBW.out.trans (h.2.below HBW.out.size (fun _ _ e => e))⟩
  clear hs ht kW hTW hT h1 h2 hmay
  go_enter Tryz.func6, Tryz.ntmps6
  go_upto_region 1 with fail
  rw [show w.alloc (.cells m.cells 32) = W from HE.out, <- hb3]
  clear hb3
  go_upto_region 4 with (first
   | (refine C.wpList_load_row rfl 32 (.tmp 3) rfl b3 (by rfl) m.cells 32 (0, 0) HB.out _ Tryz.underlying32 rfl sizeM9 ?_)
   | (go_at_call 13; refine HW.out.mono ?_; rintro e w1 ⟨rfl, l1⟩; have HA1 := hide (HA.out w1 l1); clear l1 HW HA))
  go_wp2_with (go_at_call 9; refine HA1.out.mono ?_; rintro x w9 ⟨rfl, b9⟩; have B9 := hide b9; clear b9)
  go_ret
  exact ⟨rfl, B9.out⟩
 replace hmay := Classical.not_not.1 hmay
 have hzm := sB_mem m.data
 have HW : Hid (Calls Tryz.prog 13 #[.agg m.cells, .int .i64 lv] W fun e w1 => ∃ (a : Option Addr) (n c : Nat), e = .returned (.tuple #[.slice a n c, .bool true]) /\ n <= c /\ c <= 9223372036854775807 /\ Below w.heap.size w w1 /\ Hid (∀ k, k < n -> Calls Tryz.prog 10 #[.slice a k c, .int .i64 100000] w1 fun e w2 => e = .returned (.tuple #[.slice none 0 0, .int .i64 90]) /\ Below w.heap.size w w2)) := by
  refine (write_small m lv W hTW hTW.pos hmay (by omega) (by omega) (by omega) ht).mono ?_
  rintro e w1 ⟨v, X, rfl, ho, hX, hXl, k1⟩
  have hb1 : Below w.heap.size w w1 := HBW.out.trans (k1.below HBW.out.size (fun _ _ e => e))
  have hXb := hX.bytes9 hzm
  have hFb : ∀ x ∈ gHd m ++ X ++ gFt (sB m.data), 0 <= x /\ x <= 255 := gAll_mem m hXb
  obtain ⟨a, c, rfl, hbi⟩ := owns_bi' ho hFb
  have hlen := gHd_len m
  refine ⟨a, _, c, rfl, hbi.le, hbi.max, hb1, fun k hk => ?_⟩
  have hT1 : Tab w1 := hT.below hb1 hT.pos
  have hbk := hbi.take k
  have hkl : ((gHd m ++ X ++ gFt (sB m.data)).take k).length = k := by rw [List.length_take]; omega
  have h8 : (gFt (sB m.data)).length = 8 := by unfold gFt; simp [leP_length]
  have hkb : k <= 100000000 := by rw [List.length_append, List.length_append, h8] at hk; have := hX.len9; rw [sB_length] at this; omega
  have hr := read_c w1 hT1 hT1.pos a c _ 100000 hbk (by rw [hkl]; exact hkb) (by decide)
  rw [hkl, gRead_bad (member_cut m X hmay ht (hX.ans hzm) _ (by show _ <= (100000 : Int).toNat; omega) k hk)] at hr
  refine hr.mono ?_
  rintro e w2 (⟨ms, v, e1, _⟩ | ⟨er, e1, _, _, rfl, b2⟩)
  ·cases e1
  ·cases e1; exact ⟨rfl, hb1.trans (b2.mono hb1.size)⟩
 clear hs ht kW hTW hT h1 h2 hmay hzm
 go_enter Tryz.func6, Tryz.ntmps6
 go_upto_region 1 with fail
 rw [show w.alloc (.cells m.cells 32) = W from HE.out, <- hb3]
 clear hb3
 go_upto_region 4 with (first
  | (refine C.wpList_load_row rfl 32 (.tmp 3) rfl b3 (by rfl) m.cells 32 (0, 0) HB.out _ Tryz.underlying32 rfl sizeM9 ?_)
  | (go_at_call 13; refine HW.out.mono ?_; rintro e w1 ⟨a, n, c, rfl, hn, hcm, l1, HR⟩; have HA1 := hide (HA.out w1 l1); clear l1 HW))
 by_cases hc0 : cut < 0
 ·go_wp2_with (go_at_call 9; refine HA1.out.mono ?_; rintro x w9 ⟨rfl, b9⟩; have B9 := hide b9; clear b9)
  go_ret
  exact ⟨rfl, B9.out⟩
 obtain ⟨k, rfl⟩ := Int.eq_ofNat_of_zero_le (show 0 <= cut by omega)
 by_cases hck : (n : Int) <= (k : Int)
 ·go_wp2_with (go_at_call 9; refine HA1.out.mono ?_; rintro x w9 ⟨rfl, b9⟩; have B9 := hide b9; clear b9)
  go_ret
  exact ⟨rfl, B9.out⟩
 have hkn : k < n := by omega
 have HR1 := hide (HR.out k hkn)
 have hkc : k <= c := by omega
 clear HR HA1
 go_wp2_with (first
  | (go_at_call 10; refine HR1.out.mono ?_; rintro e w2 ⟨rfl, l2⟩; have HA2 := hide (HA.out w2 l2); clear l2 HR1 HA)
  | (go_at_call 9; refine HA2.out.mono ?_; rintro x w9 ⟨rfl, b9⟩; have B9 := hide b9; clear b9))
 go_ret
 exact ⟨rfl, B9.out⟩

theorem contract (H : Type) (enc : TypeId × Value -> H) (W : World) (base : Nat) (args : Array Value) (ds gs : List (DataW H)) (before : List MemPlace)
  (hval : ∀ (j : Nat) t v, Tryz.f6.params[j]? = some t -> args[j]? = some v -> Value.okWide Tryz.prog W .any base t v)
  (hW : DataW.Whole enc Tryz.prog Tryz.f6.params.toList Rows.gzCutsSpec.vars false W args.toList ds gs before) (hk : Rows.uptoSmall H (ds ++ gs) = true) (hT : Tab W) :
  Calls Tryz.prog 6 args W fun e W' => ∃ v, e = .returned v /\ Rows.gzCutsSpec.post enc Tryz.prog Tryz.f6 false true false false W args v W' := by
 have hW' := hW
 obtain ⟨p, q, hA0, hV, rfl, hfz, hnd⟩ := hW
 have hA : DataW.TrodAll enc Tryz.prog W 0 (fun _ => true) true Tryz.f6.params.toList args.toList ds p := hA0
 rw [Tryz.params6] at hA hval
 obtain ⟨v0, vs0, d0, ds0, p0, q0, hargs, rfl, rfl, h0, r0⟩ := trodAll_cons hA
 obtain ⟨v1, vs1, d1, ds1, p1, q1, rfl, rfl, rfl, h1, r1⟩ := trodAll_cons r0
 obtain ⟨v2, vs2, d2, ds2, p2, q2, rfl, rfl, rfl, h2, r2⟩ := trodAll_cons r1
 obtain ⟨rfl, rfl, rfl⟩ := trodAll_nil r2
 obtain rfl : args = #[v0, v1, v2] := by cases args; simp_all
 obtain ⟨rfl, rfl⟩ := trodVars_none hV
 have hb : Rows.uptoBulk d0 + (Rows.uptoBulk d1 + (Rows.uptoBulk d2 + 0)) <= 1048576 := by
  have := of_decide_eq_true hk
  simpa [Rows.uptoBulkAll] using this
 have k0 := h0
 have lt0 : ∀ x ∈ p0, x.block < W.heap.size := by obtain ⟨m, hm⟩ := k0; exact DataW.trod_lt m _ _ _ hm
 obtain ⟨x0, rfl, tm0, sz0⟩ := open_mem (hval 0 32 v0 rfl rfl) h0 (by omega)
 obtain ⟨x1, rfl, rfl, rfl, wf1⟩ := open_int Tryz.underlying3 (hval 1 3 v1 rfl rfl) h1
 have bd1 := bounds_i64 wf1
 obtain ⟨x2, rfl, rfl, rfl, wf2⟩ := open_int Tryz.underlying3 (hval 2 3 v2 rfl rfl) h2
 have bd2 := bounds_i64 wf2
 clear hA0
 refine (walk x0 x1 x2 W hT tm0 sz0 bd2).mono fun e W' ⟨he, bel⟩ => ?_
 subst he
 exact ⟨_, rfl, _, _, _, [], _, [], hW', trodAll_mk1 (shut_bool Tryz.underlying4 _), (trodAll_cons_mk (Below.trod laidOut9 (by kernel_rfl) (of_decide_eq_true (by kernel_rfl)) k0 bel lt0) (trodAll_cons_mk (shut_int Tryz.underlying3 wf1) (trodAll_cons_mk (shut_int Tryz.underlying3 wf2) trodAll_mk0))), rfl, bel.frame _, fun h => by cases h⟩

set_option maxRecDepth 100000 in
theorem lifted (os : Os) (started : os.Started) (H : Type) (enc : TypeId × Value -> H) (F : Stop.Interp) :
  ReturnsInHanded {} Tryz.checked os 6 .any (fun w args => ((Rows.OpenSpec.upto Rows.gzCutsSpec).pre enc Tryz.prog Tryz.f6 Rows.gzCutsUptoRow.domain false w args /\ laidMetH Tryz.prog Rows.gzCutsUptoRow.laid w) /\ sizedMet enc Tryz.prog Tryz.f6 (Rows.OpenSpec.upto Rows.gzCutsSpec) false w args)
   (((Rows.OpenSpec.upto Rows.gzCutsSpec).at F).post enc Tryz.prog Tryz.f6 false true false false) := by
 have hok : Input.okWideB Tryz.prog ((World.laidAll Tryz.prog os Rows.gzReadsRow.laid).forCall (fun _ _ => 0) ⟨#[], #[.agg mb0.cells, .int .i64 0, .int .i64 0], []⟩) 6 ⟨#[], #[.agg mb0.cells, .int .i64 0, .int .i64 0], []⟩ = true := by kernel_rfl
 have hwh : DataW.whole enc Tryz.prog ((World.laidAll Tryz.prog os Rows.gzReadsRow.laid).forCall (fun _ _ => 0) ⟨#[], #[.agg mb0.cells, .int .i64 0, .int .i64 0], []⟩).memory Tryz.f6.params.toList Rows.gzCutsSpec.vars false [.agg mb0.cells, .int .i64 0, .int .i64 0] 8 = some ([.agg [.lit (.string []), .lit (.string []), .lit (.string []), .lit (.int .u32 0), .lit (.bool false), .lit (.string [])], .lit (.int .i64 0), .lit (.int .i64 0)], [], []) := by kernel_rfl
 refine returnsInHanded_of_calls (C := Tryz.checked) own started (by kernel_rfl)
  ⟨World.laidAll Tryz.prog os Rows.gzReadsRow.laid, fun _ _ => 0, ⟨#[], #[.agg mb0.cells, .int .i64 0, .int .i64 0], []⟩, World.laidAll_os _ _ _, World.shaped_of_ZipB (by kernel_rfl) (by kernel_rfl), (Input.okWide_of_okWideB (base := 0) hok).1, (Input.okWide_of_okWideB hok).2,
   ⟨⟨(OpenSpec.pre_some (k := Rows.uptoSmall) rfl _ _ _ _).2 ⟨[.agg [.lit (.string []), .lit (.string []), .lit (.string []), .lit (.int .u32 0), .lit (.bool false), .lit (.string [])], .lit (.int .i64 0), .lit (.int .i64 0)], [], [], DataW.Whole_of_whole hwh, rfl, by kernel_rfl⟩, wit_met os _⟩, sizedMet_of_sizedB (s := Rows.gzCutsSpec) (fuel := 8) (by kernel_rfl)⟩, by
    simp only [Assume.holds]
    exact ⟨by simp, by simp, fun h => (by cases h), by simp, by simp⟩⟩ ?_
 intro w tape i _ _ _ hok hpre hholds
 obtain ⟨_, _, _, fn', hfn', _, _, _, _, hval⟩ := hok
 obtain rfl : fn' = Tryz.f6 := Option.some.inj (hfn'.symm.trans Tryz.func6)
 obtain ⟨⟨hp1, hx⟩, _⟩ := hpre
 obtain ⟨ds, gs, before, hw, _, hkk⟩ := (OpenSpec.pre_some (k := Rows.uptoSmall) rfl _ _ _ _).1 hp1
 have hw' := DataW.Whole.of_heap (w' := w.forCall tape i) (by rfl) hw
 have hx' : laidMetH Tryz.prog Rows.gzReadsRow.laid (w.forCall tape i) := laidMetH.of_heap (by rfl) hx
 refine (contract H enc (w.forCall tape i) w.heap.size i.args ds gs before hval hw' hkk (tab_of_laid hx')).mono fun e W' ⟨v, he, hp⟩ => ?_
 subst he
 exact ChangeSpec.post_blind hp

theorem over : Rows.GzCutsUptoSaid :=
 OpenClaim.holds_of_cond 6 Tryz.f6 rfl rfl rfl rfl rfl rfl rfl ⟨rfl, rfl, rfl, rfl, rfl⟩ rfl rfl rfl rfl rfl (by kernel_rfl) Tryz.func6 (by kernel_rfl)
  (of_decide_eq_true (by kernel_rfl)) (by unfold Func.isWrapper; first | (rw [if_pos (by decide +kernel)]; kernel_rfl) | (rw [if_neg (by decide +kernel)]; exact ⟨rfl, rfl⟩))
  (fun os started H enc _ F => lifted os started H enc F)
end Go.Proofs.YtgjafmppkfgkfaaGreatDoor.gzCuts
namespace Go.Proofs.YtgjafmppkfgkfaaGreatDoor
theorem gzCutsUpto_holds : Rows.GzCutsUptoCardSaid :=
 Claim7.holds_tied_plain_at .later [] [.data, .data] true Rows.gzCutsUptoCard.stood.harness false
  gzCuts.over (fun _ h => by cases h) (by kernel_rfl) (fun _ h => by cases h) gzCutsUpto_row_tie rfl ⟨rfl, rfl⟩ (by kernel_rfl) rfl
  (fun f fn hf hfn => by
   obtain rfl : f = 6 := Option.some.inj ((show Tryz.prog.funcNamed Rows.gzCutsUptoRow.func = some 6 by kernel_rfl).symm.trans hf) |>.symm
   obtain rfl : fn = Tryz.f6 := (Option.some.inj (Tryz.func6.symm.trans hfn)).symm
   exact ⟨by kernel_rfl, fun j t ht => by
    rw [Tryz.params6] at ht
    have hm : t ∈ [32, 3, 3] := by simpa using Array.mem_of_getElem? ht
    have hall : ([32, 3, 3].all fun u => !Tryz.prog.wantsStandIn u) = true := by kernel_rfl
    exact (show Tryz.prog.wantsStandIn t = false by simpa using List.all_eq_true.1 hall t hm)⟩)
  (by kernel_rfl)
#print axioms gzCutsUpto_holds
end Go.Proofs.YtgjafmppkfgkfaaGreatDoor
