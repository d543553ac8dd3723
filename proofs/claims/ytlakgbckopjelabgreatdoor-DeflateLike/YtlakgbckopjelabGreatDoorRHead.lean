/- The reference's header: contract. -/
import Derived.Test.YtlakgbckopjelabGreatDoorG30RHead0
namespace Go.Proofs.YtlakgbckopjelabGreatDoor
set_option maxRecDepth 100000
open Go Go.RowKit

set_option maxHeartbeats 16000000 in
theorem rhead_c (lo hi : Nat) (a o : Option Addr) (ac ol oc : Nat) (L : List Int) (p : Nat) (m : Int) (w : World) (hL : L.length ≤ 1000000) (hb : Bin L) (hp : p ≤ L.length) (hl : Ints lo hi w a L) :
    Calls Tryz.prog 60 #[.agg (sA a L.length ac p o ol oc m 0)] w (RH w a o L.length ac ol oc m (iHdr (lb L) L.length p)) := by
  obtain ⟨i0, hi0, hz0, hz1, hz2⟩ := info_parts Tryz.info3
  have hmk : ∀ W : World, (Instr.makeSlice 45 (.int .i64 19) (.int .i64 19)).run Tryz.prog W = .ok (.slice (some ⟨W.heap.size, 0, none⟩) 19 19) (W.alloc (.cells (valA (List.replicate 19 0)) 3)) := made_ints 19 i0 hi0 hz0 hz1 hz2 (by decide)
  have HB := hide hb
  have HL := hide hl
  have HT : Hid (Two w ((w.alloc (.cells (sA a L.length ac p o ol oc m 0) 63)).alloc (.cells zA 63)) (sA a L.length ac p o ol oc m 0) zA) := Two.new w _ _
  obtain ⟨R, hR⟩ : ∃ R, R = iHdr (lb L) L.length p := ⟨_, rfl⟩
  rw [← hR]
  rw [iHdr_eq] at hR
  unfold iCnt at hR
  obtain ⟨K, hK⟩ : ∃ K : Nat → Nat × Nat × Nat → Except Int (Nat × (List Int × List Int)), K = fun q c => iThen (iInn (lb L) L.length q c.2.2) fun q first => iThen (iAll first (c.1 + 258 + c.2.1) (lb L) L.length q) fun q all => if ln all 256 = 0 ∨ ¬ check (all.take (c.1 + 257)) true = 0 ∨ ¬ check (all.drop (c.1 + 257)) true = 0 then .error 63 else .ok (q, (all.take (c.1 + 257), all.drop (c.1 + 257))) := ⟨_, rfl⟩
  rw [← hK] at hR
  have HK := hide hK
  clear hK
  unfold sA zA at HT
  show Calls Tryz.prog 60 #[.agg #[.slice a L.length ac, .int .i64 (p : Int), .slice o ol oc, .int .i64 m, .int .i64 0]] w _
  have HLE60 := fun fa fl fc p' many w' => hide (rlens_err a o fa L.length ac ol oc fl fc p' m 60 many w' (by decide))
  have HLE63 := fun fa fl fc p' many w' => hide (rlens_err a o fa L.length ac ol oc fl fc p' m 63 many w' (by decide))
  clear hb hl
  rcases h1 : iTk (lb L) L.length p 5 with e | ⟨q1, x⟩
  · obtain rfl := iTk_e h1
    rw [h1] at hR
    have HR : Hid (R = .error 60) := hR
    have HC1 := fun w' => hide (rbits_bad (a := a) (o := o) (ac := ac) (ol := ol) (oc := oc) (m := m) (w := w') hp (by decide) h1 5 rfl)
    have HC2 := fun w' => hide (rbits_no a o L.length ac ol oc p 5 m 60 w' (by decide) hp (.inl (by decide)))
    have HC3 := fun w' => hide (rbits_no a o L.length ac ol oc p 4 m 60 w' (by decide) hp (.inl (by decide)))
    have HLE := fun fa fl fc many w' => HLE60 fa fl fc (p : Int) many w'
    clear hR h1 HLE60 HLE63
    go_enter Tryz.func60, Tryz.ntmps60
    go_upto_region 4 with fail
    generalize ((w.alloc (.cells #[.slice a L.length ac, .int .i64 (p : Int), .slice o ol oc, .int .i64 m, .int .i64 0] 63)).alloc (.cells #[.slice none 0 0, .int .i64 0, .slice none 0 0, .int .i64 0, .int .i64 0] 63)) = w0 at HT ⊢
    go_upto_region 5 with (first
      | (refine st_load rfl (.tmp 1) rfl w.heap.size (by rfl) a o L.length ac ol oc _ m 0 (0, 0) HT.out.s0 ?_)
      | (go_at_call 30; refine (HC1 _).out.mono ?_; rintro x wb ⟨rfl, hbb⟩; have O1 := hide (HT.out.stay hbb); clear hbb HT HC1)
      | (refine st_store rfl (.tmp 1) (.tmp 17) rfl w.heap.size (by rfl) a o L.length ac ol oc _ m 60 (by rfl) _ (by rfl) O1.out.s0 ?_; intro wz hgz hkz; have O2 := hide (O1.out.own hgz hkz); have c4 := cells_of O2.out.s0 4; simp [sA] at c4; have zz := O2.out.size; have zz0 := Nat.lt_of_succ_lt zz; clear hgz hkz O1))
    go_upto_region 6 with (first
      | (refine st_load rfl (.tmp 1) rfl w.heap.size (by rfl) a o L.length ac ol oc _ m 60 (0, 0) O2.out.s0 ?_)
      | (go_at_call 30; refine (HC2 _).out.mono ?_; rintro x wb ⟨rfl, hbb⟩; have O3 := hide (O2.out.stay hbb); clear hbb O2 HC2)
      | (refine st_store rfl (.tmp 1) (.tmp 22) rfl w.heap.size (by rfl) a o L.length ac ol oc _ m 60 (by rfl) _ (by rfl) O3.out.s0 ?_; intro wz hgz hkz; have O4 := hide (O3.out.own hgz hkz); clear c4 zz zz0; have c4 := cells_of O4.out.s0 4; simp [sA] at c4; have zz := O4.out.size; have zz0 := Nat.lt_of_succ_lt zz; clear hgz hkz O3))
    go_upto_region 7 with (first
      | (refine st_load rfl (.tmp 1) rfl w.heap.size (by rfl) a o L.length ac ol oc _ m 60 (0, 0) O4.out.s0 ?_)
      | (go_at_call 30; refine (HC3 _).out.mono ?_; rintro x wb ⟨rfl, hbb⟩; have O5 := hide (O4.out.stay hbb); clear hbb O4 HC3)
      | (refine st_store rfl (.tmp 1) (.tmp 27) rfl w.heap.size (by rfl) a o L.length ac ol oc _ m 60 (by rfl) _ (by rfl) O5.out.s0 ?_; intro wz hgz hkz; have O6 := hide (O5.out.own hgz hkz); clear c4 zz zz0; have c4 := cells_of O6.out.s0 4; simp [sA] at c4; have zz := O6.out.size; have zz0 := Nat.lt_of_succ_lt zz; clear hgz hkz O5))
    go_wp2_with fail
    have HJ0 := hide (O6.out.stay ((Below.refl _ _).alloc (Nat.le_refl _) (.cells (valA (List.replicate 19 0)) 3)))
    go_loopg [9] 0 (fun gk v9 wx => gk = 0 ∧ v9 = .int .i64 0 ∧ Hid (Two w wx (sA a L.length ac (p : Int) o ol oc m 60) #[.slice none 0 0, .int .i64 0, .slice none 0 0, .int .i64 0, .int .i64 0]))
    case atStart => exact ⟨rfl, rfl, HJ0.out⟩
    case round =>
      obtain ⟨rfl, rfl, OJ⟩ := hrel
      clear c4 zz zz0 HJ0 O6
      have c4' := cells_of OJ.out.s0 4
      simp [sA] at c4'
      have hy := OJ.out.size
      have hy0 := Nat.lt_of_succ_lt hy
      go_upto_region 18 with fail
      go_upto_region 19 with (first
        | (refine st_load rfl (.tmp 1) rfl w.heap.size (by rfl) a o L.length ac ol oc (p : Int) m 60 (0, 0) OJ.out.s0 ?_)
        | (go_at_call 81; refine (HLE _ _ _ _ _).out.mono ?_; rintro x wl ⟨rfl, hbl⟩; have O5 := hide (OJ.out.stay hbl); clear hbl OJ)
        | (refine st_store rfl (.tmp 1) (.tmp 86) rfl w.heap.size (by rfl) a o L.length ac ol oc _ m 60 (by rfl) _ (by rfl) O5.out.s0 ?_; intro wz hgz hkz; have O6 := hide (O5.out.own hgz hkz); clear c4' hy hy0; have c4 := cells_of O6.out.s0 4; simp [sA] at c4; have zz := O6.out.size; have zz0 := Nat.lt_of_succ_lt zz; clear hgz hkz O5))
      go_wp2_with (first
        | (refine st_load rfl (.tmp 1) rfl w.heap.size (by rfl) a o L.length ac ol oc _ m 60 (0, 0) O6.out.s0 ?_)
        | (refine st_store rfl (.tmp 2) (.tmp 91) rfl (w.heap.size + 1) (by rfl) a o L.length ac ol oc _ m 60 (by rfl) _ (by rfl) O6.out.s1 ?_; intro wy hgy hky; have O9 := hide (O6.out.res hgy hky); have K9 := hide hky; clear hgy hky))
      refine bodyPost_ret (v := .tuple #[.agg (sA a L.length ac (p : Int) o ol oc m 60), .slice none 0 0, .slice none 0 0]) ?_ rfl (⟨O9.out.below, .inr ⟨60, _, by decide, by decide, HR.out, rfl⟩⟩)
      have hld := st_run O9.out.s1
      simp [results, asAddr, hld]
  have hx := iTk_lt (lb_le HB.out) h1
  obtain ⟨hq1, hq1l, -⟩ := iTk_got h1
  have hq1T : q1 ≤ L.length := by omega
  have HC1 := fun w' (hi' : Ints lo hi w' a L) => hide (rbits_got (o := o) (ac := ac) (ol := ol) (oc := oc) (m := m) hL HB.out hi' (by decide) h1 5 rfl)
  rw [h1] at hR
  replace hR : R = iThen (iThen (iTk (lb L) L.length q1 5) fun q y => iThen (iTk (lb L) L.length q 4) fun q z => if 286 < x + 257 ∨ 30 < y + 1 then .error 63 else .ok (q, (x, y, z))) K := hR
  rcases h2 : iTk (lb L) L.length q1 5 with e | ⟨q2, y⟩
  · obtain rfl := iTk_e h2
    rw [h2] at hR
    have HR : Hid (R = .error 60) := hR
    have HC2 := fun w' => hide (rbits_bad (a := a) (o := o) (ac := ac) (ol := ol) (oc := oc) (m := m) (w := w') hq1T (by decide) h2 5 rfl)
    have HC3 := fun w' => hide (rbits_no a o L.length ac ol oc q1 4 m 60 w' (by decide) hq1T (.inl (by decide)))
    have HLE := fun fa fl fc many w' => HLE60 fa fl fc (q1 : Int) many w'
    clear hR h2 h1 HLE60 HLE63 HK hq1 hq1l
    go_enter Tryz.func60, Tryz.ntmps60
    go_upto_region 4 with fail
    generalize ((w.alloc (.cells #[.slice a L.length ac, .int .i64 (p : Int), .slice o ol oc, .int .i64 m, .int .i64 0] 63)).alloc (.cells #[.slice none 0 0, .int .i64 0, .slice none 0 0, .int .i64 0, .int .i64 0] 63)) = w0 at HT ⊢
    go_upto_region 5 with (first
      | (refine st_load rfl (.tmp 1) rfl w.heap.size (by rfl) a o L.length ac ol oc _ m 0 (0, 0) HT.out.s0 ?_)
      | (go_at_call 30; refine (HC1 _ (HL.out.stay HT.out.below)).out.mono ?_; rintro x wb ⟨rfl, hbb⟩; have O1 := hide (HT.out.stay hbb); clear hbb HT HC1)
      | (refine st_store rfl (.tmp 1) (.tmp 17) rfl w.heap.size (by rfl) a o L.length ac ol oc _ m 0 (by rfl) _ (by rfl) O1.out.s0 ?_; intro wz hgz hkz; have O2 := hide (O1.out.own hgz hkz); have c4 := cells_of O2.out.s0 4; simp [sA] at c4; have zz := O2.out.size; have zz0 := Nat.lt_of_succ_lt zz; clear hgz hkz O1))
    go_upto_region 6 with (first
      | (refine st_load rfl (.tmp 1) rfl w.heap.size (by rfl) a o L.length ac ol oc _ m 0 (0, 0) O2.out.s0 ?_)
      | (go_at_call 30; refine (HC2 _).out.mono ?_; rintro x wb ⟨rfl, hbb⟩; have O3 := hide (O2.out.stay hbb); clear hbb O2 HC2)
      | (refine st_store rfl (.tmp 1) (.tmp 22) rfl w.heap.size (by rfl) a o L.length ac ol oc _ m 60 (by rfl) _ (by rfl) O3.out.s0 ?_; intro wz hgz hkz; have O4 := hide (O3.out.own hgz hkz); clear c4 zz zz0; have c4 := cells_of O4.out.s0 4; simp [sA] at c4; have zz := O4.out.size; have zz0 := Nat.lt_of_succ_lt zz; clear hgz hkz O3))
    go_upto_region 7 with (first
      | (refine st_load rfl (.tmp 1) rfl w.heap.size (by rfl) a o L.length ac ol oc _ m 60 (0, 0) O4.out.s0 ?_)
      | (go_at_call 30; refine (HC3 _).out.mono ?_; rintro x wb ⟨rfl, hbb⟩; have O5 := hide (O4.out.stay hbb); clear hbb O4 HC3)
      | (refine st_store rfl (.tmp 1) (.tmp 27) rfl w.heap.size (by rfl) a o L.length ac ol oc _ m 60 (by rfl) _ (by rfl) O5.out.s0 ?_; intro wz hgz hkz; have O6 := hide (O5.out.own hgz hkz); clear c4 zz zz0; have c4 := cells_of O6.out.s0 4; simp [sA] at c4; have zz := O6.out.size; have zz0 := Nat.lt_of_succ_lt zz; clear hgz hkz O5))
    go_wp2_with fail
    have HJ0 := hide (O6.out.stay ((Below.refl _ _).alloc (Nat.le_refl _) (.cells (valA (List.replicate 19 0)) 3)))
    go_loopg [9] 0 (fun gk v9 wx => gk = 0 ∧ v9 = .int .i64 0 ∧ Hid (Two w wx (sA a L.length ac (q1 : Int) o ol oc m 60) #[.slice none 0 0, .int .i64 0, .slice none 0 0, .int .i64 0, .int .i64 0]))
    case atStart => exact ⟨rfl, rfl, HJ0.out⟩
    case round =>
      obtain ⟨rfl, rfl, OJ⟩ := hrel
      clear c4 zz zz0 HJ0 O6
      have c4' := cells_of OJ.out.s0 4
      simp [sA] at c4'
      have hy := OJ.out.size
      have hy0 := Nat.lt_of_succ_lt hy
      go_upto_region 18 with fail
      go_upto_region 19 with (first
        | (refine st_load rfl (.tmp 1) rfl w.heap.size (by rfl) a o L.length ac ol oc (q1 : Int) m 60 (0, 0) OJ.out.s0 ?_)
        | (go_at_call 81; refine (HLE _ _ _ _ _).out.mono ?_; rintro x wl ⟨rfl, hbl⟩; have O5 := hide (OJ.out.stay hbl); clear hbl OJ)
        | (refine st_store rfl (.tmp 1) (.tmp 86) rfl w.heap.size (by rfl) a o L.length ac ol oc _ m 60 (by rfl) _ (by rfl) O5.out.s0 ?_; intro wz hgz hkz; have O6 := hide (O5.out.own hgz hkz); clear c4' hy hy0; have c4 := cells_of O6.out.s0 4; simp [sA] at c4; have zz := O6.out.size; have zz0 := Nat.lt_of_succ_lt zz; clear hgz hkz O5))
      go_wp2_with (first
        | (refine st_load rfl (.tmp 1) rfl w.heap.size (by rfl) a o L.length ac ol oc _ m 60 (0, 0) O6.out.s0 ?_)
        | (refine st_store rfl (.tmp 2) (.tmp 91) rfl (w.heap.size + 1) (by rfl) a o L.length ac ol oc _ m 60 (by rfl) _ (by rfl) O6.out.s1 ?_; intro wy hgy hky; have O9 := hide (O6.out.res hgy hky); have K9 := hide hky; clear hgy hky))
      refine bodyPost_ret (v := .tuple #[.agg (sA a L.length ac (q1 : Int) o ol oc m 60), .slice none 0 0, .slice none 0 0]) ?_ rfl (⟨O9.out.below, .inr ⟨60, _, by decide, by decide, HR.out, rfl⟩⟩)
      have hld := st_run O9.out.s1
      simp [results, asAddr, hld]
  have hy := iTk_lt (lb_le HB.out) h2
  obtain ⟨hq2, hq2l, -⟩ := iTk_got h2
  have hq2T : q2 ≤ L.length := by omega
  have HC2 := fun w' (hi' : Ints lo hi w' a L) => hide (rbits_got (o := o) (ac := ac) (ol := ol) (oc := oc) (m := m) hL HB.out hi' (by decide) h2 5 rfl)
  rw [h2] at hR
  replace hR : R = iThen (iThen (iTk (lb L) L.length q2 4) fun q z => if 286 < x + 257 ∨ 30 < y + 1 then .error 63 else .ok (q, (x, y, z))) K := hR
  rcases h3 : iTk (lb L) L.length q2 4 with e | ⟨q3, z⟩
  · obtain rfl := iTk_e h3
    rw [h3] at hR
    have HR : Hid (R = .error 60) := hR
    have HC3 := fun w' => hide (rbits_bad (a := a) (o := o) (ac := ac) (ol := ol) (oc := oc) (m := m) (w := w') hq2T (by decide) h3 4 rfl)
    have HLE := fun fa fl fc many w' => HLE60 fa fl fc (q2 : Int) many w'
    clear hR h3 h2 h1 HLE60 HLE63 HK hq1 hq1l hq2 hq2l
    go_enter Tryz.func60, Tryz.ntmps60
    go_upto_region 4 with fail
    generalize ((w.alloc (.cells #[.slice a L.length ac, .int .i64 (p : Int), .slice o ol oc, .int .i64 m, .int .i64 0] 63)).alloc (.cells #[.slice none 0 0, .int .i64 0, .slice none 0 0, .int .i64 0, .int .i64 0] 63)) = w0 at HT ⊢
    go_upto_region 5 with (first
      | (refine st_load rfl (.tmp 1) rfl w.heap.size (by rfl) a o L.length ac ol oc _ m 0 (0, 0) HT.out.s0 ?_)
      | (go_at_call 30; refine (HC1 _ (HL.out.stay HT.out.below)).out.mono ?_; rintro x wb ⟨rfl, hbb⟩; have O1 := hide (HT.out.stay hbb); clear hbb HT HC1)
      | (refine st_store rfl (.tmp 1) (.tmp 17) rfl w.heap.size (by rfl) a o L.length ac ol oc _ m 0 (by rfl) _ (by rfl) O1.out.s0 ?_; intro wz hgz hkz; have O2 := hide (O1.out.own hgz hkz); have c4 := cells_of O2.out.s0 4; simp [sA] at c4; have zz := O2.out.size; have zz0 := Nat.lt_of_succ_lt zz; clear hgz hkz O1))
    go_upto_region 6 with (first
      | (refine st_load rfl (.tmp 1) rfl w.heap.size (by rfl) a o L.length ac ol oc _ m 0 (0, 0) O2.out.s0 ?_)
      | (go_at_call 30; refine (HC2 _ (HL.out.stay O2.out.below)).out.mono ?_; rintro x wb ⟨rfl, hbb⟩; have O3 := hide (O2.out.stay hbb); clear hbb O2 HC2)
      | (refine st_store rfl (.tmp 1) (.tmp 22) rfl w.heap.size (by rfl) a o L.length ac ol oc _ m 0 (by rfl) _ (by rfl) O3.out.s0 ?_; intro wz hgz hkz; have O4 := hide (O3.out.own hgz hkz); clear c4 zz zz0; have c4 := cells_of O4.out.s0 4; simp [sA] at c4; have zz := O4.out.size; have zz0 := Nat.lt_of_succ_lt zz; clear hgz hkz O3))
    go_upto_region 7 with (first
      | (refine st_load rfl (.tmp 1) rfl w.heap.size (by rfl) a o L.length ac ol oc _ m 0 (0, 0) O4.out.s0 ?_)
      | (go_at_call 30; refine (HC3 _).out.mono ?_; rintro x wb ⟨rfl, hbb⟩; have O5 := hide (O4.out.stay hbb); clear hbb O4 HC3)
      | (refine st_store rfl (.tmp 1) (.tmp 27) rfl w.heap.size (by rfl) a o L.length ac ol oc _ m 60 (by rfl) _ (by rfl) O5.out.s0 ?_; intro wz hgz hkz; have O6 := hide (O5.out.own hgz hkz); clear c4 zz zz0; have c4 := cells_of O6.out.s0 4; simp [sA] at c4; have zz := O6.out.size; have zz0 := Nat.lt_of_succ_lt zz; clear hgz hkz O5))
    go_wp2_with fail
    have HJ0 := hide (O6.out.stay ((Below.refl _ _).alloc (Nat.le_refl _) (.cells (valA (List.replicate 19 0)) 3)))
    go_loopg [9] 0 (fun gk v9 wx => gk = 0 ∧ v9 = .int .i64 0 ∧ Hid (Two w wx (sA a L.length ac (q2 : Int) o ol oc m 60) #[.slice none 0 0, .int .i64 0, .slice none 0 0, .int .i64 0, .int .i64 0]))
    case atStart => exact ⟨rfl, rfl, HJ0.out⟩
    case round =>
      obtain ⟨rfl, rfl, OJ⟩ := hrel
      clear c4 zz zz0 HJ0 O6
      have c4' := cells_of OJ.out.s0 4
      simp [sA] at c4'
      have hy := OJ.out.size
      have hy0 := Nat.lt_of_succ_lt hy
      go_upto_region 18 with fail
      go_upto_region 19 with (first
        | (refine st_load rfl (.tmp 1) rfl w.heap.size (by rfl) a o L.length ac ol oc (q2 : Int) m 60 (0, 0) OJ.out.s0 ?_)
        | (go_at_call 81; refine (HLE _ _ _ _ _).out.mono ?_; rintro x wl ⟨rfl, hbl⟩; have O5 := hide (OJ.out.stay hbl); clear hbl OJ)
        | (refine st_store rfl (.tmp 1) (.tmp 86) rfl w.heap.size (by rfl) a o L.length ac ol oc _ m 60 (by rfl) _ (by rfl) O5.out.s0 ?_; intro wz hgz hkz; have O6 := hide (O5.out.own hgz hkz); clear c4' hy hy0; have c4 := cells_of O6.out.s0 4; simp [sA] at c4; have zz := O6.out.size; have zz0 := Nat.lt_of_succ_lt zz; clear hgz hkz O5))
      go_wp2_with (first
        | (refine st_load rfl (.tmp 1) rfl w.heap.size (by rfl) a o L.length ac ol oc _ m 60 (0, 0) O6.out.s0 ?_)
        | (refine st_store rfl (.tmp 2) (.tmp 91) rfl (w.heap.size + 1) (by rfl) a o L.length ac ol oc _ m 60 (by rfl) _ (by rfl) O6.out.s1 ?_; intro wy hgy hky; have O9 := hide (O6.out.res hgy hky); have K9 := hide hky; clear hgy hky))
      refine bodyPost_ret (v := .tuple #[.agg (sA a L.length ac (q2 : Int) o ol oc m 60), .slice none 0 0, .slice none 0 0]) ?_ rfl (⟨O9.out.below, .inr ⟨60, _, by decide, by decide, HR.out, rfl⟩⟩)
      have hld := st_run O9.out.s1
      simp [results, asAddr, hld]
  have hz := iTk_lt (lb_le HB.out) h3
  obtain ⟨hq3, hq3l, -⟩ := iTk_got h3
  have hq3T : q3 ≤ L.length := by omega
  have HC3 := fun w' (hi' : Ints lo hi w' a L) => hide (rbits_got (o := o) (ac := ac) (ol := ol) (oc := oc) (m := m) hL HB.out hi' (by decide) h3 4 rfl)
  rw [h3] at hR
  replace hR : R = iThen (if 286 < x + 257 ∨ 30 < y + 1 then .error 63 else .ok (q3, (x, y, z))) K := hR
  have HF := fun P w' => hide (rfails_c a o L.length ac ol oc P m 0 63 w')
  clear h1 h2 h3 hq1 hq1l hq2 hq2l hq3 hq3l
  by_cases hXY : 286 < x + 257 ∨ 30 < y + 1
  · rw [if_pos hXY] at hR
    have HR : Hid (R = .error 63) := hR
    have HLE := fun fa fl fc many w' => HLE63 fa fl fc (q3 : Int) many w'
    have hz4 : (0 : Int) < (z : Int) + 4 := by omega
    clear hR HLE60 HLE63 HK
    by_cases hX : 286 < x + 257
    case' pos => have hX' : (286 : Int) < (x : Int) + 257 := (by omega)
    case' neg => have hX' : ¬ (286 : Int) < (x : Int) + 257 := (by omega); have hY' : (30 : Int) < (y : Int) + 1 := (by omega)
    all_goals clear hXY
    all_goals
      go_enter Tryz.func60, Tryz.ntmps60
      go_upto_region 4 with fail
      generalize ((w.alloc (.cells #[.slice a L.length ac, .int .i64 (p : Int), .slice o ol oc, .int .i64 m, .int .i64 0] 63)).alloc (.cells #[.slice none 0 0, .int .i64 0, .slice none 0 0, .int .i64 0, .int .i64 0] 63)) = w0 at HT ⊢
      go_upto_region 5 with (first
        | (refine st_load rfl (.tmp 1) rfl w.heap.size (by rfl) a o L.length ac ol oc _ m 0 (0, 0) HT.out.s0 ?_)
        | (go_at_call 30; refine (HC1 _ (HL.out.stay HT.out.below)).out.mono ?_; rintro x wb ⟨rfl, hbb⟩; have O1 := hide (HT.out.stay hbb); clear hbb HT HC1)
        | (refine st_store rfl (.tmp 1) (.tmp 17) rfl w.heap.size (by rfl) a o L.length ac ol oc _ m 0 (by rfl) _ (by rfl) O1.out.s0 ?_; intro wz hgz hkz; have O2 := hide (O1.out.own hgz hkz); have c4 := cells_of O2.out.s0 4; simp [sA] at c4; have zz := O2.out.size; have zz0 := Nat.lt_of_succ_lt zz; clear hgz hkz O1))
      go_upto_region 6 with (first
        | (refine st_load rfl (.tmp 1) rfl w.heap.size (by rfl) a o L.length ac ol oc _ m 0 (0, 0) O2.out.s0 ?_)
        | (go_at_call 30; refine (HC2 _ (HL.out.stay O2.out.below)).out.mono ?_; rintro x wb ⟨rfl, hbb⟩; have O3 := hide (O2.out.stay hbb); clear hbb O2 HC2)
        | (refine st_store rfl (.tmp 1) (.tmp 22) rfl w.heap.size (by rfl) a o L.length ac ol oc _ m 0 (by rfl) _ (by rfl) O3.out.s0 ?_; intro wz hgz hkz; have O4 := hide (O3.out.own hgz hkz); clear c4 zz zz0; have c4 := cells_of O4.out.s0 4; simp [sA] at c4; have zz := O4.out.size; have zz0 := Nat.lt_of_succ_lt zz; clear hgz hkz O3))
      go_upto_region 7 with (first
        | (refine st_load rfl (.tmp 1) rfl w.heap.size (by rfl) a o L.length ac ol oc _ m 0 (0, 0) O4.out.s0 ?_)
        | (go_at_call 30; refine (HC3 _ (HL.out.stay O4.out.below)).out.mono ?_; rintro x wb ⟨rfl, hbb⟩; have O5 := hide (O4.out.stay hbb); clear hbb O4 HC3)
        | (refine st_store rfl (.tmp 1) (.tmp 27) rfl w.heap.size (by rfl) a o L.length ac ol oc _ m 0 (by rfl) _ (by rfl) O5.out.s0 ?_; intro wz hgz hkz; have O6 := hide (O5.out.own hgz hkz); clear c4 zz zz0; have c4 := cells_of O6.out.s0 4; simp [sA] at c4; have zz := O6.out.size; have zz0 := Nat.lt_of_succ_lt zz; clear hgz hkz O5))
      go_upto_region 9 with (first
        | (refine st_load rfl (.tmp 1) rfl w.heap.size (by rfl) a o L.length ac ol oc _ m 0 (0, 0) O6.out.s0 ?_)
        | (go_at_call 36; refine (HF _ _).out.mono ?_; rintro x wf ⟨rfl, hbf⟩; have O7 := hide (O6.out.stay hbf); clear hbf O6)
        | (refine st_store rfl (.tmp 1) (.tmp 43) rfl w.heap.size (by rfl) a o L.length ac ol oc _ m 63 (by rfl) _ (by rfl) O7.out.s0 ?_; intro wz hgz hkz; have O8 := hide (O7.out.own hgz hkz); clear c4 zz zz0; have c4 := cells_of O8.out.s0 4; simp [sA] at c4; have zz := O8.out.size; have zz0 := Nat.lt_of_succ_lt zz; clear hgz hkz O7))
      go_wp2_with fail
      have HJ0 := hide (O8.out.stay ((Below.refl _ _).alloc (Nat.le_refl _) (.cells (valA (List.replicate 19 0)) 3)))
      go_loopg [9] 0 (fun gk v9 wx => gk = 0 ∧ v9 = .int .i64 0 ∧ Hid (Two w wx (sA a L.length ac (q3 : Int) o ol oc m 63) #[.slice none 0 0, .int .i64 0, .slice none 0 0, .int .i64 0, .int .i64 0]))
      case atStart => exact ⟨rfl, rfl, HJ0.out⟩
      case round =>
        obtain ⟨rfl, rfl, OJ⟩ := hrel
        clear c4 zz zz0 HJ0 O8
        have c4' := cells_of OJ.out.s0 4
        simp [sA] at c4'
        have hy := OJ.out.size
        have hy0 := Nat.lt_of_succ_lt hy
        go_upto_region 18 with fail
        go_upto_region 19 with (first
          | (refine st_load rfl (.tmp 1) rfl w.heap.size (by rfl) a o L.length ac ol oc (q3 : Int) m 63 (0, 0) OJ.out.s0 ?_)
          | (go_at_call 81; refine (HLE _ _ _ _ _).out.mono ?_; rintro x wl ⟨rfl, hbl⟩; have O5 := hide (OJ.out.stay hbl); clear hbl OJ)
          | (refine st_store rfl (.tmp 1) (.tmp 86) rfl w.heap.size (by rfl) a o L.length ac ol oc _ m 63 (by rfl) _ (by rfl) O5.out.s0 ?_; intro wz hgz hkz; have O6 := hide (O5.out.own hgz hkz); clear c4' hy hy0; have c4 := cells_of O6.out.s0 4; simp [sA] at c4; have zz := O6.out.size; have zz0 := Nat.lt_of_succ_lt zz; clear hgz hkz O5))
        go_wp2_with (first
          | (refine st_load rfl (.tmp 1) rfl w.heap.size (by rfl) a o L.length ac ol oc _ m 63 (0, 0) O6.out.s0 ?_)
          | (refine st_store rfl (.tmp 2) (.tmp 91) rfl (w.heap.size + 1) (by rfl) a o L.length ac ol oc _ m 63 (by rfl) _ (by rfl) O6.out.s1 ?_; intro wy hgy hky; have O9 := hide (O6.out.res hgy hky); have K9 := hide hky; clear hgy hky))
        refine bodyPost_ret (v := .tuple #[.agg (sA a L.length ac (q3 : Int) o ol oc m 63), .slice none 0 0, .slice none 0 0]) ?_ rfl (⟨O9.out.below, .inr ⟨63, _, by decide, by decide, HR.out, rfl⟩⟩)
        have hld := st_run O9.out.s1
        simp [results, asAddr, hld]
  rw [if_neg hXY] at hR
  replace hR : R = K q3 (x, y, z) := hR
  rw [HK.out] at hR
  have hX' : ¬ (286 : Int) < (x : Int) + 257 := by omega
  have hY' : ¬ (30 : Int) < (y : Int) + 1 := by omega
  obtain ⟨many, hmany⟩ : ∃ many, many = x + 258 + y := ⟨_, rfl⟩
  replace hR : R = iThen (iInn (lb L) L.length q3 z) fun q first => iThen (iAll first many (lb L) L.length q) fun q all => if ln all 256 = 0 ∨ ¬ check (all.take (x + 257)) true = 0 ∨ ¬ check (all.drop (x + 257)) true = 0 then .error 63 else .ok (q, (all.take (x + 257), all.drop (x + 257))) := by rw [hmany]; exact hR
  have HRK := hide hR
  clear hR HK
  go_enter Tryz.func60, Tryz.ntmps60
  go_upto_region 4 with fail
  generalize ((w.alloc (.cells #[.slice a L.length ac, .int .i64 (p : Int), .slice o ol oc, .int .i64 m, .int .i64 0] 63)).alloc (.cells #[.slice none 0 0, .int .i64 0, .slice none 0 0, .int .i64 0, .int .i64 0] 63)) = w0 at HT ⊢
  go_upto_region 5 with (first
    | (refine st_load rfl (.tmp 1) rfl w.heap.size (by rfl) a o L.length ac ol oc _ m 0 (0, 0) HT.out.s0 ?_)
    | (go_at_call 30; refine (HC1 _ (HL.out.stay HT.out.below)).out.mono ?_; rintro x wb ⟨rfl, hbb⟩; have O1 := hide (HT.out.stay hbb); clear hbb HT HC1)
    | (refine st_store rfl (.tmp 1) (.tmp 17) rfl w.heap.size (by rfl) a o L.length ac ol oc _ m 0 (by rfl) _ (by rfl) O1.out.s0 ?_; intro wz hgz hkz; have O2 := hide (O1.out.own hgz hkz); have c4 := cells_of O2.out.s0 4; simp [sA] at c4; have zz := O2.out.size; have zz0 := Nat.lt_of_succ_lt zz; clear hgz hkz O1))
  go_upto_region 6 with (first
    | (refine st_load rfl (.tmp 1) rfl w.heap.size (by rfl) a o L.length ac ol oc _ m 0 (0, 0) O2.out.s0 ?_)
    | (go_at_call 30; refine (HC2 _ (HL.out.stay O2.out.below)).out.mono ?_; rintro x wb ⟨rfl, hbb⟩; have O3 := hide (O2.out.stay hbb); clear hbb O2 HC2)
    | (refine st_store rfl (.tmp 1) (.tmp 22) rfl w.heap.size (by rfl) a o L.length ac ol oc _ m 0 (by rfl) _ (by rfl) O3.out.s0 ?_; intro wz hgz hkz; have O4 := hide (O3.out.own hgz hkz); clear c4 zz zz0; have c4 := cells_of O4.out.s0 4; simp [sA] at c4; have zz := O4.out.size; have zz0 := Nat.lt_of_succ_lt zz; clear hgz hkz O3))
  go_upto_region 7 with (first
    | (refine st_load rfl (.tmp 1) rfl w.heap.size (by rfl) a o L.length ac ol oc _ m 0 (0, 0) O4.out.s0 ?_)
    | (go_at_call 30; refine (HC3 _ (HL.out.stay O4.out.below)).out.mono ?_; rintro x wb ⟨rfl, hbb⟩; have O5 := hide (O4.out.stay hbb); clear hbb O4 HC3)
    | (refine st_store rfl (.tmp 1) (.tmp 27) rfl w.heap.size (by rfl) a o L.length ac ol oc _ m 0 (by rfl) _ (by rfl) O5.out.s0 ?_; intro wz hgz hkz; have O6 := hide (O5.out.own hgz hkz); clear c4 zz zz0; have c4 := cells_of O6.out.s0 4; simp [sA] at c4; have zz := O6.out.size; have zz0 := Nat.lt_of_succ_lt zz; clear hgz hkz O5))
  go_wp2_with fail
  obtain ⟨gF, hgF⟩ : ∃ g, g = wz.heap.size := ⟨_, rfl⟩
  have OM := hide (O6.out.stay ((Below.refl _ _).alloc (Nat.le_refl _) (.cells (valA (List.replicate 19 0)) 3)))
  have RM : Hid ((wz.alloc (.cells (valA (List.replicate 19 0)) 3)).heap[gF]? = some (.cells (valA (List.replicate 19 0)) 3 (0, 0))) := by rw [hgF]; exact heap_new _ _
  have hgw : w.heap.size + 2 ≤ gF := by omega
  rw [← hgF]
  clear c4 O6
  go_loopg [9] (z + 4) (fun gk v9 wx => ∃ (i : Nat) (_ : i + gk = z + 4), v9 = .int .i64 (i : Int) ∧ Hid ((∃ (p' : Nat) (F : List Int), iRd3 (lb L) L.length (z + 4) q3 0 (List.replicate 19 0) = iRd3 (lb L) L.length gk p' i F ∧ p' ≤ L.length ∧ F.length = 19 ∧ Two w wx (sA a L.length ac (p' : Int) o ol oc m 0) #[.slice none 0 0, .int .i64 0, .slice none 0 0, .int .i64 0, .int .i64 0] ∧ wx.heap[gF]? = some (.cells (valA F) 3 (0, 0))) ∨ (∃ p' : Int, R = .error 60 ∧ Two w wx (sA a L.length ac p' o ol oc m 60) #[.slice none 0 0, .int .i64 0, .slice none 0 0, .int .i64 0, .int .i64 0])))
  case atStart => exact ⟨0, by omega, rfl, .inl ⟨q3, List.replicate 19 0, rfl, hq3T, by simp, OM.out, RM.out⟩⟩
  case round =>
    clear OM RM zz zz0 hgF
    obtain ⟨i, hig, rfl, hst⟩ := hrel
    rcases hst.out with ⟨p', F, hrd, hpT, hFl, hO, hrow⟩ | ⟨p', hRE, hO⟩
    case inr =>
      have HR := hide hRE
      have OJ := hide hO
      have HLE := fun fa fl fc many w' => HLE60 fa fl fc p' many w'
      have c4' := cells_of hO.s0 4
      simp [sA] at c4'
      have hy := hO.size
      have hy0 := Nat.lt_of_succ_lt hy
      clear hO hRE hst
      by_cases hlt : i < z + 4
      case' pos => have hlt' : (i : Int) < (z : Int) + 4 := (by omega)
      case' neg => have hlt' : ¬ (i : Int) < (z : Int) + 4 := (by omega)
      all_goals
        go_upto_region 18 with fail
        go_upto_region 19 with (first
          | (refine st_load rfl (.tmp 1) rfl w.heap.size (by rfl) a o L.length ac ol oc p' m 60 (0, 0) OJ.out.s0 ?_)
          | (go_at_call 81; refine (HLE _ _ _ _ _).out.mono ?_; rintro x wl ⟨rfl, hbl⟩; have O5 := hide (OJ.out.stay hbl); clear hbl OJ)
          | (refine st_store rfl (.tmp 1) (.tmp 86) rfl w.heap.size (by rfl) a o L.length ac ol oc _ m 60 (by rfl) _ (by rfl) O5.out.s0 ?_; intro wz hgz hkz; have O6 := hide (O5.out.own hgz hkz); clear c4' hy hy0; have c4 := cells_of O6.out.s0 4; simp [sA] at c4; have zz := O6.out.size; have zz0 := Nat.lt_of_succ_lt zz; clear hgz hkz O5))
        go_wp2_with (first
          | (refine st_load rfl (.tmp 1) rfl w.heap.size (by rfl) a o L.length ac ol oc _ m 60 (0, 0) O6.out.s0 ?_)
          | (refine st_store rfl (.tmp 2) (.tmp 91) rfl (w.heap.size + 1) (by rfl) a o L.length ac ol oc _ m 60 (by rfl) _ (by rfl) O6.out.s1 ?_; intro wy hgy hky; have O9 := hide (O6.out.res hgy hky); have K9 := hide hky; clear hgy hky))
        refine bodyPost_ret (v := .tuple #[.agg (sA a L.length ac p' o ol oc m 60), .slice none 0 0, .slice none 0 0]) ?_ rfl (⟨O9.out.below, .inr ⟨60, _, by decide, by decide, HR.out, rfl⟩⟩)
        have hld := st_run O9.out.s1
        simp [results, asAddr, hld]
    case inl =>
    have OI := hide hO
    have RI := hide hrow
    have HRD := hide hrd
    have hFl' := hide hFl
    have c4 := cells_of hO.s0 4
    simp [sA] at c4
    have zz := hO.size
    have zz0 := Nat.lt_of_succ_lt zz
    clear hO hrow hrd hst hFl
    cases gk with
    | succ g1 =>
      have hlt' : (i : Int) < (z : Int) + 4 := by omega
      have hi19 : i < 19 := by omega
      have hi19' : (i : Int) < 19 := by omega
      have hio := iOrd_lt i hi19
      have HOC : Hid (∀ wq : World, (wq.alloc (.cells (valA (iOrd.map Int.ofNat)) 3)).cell? ⟨wq.heap.size, i, none⟩ = some (.int .i64 ((iOrd.getD i 0 : Nat) : Int))) := fun wq => ord_cell wq i hi19
      obtain ⟨yy, hyy⟩ : ∃ yy, yy = iOrd.getD i 0 := ⟨_, rfl⟩
      rw [← hyy] at HOC hio
      have hio' : (yy : Int) < 19 := by omega
      obtain ⟨cc, hcc⟩ : ∃ c, (valA F)[yy]? = some c := ⟨_, valA_at F (by rw [hFl'.out]; exact hio)⟩
      have HCC := hide hcc
      rcases h4 : iTk (lb L) L.length p' 3 with e | ⟨q4, v⟩
      · obtain rfl := iTk_e h4
        have HRE : Hid (R = .error 60) := by
          rw [HRK.out]; unfold iInn; rw [HRD.out, iRd3, iThen_of_err h4]; exact rfl
        have HC4 := fun w' => hide (rbits_bad (a := a) (o := o) (ac := ac) (ol := ol) (oc := oc) (m := m) (w := w') hpT (by decide) h4 3 rfl)
        clear h4 HRD hyy hcc
        go_upto_region 15 with (first
          | (refine st_load rfl (.tmp 1) rfl w.heap.size (by rfl) a o L.length ac ol oc _ m 0 (0, 0) OI.out.s0 ?_)
          | (go_at_call 30; refine (HC4 _).out.mono ?_; rintro x wb ⟨rfl, hbb⟩; have O3 := hide (OI.out.stay hbb); have R3 := hide ((hbb.block gF (lt_of_block RI.out)).trans RI.out); clear hbb OI RI HC4)
          | (refine st_store rfl (.tmp 1) (.tmp 59) rfl w.heap.size (by rfl) a o L.length ac ol oc _ m 60 (by rfl) _ (by rfl) O3.out.s0 ?_; intro wz hgz hkz; have O4 := hide (O3.out.own hgz hkz); clear c4 zz zz0; have c4 := cells_of O4.out.s0 4; simp [sA] at c4; have zz := O4.out.size; have zz0 := Nat.lt_of_succ_lt zz; have R4 := hide (hkz.heap R3.out (by omega)); clear hgz hkz O3))
        go_wp2_with (go_at_call 79; refine (rOrder_c _).mono ?_; rintro x wo ⟨rfl, rfl⟩; have t1 := HOC.out wz; have r1 := heap_old (o := .cells (valA (iOrd.map Int.ofNat)) 3) R4.out; have c1 := cells_of r1 yy; rw [HCC.out] at c1; have f1 := free_of r1 yy; have y1 := lt_of_block r1; clear r1)
        go_roundg g1
        case measure => omega
        case rel => exact ⟨i + 1, by omega, by go_num, .inr ⟨_, HRE.out, two_put O4.out hgw⟩⟩
      · have hv := iTk_lt (lb_le HB.out) h4
        obtain ⟨hq4, hq4l, -⟩ := iTk_got h4
        have hq4T : q4 ≤ L.length := by omega
        have HRE : Hid (iRd3 (lb L) L.length (z + 4) q3 0 (List.replicate 19 0) = iRd3 (lb L) L.length g1 q4 (i + 1) (F.set yy (v : Int))) := by rw [HRD.out, iRd3, iThen_of_ok h4, hyy]; exact rfl
        have HC4 := fun w' (hi' : Ints lo hi w' a L) => hide (rbits_got (o := o) (ac := ac) (ol := ol) (oc := oc) (m := m) hL HB.out hi' (by decide) h4 3 rfl)
        clear h4 HRD hyy hcc hq4 hq4l
        go_upto_region 15 with (first
          | (refine st_load rfl (.tmp 1) rfl w.heap.size (by rfl) a o L.length ac ol oc _ m 0 (0, 0) OI.out.s0 ?_)
          | (go_at_call 30; refine (HC4 _ (HL.out.stay OI.out.below)).out.mono ?_; rintro x wb ⟨rfl, hbb⟩; have O3 := hide (OI.out.stay hbb); have R3 := hide ((hbb.block gF (lt_of_block RI.out)).trans RI.out); clear hbb OI RI HC4)
          | (refine st_store rfl (.tmp 1) (.tmp 59) rfl w.heap.size (by rfl) a o L.length ac ol oc _ m 0 (by rfl) _ (by rfl) O3.out.s0 ?_; intro wz hgz hkz; have O4 := hide (O3.out.own hgz hkz); clear c4 zz zz0; have c4 := cells_of O4.out.s0 4; simp [sA] at c4; have zz := O4.out.size; have zz0 := Nat.lt_of_succ_lt zz; have R4 := hide (hkz.heap R3.out (by omega)); clear hgz hkz O3))
        go_wp2_with (go_at_call 79; refine (rOrder_c _).mono ?_; rintro x wo ⟨rfl, rfl⟩; have t1 := HOC.out wz; have r1 := heap_old (o := .cells (valA (iOrd.map Int.ofNat)) 3) R4.out; have c1 := cells_of r1 yy; rw [HCC.out] at c1; have f1 := free_of r1 yy; have y1 := lt_of_block r1; clear r1)
        go_roundg g1
        case measure => omega
        case rel => exact ⟨i + 1, by omega, by go_num, .inl ⟨q4, F.set yy (v : Int), HRE.out, hq4T, by rw [List.length_set]; exact hFl'.out, two_put O4.out hgw, row_put R4.out⟩⟩
    | zero =>
      obtain rfl : i = z + 4 := by omega
      have hlt' : ¬ ((z : Int) + 4 < (z : Int) + 4) := by omega
      have hFI : Ints 0 wr.heap.size wr (some ⟨gF, 0, none⟩) F := (ints_at RI.out).wide (Nat.zero_le _) (lt_of_block RI.out)
      have hCk := check_c wr.heap.size (some ⟨gF, 0, none⟩) 19 F false wr hFI
      rw [hFl'.out] at hCk
      have HRK2 : Hid (R = iThen (if ¬ check F false = 0 then .error 63 else .ok (p', F)) fun q first => iThen (iAll first many (lb L) L.length q) fun q all => if ln all 256 = 0 ∨ ¬ check (all.take (x + 257)) true = 0 ∨ ¬ check (all.drop (x + 257)) true = 0 then .error 63 else .ok (q, (all.take (x + 257), all.drop (x + 257)))) := by
        rw [HRK.out]; unfold iInn; rw [HRD.out, iRd3]; exact rfl
      clear HRK HRD
      by_cases hck : check F false = 0
      case neg =>
        have HR : Hid (R = .error 63) := by rw [HRK2.out, if_pos hck]; exact rfl
        have HLE := fun fa fl fc many w' => HLE63 fa fl fc (p' : Int) many w'
        generalize check F false = E at hCk hck
        have HCk := hide hCk
        clear hCk HRK2 hFI RI
        go_upto_region 17 with (go_at_call 80; refine HCk.out.mono ?_; rintro x wc ⟨rfl, hwc⟩; obtain rfl : wr = wc := hwc.symm)
        go_upto_region 18 with (first
          | (refine st_load rfl (.tmp 1) rfl w.heap.size (by rfl) a o L.length ac ol oc _ m 0 (0, 0) OI.out.s0 ?_)
          | (go_at_call 36; refine (HF _ _).out.mono ?_; rintro x wf ⟨rfl, hbf⟩; have O7 := hide (OI.out.stay hbf); clear hbf OI)
          | (refine st_store rfl (.tmp 1) (.tmp 77) rfl w.heap.size (by rfl) a o L.length ac ol oc _ m 63 (by rfl) _ (by rfl) O7.out.s0 ?_; intro wz hgz hkz; have O8 := hide (O7.out.own hgz hkz); clear c4 zz zz0; have c4 := cells_of O8.out.s0 4; simp [sA] at c4; have zz := O8.out.size; have zz0 := Nat.lt_of_succ_lt zz; clear hgz hkz O7))
        have OJ := O8
        have c4' := c4
        have hy := zz
        have hy0 := zz0
        clear c4 zz zz0 O8
        go_upto_region 19 with (first
          | (refine st_load rfl (.tmp 1) rfl w.heap.size (by rfl) a o L.length ac ol oc (p' : Int) m 63 (0, 0) OJ.out.s0 ?_)
          | (go_at_call 81; refine (HLE _ _ _ _ _).out.mono ?_; rintro x wl ⟨rfl, hbl⟩; have O5 := hide (OJ.out.stay hbl); clear hbl OJ)
          | (refine st_store rfl (.tmp 1) (.tmp 86) rfl w.heap.size (by rfl) a o L.length ac ol oc _ m 63 (by rfl) _ (by rfl) O5.out.s0 ?_; intro wz hgz hkz; have O6 := hide (O5.out.own hgz hkz); clear c4' hy hy0; have c4 := cells_of O6.out.s0 4; simp [sA] at c4; have zz := O6.out.size; have zz0 := Nat.lt_of_succ_lt zz; clear hgz hkz O5))
        go_wp2_with (first
          | (refine st_load rfl (.tmp 1) rfl w.heap.size (by rfl) a o L.length ac ol oc _ m 63 (0, 0) O6.out.s0 ?_)
          | (refine st_store rfl (.tmp 2) (.tmp 91) rfl (w.heap.size + 1) (by rfl) a o L.length ac ol oc _ m 63 (by rfl) _ (by rfl) O6.out.s1 ?_; intro wy hgy hky; have O9 := hide (O6.out.res hgy hky); have K9 := hide hky; clear hgy hky))
        refine bodyPost_ret (v := .tuple #[.agg (sA a L.length ac (p' : Int) o ol oc m 63), .slice none 0 0, .slice none 0 0]) ?_ rfl (⟨O9.out.below, .inr ⟨63, _, by decide, by decide, HR.out, rfl⟩⟩)
        have hld := st_run O9.out.s1
        simp [results, asAddr, hld]
      case pos =>
      replace HRK2 : Hid (R = iThen (iAll F many (lb L) L.length p') fun q all => if ln all 256 = 0 ∨ ¬ check (all.take (x + 257)) true = 0 ∨ ¬ check (all.drop (x + 257)) true = 0 then .error 63 else .ok (q, (all.take (x + 257), all.drop (x + 257)))) := by rw [HRK2.out, if_neg (by simpa using hck)]; exact rfl
      have hLn := rlens_c lo hi wr.heap.size a o (some ⟨gF, 0, none⟩) ac ol oc 19 L F p' many m ((x : Int) + 258 + (y : Int)) (by omega) wr hL HB.out hpT (HL.out.stay OI.out.below) hFI (check_good hck) hFl'.out (by omega) (by omega)
      rw [hFl'.out] at hLn
      rw [hck] at hCk
      have HCk := hide hCk
      clear hCk hFI RI hck
      rcases hA : iAll F many (lb L) L.length p' with e | ⟨q5, all⟩
      · rw [hA] at HRK2
        have HR : Hid (R = .error e) := HRK2.out
        unfold iAll at hA
        rw [hA] at hLn
        have HLn : Hid (Calls Tryz.prog 81 #[.agg (sA a L.length ac (p' : Int) o ol oc m 0), .slice (some ⟨gF, 0, none⟩) 19 19, .int .i64 ((x : Int) + 258 + (y : Int))] wr fun xx w' => ∃ (q : Int) (v : Value), xx = .returned (.tuple #[.agg (sA a L.length ac q o ol oc m e), v]) ∧ 60 ≤ e ∧ e ≤ 65 ∧ Below wr.heap.size wr w') := hLn.mono (by
          rintro xx w' ⟨hb, ⟨q', all', v', he, _⟩ | ⟨e', q', v', h1, h2, he, rfl⟩⟩
          · cases he
          · cases he; exact ⟨q', v', rfl, h1, h2, hb⟩)
        clear hLn hA HRK2
        go_upto_region 18 with (go_at_call 80; refine HCk.out.mono ?_; rintro x wc ⟨rfl, hwc⟩; obtain rfl : wr = wc := hwc.symm)
        go_upto_region 19 with (first
          | (refine st_load rfl (.tmp 1) rfl w.heap.size (by rfl) a o L.length ac ol oc _ m 0 (0, 0) OI.out.s0 ?_)
          | (go_at_call 81; refine HLn.out.mono ?_; rintro x wl ⟨q5, v5, rfl, e1, e2, hbl⟩; have O5 := hide (OI.out.stay hbl); have hne : ¬ e = 0 := (by omega); clear hbl OI)
          | (refine st_store rfl (.tmp 1) (.tmp 86) rfl w.heap.size (by rfl) a o L.length ac ol oc _ m e (by rfl) _ (by rfl) O5.out.s0 ?_; intro wz hgz hkz; have O6 := hide (O5.out.own hgz hkz); clear c4 zz zz0; have c4 := cells_of O6.out.s0 4; simp [sA] at c4; have zz := O6.out.size; have zz0 := Nat.lt_of_succ_lt zz; clear hgz hkz O5))
        go_wp2_with (first
          | (refine st_load rfl (.tmp 1) rfl w.heap.size (by rfl) a o L.length ac ol oc _ m e (0, 0) O6.out.s0 ?_)
          | (refine st_store rfl (.tmp 2) (.tmp 91) rfl (w.heap.size + 1) (by rfl) a o L.length ac ol oc _ m e (by rfl) _ (by rfl) O6.out.s1 ?_; intro wy hgy hky; have O9 := hide (O6.out.res hgy hky); have K9 := hide hky; clear hgy hky))
        refine bodyPost_ret (v := .tuple #[.agg (sA a L.length ac q5 o ol oc m e), .slice none 0 0, .slice none 0 0]) ?_ rfl (⟨O9.out.below, .inr ⟨e, _, e1, e2, HR.out, rfl⟩⟩)
        have hld := st_run O9.out.s1
        simp [results, asAddr, hld]
      rw [hA] at HRK2
      have hgot := iLens_got (first := F) (b := lb L) (T := L.length) (p := p') (by omega : 0 < many) hA
      have hall : all.length = many := hgot.1
      have HRA : Hid (R = if ln all 256 = 0 ∨ ¬ check (all.take (x + 257)) true = 0 ∨ ¬ check (all.drop (x + 257)) true = 0 then .error 63 else .ok (q5, (all.take (x + 257), all.drop (x + 257)))) := HRK2.out
      unfold iAll at hA
      rw [hA] at hLn
      have HLn : Hid (Calls Tryz.prog 81 #[.agg (sA a L.length ac (p' : Int) o ol oc m 0), .slice (some ⟨gF, 0, none⟩) 19 19, .int .i64 ((x : Int) + 258 + (y : Int))] wr fun xx w' => ∃ (g c : Nat), xx = .returned (.tuple #[.agg (sA a L.length ac (q5 : Int) o ol oc m 0), .slice (some ⟨g, 0, none⟩) all.length c]) ∧ Owns w' wr.heap.size (.slice (some ⟨g, 0, none⟩) all.length c) all ∧ Below wr.heap.size wr w') := hLn.mono (by
        rintro xx w' ⟨hb, ⟨q', all', v', he, rfl, hv⟩ | ⟨e', q', v', h1, h2, he, _⟩⟩
        · cases he
          obtain ⟨g, c9, rfl, _, _⟩ := World.ownsRow.form hv (by omega)
          exact ⟨g, c9, rfl, hv, hb⟩
        · cases he)
      clear hLn hA HRK2 hgot
      have hc256 : ∀ (wq : World) (g c base : Nat), Owns wq base (.slice (some ⟨g, 0, none⟩) all.length c) all → wq.cell? ⟨g, 256, none⟩ = some (.int .i64 (ln all 256)) := fun wq g c base hw => by
        rw [World.ownsRow.cellAt hw 256 (by omega)]
        simp [ln, List.getD, show 256 < all.length by omega]
      have HST : Hid (∀ (wq : World) (g c base : Nat), Owns wq base (.slice (some ⟨g, 0, none⟩) all.length c) all → Ints base wq.heap.size wq (some ⟨g, 0, none⟩) (all.take (x + 257)) ∧ Ints base wq.heap.size wq (some ⟨g, x + 257, none⟩) (all.drop (x + 257)) ∧ all.length ≤ c) := fun wq g c base hw => ⟨ints_takeB hw _, ints_dropB hw _, own_cap hw⟩
      have hwW : w.heap.size ≤ wr.heap.size := OI.out.below.size
      obtain ⟨sy, hsy⟩ : ∃ sy, sy = x + 257 := ⟨_, rfl⟩
      obtain ⟨S, hS⟩ : ∃ S, S = all.take (x + 257) := ⟨_, rfl⟩
      obtain ⟨D, hD⟩ : ∃ D, D = all.drop (x + 257) := ⟨_, rfl⟩
      have hSl : S.length = sy := by rw [hS, hsy]; simp; omega
      have hDl : D.length = all.length - sy := by rw [hD, hsy]; simp
      rw [← hS, ← hD, ← hsy] at HST
      rw [← hS, ← hD] at HRA
      have HC256 := hide hc256
      have hsx : (x : Int) + 257 = (sy : Int) := by omega
      have hsyA : (sy : Int) ≤ (all.length : Int) := by omega
      have hsyL : sy < all.length := by omega
      have hsy0 : (256 : Int) < (sy : Int) := by omega
      have hal : (256 : Int) < (all.length : Int) := by omega
      have HSl := hide hSl
      have HDl := hide hDl
      have hCS : ∀ (g c : Nat) (wq : World), Ints 0 wq.heap.size wq (some ⟨g, 0, none⟩) S → Calls Tryz.prog 80 #[.slice (some ⟨g, 0, none⟩) sy c, .bool true] wq fun e w' => e = .returned (.int .i64 (check S true)) ∧ w' = wq := fun g c wq hq => by rw [← hSl]; exact check_c wq.heap.size _ c S true wq hq
      have hCD : ∀ (aa : Option Addr) (c : Nat) (wq : World), Ints 0 wq.heap.size wq aa D → Calls Tryz.prog 80 #[.slice aa (all.length - sy) c, .bool true] wq fun e w' => e = .returned (.int .i64 (check D true)) ∧ w' = wq := fun aa c wq hq => by rw [← hDl]; exact check_c wq.heap.size _ c D true wq hq
      clear hc256 hS hD hSl hDl hall hsy hmany
      have HFin : Hid ((ln all 256 = 0 ∧ R = .error 63) ∨ (¬ ln all 256 = 0 ∧ ¬ check S true = 0 ∧ R = .error 63) ∨ (¬ ln all 256 = 0 ∧ check S true = 0 ∧ ¬ check D true = 0 ∧ R = .error 63) ∨ (¬ ln all 256 = 0 ∧ check S true = 0 ∧ check D true = 0 ∧ R = .ok (q5, (S, D)))) := by
        rw [HRA.out]
        by_cases k1 : ln all 256 = 0
        · exact .inl ⟨k1, if_pos (.inl k1)⟩
        · by_cases k2 : check S true = 0
          · by_cases k3 : check D true = 0
            · exact .inr (.inr (.inr ⟨k1, k2, k3, if_neg (by rintro (e | e | e); exact k1 e; exact e k2; exact e k3)⟩))
            · exact .inr (.inr (.inl ⟨k1, k2, k3, if_pos (.inr (.inr k3))⟩))
          · exact .inr (.inl ⟨k1, k2, if_pos (.inr (.inl k2))⟩)
      clear HRA
      generalize check S true = CS at hCS HFin
      generalize check D true = CD at hCD HFin
      generalize ln all 256 = A6 at HC256 HFin
      have HCS := fun g c wq hq => hide (hCS g c wq hq)
      have HCD := fun aa c wq hq => hide (hCD aa c wq hq)
      clear hCS hCD
      rcases HFin.out with ⟨k1, hRE⟩ | ⟨k1, k2, hRE⟩ | ⟨k1, k2, k3, hRE⟩ | ⟨k1, k2, k3, hRE⟩
      · have HR := hide hRE
        subst k1; clear hRE HFin
        go_upto_region 18 with (go_at_call 80; refine HCk.out.mono ?_; rintro x wc ⟨rfl, hwc⟩; obtain rfl : wr = wc := hwc.symm)
        go_upto_region 19 with (first
          | (refine st_load rfl (.tmp 1) rfl w.heap.size (by rfl) a o L.length ac ol oc _ m 0 (0, 0) OI.out.s0 ?_)
          | (go_at_call 81; refine HLn.out.mono ?_; rintro x wl ⟨gv, cv, rfl, ow, hbl⟩; have O5 := hide (OI.out.stay hbl); have V5 := hide ow; clear hbl OI ow HLn)
          | (refine st_store rfl (.tmp 1) (.tmp 86) rfl w.heap.size (by rfl) a o L.length ac ol oc _ m 0 (by rfl) _ (by rfl) O5.out.s0 ?_; intro wz hgz hkz; have O6 := hide (O5.out.own hgz hkz); clear c4 zz zz0; have c4 := cells_of O6.out.s0 4; simp [sA] at c4; have zz := O6.out.size; have zz0 := Nat.lt_of_succ_lt zz; have V6 := hide (V5.out.kept hkz (fun g hg e => ownsRow_apart_int V5.out O5.out.s0 (by rw [hg, e]))); have c256 := HC256.out _ _ _ _ V6.out; obtain ⟨i6, j6, hac⟩ := HST.out _ _ _ _ V6.out; have I6 := hide (i6.wide (Nat.zero_le _) (Nat.le_refl _)); have J6 := hide (j6.wide (Nat.zero_le _) (Nat.le_refl _)); have hacL : (sy : Int) < (cv : Int) := (by omega); have hacI : (sy : Int) ≤ (cv : Int) := (by omega); have hacA : (all.length : Int) ≤ (cv : Int) := (by omega); clear i6 j6 hac; clear hgz hkz O5))
        go_wp2_with (first
          | (refine st_load rfl (.tmp 1) rfl w.heap.size (by rfl) a o L.length ac ol oc _ m 0 (0, 0) O6.out.s0 ?_)
          | (go_at_call 36; refine (HF _ _).out.mono ?_; rintro x wf ⟨rfl, hbf⟩; have O7 := hide (O6.out.stay hbf); clear hbf O6)
          | (refine st_store rfl (.tmp 2) (.tmp 115) rfl (w.heap.size + 1) (by rfl) a o L.length ac ol oc _ m 63 (by rfl) _ (by rfl) O7.out.s1 ?_; intro wy hgy hky; have O9 := hide (O7.out.res hgy hky); have K9 := hide hky; clear hgy hky))
        refine bodyPost_ret (v := .tuple #[.agg (sA a L.length ac (q5 : Int) o ol oc m 63), .slice none 0 0, .slice none 0 0]) ?_ rfl (⟨O9.out.below, .inr ⟨63, _, by decide, by decide, HR.out, rfl⟩⟩)
        have hld := st_run O9.out.s1
        simp [results, asAddr, hld]
      · have HR := hide hRE
        clear hRE HFin
        go_upto_region 18 with (go_at_call 80; refine HCk.out.mono ?_; rintro x wc ⟨rfl, hwc⟩; obtain rfl : wr = wc := hwc.symm)
        go_upto_region 19 with (first
          | (refine st_load rfl (.tmp 1) rfl w.heap.size (by rfl) a o L.length ac ol oc _ m 0 (0, 0) OI.out.s0 ?_)
          | (go_at_call 81; refine HLn.out.mono ?_; rintro x wl ⟨gv, cv, rfl, ow, hbl⟩; have O5 := hide (OI.out.stay hbl); have V5 := hide ow; clear hbl OI ow HLn)
          | (refine st_store rfl (.tmp 1) (.tmp 86) rfl w.heap.size (by rfl) a o L.length ac ol oc _ m 0 (by rfl) _ (by rfl) O5.out.s0 ?_; intro wz hgz hkz; have O6 := hide (O5.out.own hgz hkz); clear c4 zz zz0; have c4 := cells_of O6.out.s0 4; simp [sA] at c4; have zz := O6.out.size; have zz0 := Nat.lt_of_succ_lt zz; have V6 := hide (V5.out.kept hkz (fun g hg e => ownsRow_apart_int V5.out O5.out.s0 (by rw [hg, e]))); have c256 := HC256.out _ _ _ _ V6.out; obtain ⟨i6, j6, hac⟩ := HST.out _ _ _ _ V6.out; have I6 := hide (i6.wide (Nat.zero_le _) (Nat.le_refl _)); have J6 := hide (j6.wide (Nat.zero_le _) (Nat.le_refl _)); have hacL : (sy : Int) < (cv : Int) := (by omega); have hacI : (sy : Int) ≤ (cv : Int) := (by omega); have hacA : (all.length : Int) ≤ (cv : Int) := (by omega); clear i6 j6 hac; clear hgz hkz O5))
        go_upto_region 24 with (go_at_call 80; refine (HCS _ _ _ I6.out).out.mono ?_; rintro x wc ⟨rfl, hwc⟩; obtain rfl : wz = wc := hwc.symm; clear HCS)
        go_wp2_with (first
          | (refine st_load rfl (.tmp 1) rfl w.heap.size (by rfl) a o L.length ac ol oc _ m 0 (0, 0) O6.out.s0 ?_)
          | (go_at_call 36; refine (HF _ _).out.mono ?_; rintro x wf ⟨rfl, hbf⟩; have O7 := hide (O6.out.stay hbf); clear hbf O6)
          | (refine st_store rfl (.tmp 2) (.tmp 115) rfl (w.heap.size + 1) (by rfl) a o L.length ac ol oc _ m 63 (by rfl) _ (by rfl) O7.out.s1 ?_; intro wy hgy hky; have O9 := hide (O7.out.res hgy hky); have K9 := hide hky; clear hgy hky))
        refine bodyPost_ret (v := .tuple #[.agg (sA a L.length ac (q5 : Int) o ol oc m 63), .slice none 0 0, .slice none 0 0]) ?_ rfl (⟨O9.out.below, .inr ⟨63, _, by decide, by decide, HR.out, rfl⟩⟩)
        have hld := st_run O9.out.s1
        simp [results, asAddr, hld]
      · have HR := hide hRE
        subst k2; have k3b : (CD != 0) = true := (by simpa using k3); have k1b : (A6 == 0) = false := (by simpa using k1); clear hRE HFin
        go_upto_region 18 with (go_at_call 80; refine HCk.out.mono ?_; rintro x wc ⟨rfl, hwc⟩; obtain rfl : wr = wc := hwc.symm)
        go_upto_region 19 with (first
          | (refine st_load rfl (.tmp 1) rfl w.heap.size (by rfl) a o L.length ac ol oc _ m 0 (0, 0) OI.out.s0 ?_)
          | (go_at_call 81; refine HLn.out.mono ?_; rintro x wl ⟨gv, cv, rfl, ow, hbl⟩; have O5 := hide (OI.out.stay hbl); have V5 := hide ow; clear hbl OI ow HLn)
          | (refine st_store rfl (.tmp 1) (.tmp 86) rfl w.heap.size (by rfl) a o L.length ac ol oc _ m 0 (by rfl) _ (by rfl) O5.out.s0 ?_; intro wz hgz hkz; have O6 := hide (O5.out.own hgz hkz); clear c4 zz zz0; have c4 := cells_of O6.out.s0 4; simp [sA] at c4; have zz := O6.out.size; have zz0 := Nat.lt_of_succ_lt zz; have V6 := hide (V5.out.kept hkz (fun g hg e => ownsRow_apart_int V5.out O5.out.s0 (by rw [hg, e]))); have c256 := HC256.out _ _ _ _ V6.out; obtain ⟨i6, j6, hac⟩ := HST.out _ _ _ _ V6.out; have I6 := hide (i6.wide (Nat.zero_le _) (Nat.le_refl _)); have J6 := hide (j6.wide (Nat.zero_le _) (Nat.le_refl _)); have hacL : (sy : Int) < (cv : Int) := (by omega); have hacI : (sy : Int) ≤ (cv : Int) := (by omega); have hacA : (all.length : Int) ≤ (cv : Int) := (by omega); clear i6 j6 hac; clear hgz hkz O5))
        go_wp2_with (first
          | (go_at_call 80; refine (HCS _ _ _ I6.out).out.mono ?_; rintro x wc ⟨rfl, hwc⟩; obtain rfl : wz = wc := hwc.symm; clear HCS)
          | (go_at_call 80; refine (HCD _ _ _ J6.out).out.mono ?_; rintro x wc ⟨rfl, hwc⟩; obtain rfl : wz = wc := hwc.symm; clear HCD)
          | (refine st_load rfl (.tmp 1) rfl w.heap.size (by rfl) a o L.length ac ol oc _ m 0 (0, 0) O6.out.s0 ?_)
          | (go_at_call 36; refine (HF _ _).out.mono ?_; rintro x wf ⟨rfl, hbf⟩; have O7 := hide (O6.out.stay hbf); clear hbf O6)
          | (refine st_store rfl (.tmp 2) (.tmp 115) rfl (w.heap.size + 1) (by rfl) a o L.length ac ol oc _ m 63 (by rfl) _ (by rfl) O7.out.s1 ?_; intro wy hgy hky; have O9 := hide (O7.out.res hgy hky); have K9 := hide hky; clear hgy hky))
        refine bodyPost_ret (v := .tuple #[.agg (sA a L.length ac (q5 : Int) o ol oc m 63), .slice none 0 0, .slice none 0 0]) ?_ rfl (⟨O9.out.below, .inr ⟨63, _, by decide, by decide, HR.out, rfl⟩⟩)
        have hld := st_run O9.out.s1
        simp [results, asAddr, hld]
      · have HR := hide hRE
        subst k2; subst k3; clear hRE HFin
        go_upto_region 18 with (go_at_call 80; refine HCk.out.mono ?_; rintro x wc ⟨rfl, hwc⟩; obtain rfl : wr = wc := hwc.symm)
        go_upto_region 19 with (first
          | (refine st_load rfl (.tmp 1) rfl w.heap.size (by rfl) a o L.length ac ol oc _ m 0 (0, 0) OI.out.s0 ?_)
          | (go_at_call 81; refine HLn.out.mono ?_; rintro x wl ⟨gv, cv, rfl, ow, hbl⟩; have O5 := hide (OI.out.stay hbl); have V5 := hide ow; clear hbl OI ow HLn)
          | (refine st_store rfl (.tmp 1) (.tmp 86) rfl w.heap.size (by rfl) a o L.length ac ol oc _ m 0 (by rfl) _ (by rfl) O5.out.s0 ?_; intro wz hgz hkz; have O6 := hide (O5.out.own hgz hkz); clear c4 zz zz0; have c4 := cells_of O6.out.s0 4; simp [sA] at c4; have zz := O6.out.size; have zz0 := Nat.lt_of_succ_lt zz; have V6 := hide (V5.out.kept hkz (fun g hg e => ownsRow_apart_int V5.out O5.out.s0 (by rw [hg, e]))); have c256 := HC256.out _ _ _ _ V6.out; obtain ⟨i6, j6, hac⟩ := HST.out _ _ _ _ V6.out; have I6 := hide (i6.wide (Nat.zero_le _) (Nat.le_refl _)); have J6 := hide (j6.wide (Nat.zero_le _) (Nat.le_refl _)); have hacL : (sy : Int) < (cv : Int) := (by omega); have hacI : (sy : Int) ≤ (cv : Int) := (by omega); have hacA : (all.length : Int) ≤ (cv : Int) := (by omega); clear i6 j6 hac; clear hgz hkz O5))
        go_wp2_with (first
          | (go_at_call 80; refine (HCS _ _ _ I6.out).out.mono ?_; rintro x wc ⟨rfl, hwc⟩; obtain rfl : wz = wc := hwc.symm; clear HCS)
          | (go_at_call 80; refine (HCD _ _ _ J6.out).out.mono ?_; rintro x wc ⟨rfl, hwc⟩; obtain rfl : wz = wc := hwc.symm; clear HCD)
          | (refine st_load rfl (.tmp 1) rfl w.heap.size (by rfl) a o L.length ac ol oc _ m 0 (0, 0) O6.out.s0 ?_)
          | (refine st_store rfl (.tmp 2) (.tmp 116) rfl (w.heap.size + 1) (by rfl) a o L.length ac ol oc _ m 0 (by rfl) _ (by rfl) O6.out.s1 ?_; intro wy hgy hky; have O9 := hide (O6.out.res hgy hky); have K9 := hide hky; clear hgy hky))
        have V9 := hide (V6.out.kept K9.out (fun g hg e => ownsRow_apart_int V6.out O6.out.s1 (by rw [hg, e])))
        obtain ⟨i9, j9, _⟩ := HST.out _ _ _ _ V9.out
        refine bodyPost_ret (v := .tuple #[.agg (sA a L.length ac (q5 : Int) o ol oc m 0), .slice (some ⟨gv, 0, none⟩) sy cv, .slice (some ⟨gv, sy, none⟩) (all.length - sy) (cv - sy)]) ?_ rfl (⟨O9.out.below, .inl ⟨q5, S, D, _, _, cv, cv - sy, HR.out, by rw [HSl.out, HDl.out], i9.wide hwW (Nat.le_refl _), j9.wide hwW (Nat.le_refl _)⟩⟩)
        have hld := st_run O9.out.s1
        simp [results, asAddr, hld]
end Go.Proofs.YtlakgbckopjelabGreatDoor
