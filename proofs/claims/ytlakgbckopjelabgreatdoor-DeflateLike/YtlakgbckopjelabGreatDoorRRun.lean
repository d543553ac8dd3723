/- The reference's run: contract. -/
import Derived.Test.YtlakgbckopjelabGreatDoorRRun0
import Derived.Deep.RegionLaw
namespace Go.Proofs.YtlakgbckopjelabGreatDoor
set_option maxRecDepth 100000
open Go Go.RowKit

set_option maxHeartbeats 16000000 in
theorem rrun_c (B0 lo hi : Nat) (a o ra : Option Addr) (ac oc rc : Nat) (L out D : List Int) (p most v : Nat) (w : World) (hL : L.length ≤ 1000000) (hb : Bin L) (hp : p ≤ L.length) (hl : Ints lo hi w a L) (hhi : hi ≤ B0) (hB : B0 ≤ w.heap.size) (ho : OwnsB w B0 (.slice o out.length oc) out) (hm : most ≤ 1000000) (hol : out.length ≤ most)
    (hr : RAt2 w ra D) (hg : Good D) (h3 : D.length ≤ 320) (hv : 257 ≤ v) (hv4 : v ≤ 400) :
    Calls Tryz.prog 59 #[.agg (sA a L.length ac p o out.length oc most 0), .int .i64 (v : Int), .slice ra D.length rc] w (StOk B0 w (.slice o out.length oc) a L.length ac most (iRun D (lb L) L.length most p v out)) := by
  obtain ⟨j0, hj0, hj1, hj2, hj3⟩ := info_parts Tryz.info5
  have HB := hide hb
  have HG := hide hg
  have HOV : Hid (∀ g, (Value.slice o out.length oc).ownBlock = some g → B0 ≤ g) := fun g hg => (ownsRow_lt ho hg).1
  have HT : Hid (OS B0 w ((w.alloc (.cells (sA a L.length ac p o out.length oc most 0) 63)).alloc (.cells zA 63)) (.slice o out.length oc) a L.length ac p o oc most 0 out zA) := OS.new zA ho
  have HIN : Hid (∀ wz p' o' oc' e' out' rv', OS B0 w wz (.slice o out.length oc) a L.length ac p' o' oc' most e' out' rv' → Ints lo hi wz a L) := fun wz p' o' oc' e' out' rv' hz => hz.ints HOV.out hB hl hhi
  have HRW : Hid (∀ wz p' o' oc' e' out' rv', OS B0 w wz (.slice o out.length oc) a L.length ac p' o' oc' most e' out' rv' → RAt2 wz ra D) := fun wz p' o' oc' e' out' rv' hz => hz.rows ho hr
  obtain ⟨R, hR⟩ : ∃ R, R = iRun D (lb L) L.length most p v out := ⟨_, rfl⟩
  rw [← hR]
  unfold sA zA at HT
  show Calls Tryz.prog 59 #[.agg #[.slice a L.length ac, .int .i64 (p : Int), .slice o out.length oc, .int .i64 most, .int .i64 0], .int .i64 (v : Int), .slice ra D.length rc] w _
  unfold iRun at hR
  clear hb hl ho hg hr
  by_cases h285 : 285 < v
  case pos =>
    rw [iThen_of_err (iLong_err h285)] at hR
    have HR := hide hR
    have hv' : (285 : Int) < v := by omega
    have HF := fun w' => hide (rfails_c a o L.length ac out.length oc (p : Int) most 0 63 w')
    clear hR
    go_enter Tryz.func59, Tryz.ntmps59
    go_upto_region 1 with fail
    generalize ((w.alloc (.cells #[.slice a L.length ac, .int .i64 (p : Int), .slice o out.length oc, .int .i64 most, .int .i64 0] 63)).alloc (.cells #[.slice none 0 0, .int .i64 0, .slice none 0 0, .int .i64 0, .int .i64 0] 63)) = w0 at HT ⊢
    go_wp2_with (first
      | (refine st_load rfl (.tmp 3) rfl w.heap.size (by rfl) a o L.length ac out.length oc _ most 0 (0, 0) HT.out.s0 ?_)
      | (go_at_call 36; refine (HF w0).out.mono ?_; rintro x w1 ⟨rfl, hb1⟩; have O1 := hide (HT.out.stay hb1); clear hb1 HT)
      | (refine st_store rfl (.tmp 6) (.tmp 18) rfl (w.heap.size + 1) (by rfl) a o L.length ac out.length oc _ most 63 (by rfl) _ (by rfl) O1.out.s1 ?_; intro wz hgz hkz; have O7 := hide (O1.out.res hgz hkz); clear hgz hkz))
    refine bodyPost_ret (v := .agg (sA a L.length ac (p : Int) o out.length oc most 63)) ?_ rfl (O7.out.fail HR.out)
    have k0 := cells_of O7.out.s1 0
    have k1 := cells_of O7.out.s1 1
    have k2 := cells_of O7.out.s1 2
    have k3 := cells_of O7.out.s1 3
    have k4 := cells_of O7.out.s1 4
    simp [sA] at k0 k1 k2 k3 k4
    simp [results, Tryz.results59, go_sem, k0, k1, k2, k3, k4, sA]
  case neg =>
  replace h285 : v ≤ 285 := by omega
  have hv' : ¬ (285 : Int) < v := by omega
  rw [iLong_is h285 rfl rfl] at hR
  have hx5 := iLx_le v h285
  -- second half
  have hLo := fun w' => rLong_c v w' hv h285
  have hlb := iLb_le v h285
  have hlb3 : 1 ≤ iLb v := (show ∀ v, v ≤ 285 → 1 ≤ iLb v by decide) v h285
  generalize iLb v = LB at hR hLo hlb hlb3
  generalize iLx v = LX at hR hLo hx5
  have HLo := fun w' => hide (hLo w')
  clear hLo
  rcases h1 : iTk (lb L) L.length p (LX) with e | ⟨q1, more⟩
  · obtain rfl := iTk_e h1
    rw [h1] at hR
    have HR : Hid (R = .error 60) := hR
    have HC1 := fun w' => hide (rbits_bad (a := a) (o := o) (ac := ac) (ol := out.length) (oc := oc) (m := most) (w := w') hp (by omega) h1 (LX : Int) rfl)
    have HC2 := fun w' => hide (rnext_err a o ra L.length ac out.length oc D.length rc (p : Int) most 60 w' (by decide))
    clear hR h1
    go_enter Tryz.func59, Tryz.ntmps59
    go_upto_region 1 with fail
    generalize ((w.alloc (.cells #[.slice a L.length ac, .int .i64 (p : Int), .slice o out.length oc, .int .i64 most, .int .i64 0] 63)).alloc (.cells #[.slice none 0 0, .int .i64 0, .slice none 0 0, .int .i64 0, .int .i64 0] 63)) = w0 at HT ⊢
    go_upto_region 5 with (go_at_call 77; refine (HLo _).out.mono ?_; rintro x wl ⟨rfl, rfl⟩)
    go_upto_region 7 with (first
      | (refine st_load rfl (.tmp 3) rfl w.heap.size (by rfl) a o L.length ac out.length oc _ most 0 (0, 0) HT.out.s0 ?_)
      | (go_at_call 30; refine (HC1 _).out.mono ?_; rintro x w1 ⟨rfl, hb1⟩; have O1 := hide (HT.out.stay hb1); clear hb1 HT HC1)
      | (refine st_store rfl (.tmp 3) (.tmp 28) rfl w.heap.size (by rfl) a o L.length ac out.length oc _ most 60 (by rfl) _ (by rfl) O1.out.s0 ?_; intro wz hgz hkz; have O2 := hide (O1.out.own hgz hkz); have c4 := cells_of O2.out.s0 4; simp [sA] at c4; have zz := O2.out.size; have zz0 := Nat.lt_of_succ_lt zz; clear hgz hkz O1))
    go_upto_region 8 with (first
      | (refine st_load rfl (.tmp 3) rfl w.heap.size (by rfl) a o L.length ac out.length oc _ most 60 (0, 0) O2.out.s0 ?_)
      | (go_at_call 58; refine (HC2 _).out.mono ?_; rintro x w3 ⟨rfl, hb3⟩; have O3 := hide (O2.out.stay hb3); clear hb3 O2 HC2)
      | (refine st_store rfl (.tmp 3) (.tmp 34) rfl w.heap.size (by rfl) a o L.length ac out.length oc _ most 60 (by rfl) _ (by rfl) O3.out.s0 ?_; intro wz hgz hkz; have O4 := hide (O3.out.own hgz hkz);clear c4 zz zz0; have c4 := cells_of O4.out.s0 4; simp [sA] at c4; have zz := O4.out.size; have zz0 := Nat.lt_of_succ_lt zz; clear hgz hkz O3))
    go_wp2_with (first
      | (refine st_load rfl (.tmp 3) rfl w.heap.size (by rfl) a o L.length ac out.length oc _ most 60 (0, 0) O4.out.s0 ?_)
      | (refine st_store rfl (.tmp 6) (.tmp 48) rfl (w.heap.size + 1) (by rfl) a o L.length ac out.length oc _ most 60 (by rfl) _ (by rfl) O4.out.s1 ?_; intro wy hgy hky; have O9 := hide (O4.out.res hgy hky); clear hgy hky))
    refine bodyPost_ret (v := .agg (sA a L.length ac (p : Int) o out.length oc most 60)) ?_ rfl (O9.out.fail HR.out)
    have k0 := cells_of O9.out.s1 0
    have k1 := cells_of O9.out.s1 1
    have k2 := cells_of O9.out.s1 2
    have k3 := cells_of O9.out.s1 3
    have k4 := cells_of O9.out.s1 4
    simp [sA] at k0 k1 k2 k3 k4
    simp [results, Tryz.results59, go_sem, k0, k1, k2, k3, k4, sA]
  obtain ⟨hq1, hq1l, -⟩ := iTk_got h1
  have hmo := iTk_lt (lb_le HB.out) h1
  have HC1 := fun w' (hi' : Ints lo hi w' a L) => hide (rbits_got (o := o) (ac := ac) (ol := out.length) (oc := oc) (m := most) hL HB.out hi' (by omega) h1 (LX : Int) rfl)
  rw [h1] at hR
  replace hR : R = iThen (iBack D (lb L) L.length q1) fun q d => if out.length < d then .error 64 else if most < out.length + (LB + more) then .error 65 else .ok (q, iCpy out d (LB + more)) := hR
  unfold iBack at hR
  have hmo2 : more ≤ 64 := by
    have : 2 ^ LX ≤ 2 ^ 5 := Nat.pow_le_pow_right (by decide) hx5
    omega
  have hq1T : q1 ≤ L.length := by omega
  clear h1 hmo hq1 hq1l
  rcases h2 : iNx D (lb L) L.length q1 with e | ⟨q2, u⟩
  · have hee := iNx_e h2
    rw [h2] at hR
    have HR : Hid (R = .error e) := hR
    have HC2 := fun w' (hi' : Ints lo hi w' a L) (hr' : RAt2 w' ra D) => hide (rnext_bad (o := o) (ac := ac) (ol := out.length) (oc := oc) (rc := rc) (m := most) h3 HG.out hL HB.out hq1T hi' hr' h2)
    have hne : ¬ e = 0 := by omega
    clear hR h2
    go_enter Tryz.func59, Tryz.ntmps59
    go_upto_region 1 with fail
    generalize ((w.alloc (.cells #[.slice a L.length ac, .int .i64 (p : Int), .slice o out.length oc, .int .i64 most, .int .i64 0] 63)).alloc (.cells #[.slice none 0 0, .int .i64 0, .slice none 0 0, .int .i64 0, .int .i64 0] 63)) = w0 at HT ⊢
    go_upto_region 5 with (go_at_call 77; refine (HLo _).out.mono ?_; rintro x wl ⟨rfl, rfl⟩)
    go_upto_region 7 with (first
      | (refine st_load rfl (.tmp 3) rfl w.heap.size (by rfl) a o L.length ac out.length oc _ most 0 (0, 0) HT.out.s0 ?_)
      | (go_at_call 30; refine (HC1 _ (HIN.out _ _ _ _ _ _ _ HT.out)).out.mono ?_; rintro x w1 ⟨rfl, hb1⟩; have O1 := hide (HT.out.stay hb1); clear hb1 HT HC1)
      | (refine st_store rfl (.tmp 3) (.tmp 28) rfl w.heap.size (by rfl) a o L.length ac out.length oc _ most 0 (by rfl) _ (by rfl) O1.out.s0 ?_; intro wz hgz hkz; have O2 := hide (O1.out.own hgz hkz); have c4 := cells_of O2.out.s0 4; simp [sA] at c4; have zz := O2.out.size; have zz0 := Nat.lt_of_succ_lt zz; clear hgz hkz O1))
    go_upto_region 8 with (first
      | (refine st_load rfl (.tmp 3) rfl w.heap.size (by rfl) a o L.length ac out.length oc _ most 0 (0, 0) O2.out.s0 ?_)
      | (go_at_call 58; refine (HC2 _ (HIN.out _ _ _ _ _ _ _ O2.out) (HRW.out _ _ _ _ _ _ _ O2.out)).out.mono ?_; rintro x w3 ⟨rfl, hb3⟩; have O3 := hide (O2.out.stay hb3); clear hb3 O2 HC2)
      | (refine st_store rfl (.tmp 3) (.tmp 34) rfl w.heap.size (by rfl) a o L.length ac out.length oc _ most e (by rfl) _ (by rfl) O3.out.s0 ?_; intro wz hgz hkz; have O4 := hide (O3.out.own hgz hkz);clear c4 zz zz0; have c4 := cells_of O4.out.s0 4; simp [sA] at c4; have zz := O4.out.size; have zz0 := Nat.lt_of_succ_lt zz; clear hgz hkz O3))
    go_wp2_with (first
      | (refine st_load rfl (.tmp 3) rfl w.heap.size (by rfl) a o L.length ac out.length oc _ most e (0, 0) O4.out.s0 ?_)
      | (refine st_store rfl (.tmp 6) (.tmp 48) rfl (w.heap.size + 1) (by rfl) a o L.length ac out.length oc _ most e (by rfl) _ (by rfl) O4.out.s1 ?_; intro wy hgy hky; have O9 := hide (O4.out.res hgy hky); clear hgy hky))
    refine bodyPost_ret (v := .agg (sA a L.length ac (q1 : Int) o out.length oc most e)) ?_ rfl (O9.out.fail HR.out)
    have k0 := cells_of O9.out.s1 0
    have k1 := cells_of O9.out.s1 1
    have k2 := cells_of O9.out.s1 2
    have k3 := cells_of O9.out.s1 3
    have k4 := cells_of O9.out.s1 4
    simp [sA] at k0 k1 k2 k3 k4
    simp [results, Tryz.results59, go_sem, k0, k1, k2, k3, k4, sA]
  have hq2l : q2 ≤ L.length := by
    obtain ⟨n, rfl, hh⟩ := iNx_got h2
    have := hh.1; omega
  have huD := (iNx_lt h2).1
  have HC2 := fun w' (hi' : Ints lo hi w' a L) (hr' : RAt2 w' ra D) => hide (rnext_got (o := o) (ac := ac) (ol := out.length) (oc := oc) (rc := rc) (m := most) h3 HG.out hL HB.out hq1T hi' hr' h2)
  rw [h2] at hR
  replace hR : R = iThen (if 29 < u then .error 63 else iThen (iTk (lb L) L.length q2 (iDx u)) fun q x => .ok (q, iDb u + x)) fun q d => if out.length < d then .error 64 else if most < out.length + (LB + more) then .error 65 else .ok (q, iCpy out d (LB + more)) := hR
  clear h2
  have HF := fun f w' => hide (rfails_c a o L.length ac out.length oc (q2 : Int) most 0 f w')
  by_cases hu : 29 < u
  · rw [if_pos hu] at hR
    have HR : Hid (R = .error 63) := hR
    have hu' : (29 : Int) < u := by omega
    clear hR
    go_enter Tryz.func59, Tryz.ntmps59
    go_upto_region 1 with fail
    generalize ((w.alloc (.cells #[.slice a L.length ac, .int .i64 (p : Int), .slice o out.length oc, .int .i64 most, .int .i64 0] 63)).alloc (.cells #[.slice none 0 0, .int .i64 0, .slice none 0 0, .int .i64 0, .int .i64 0] 63)) = w0 at HT ⊢
    go_upto_region 5 with (go_at_call 77; refine (HLo _).out.mono ?_; rintro x wl ⟨rfl, rfl⟩)
    go_upto_region 7 with (first
      | (refine st_load rfl (.tmp 3) rfl w.heap.size (by rfl) a o L.length ac out.length oc _ most 0 (0, 0) HT.out.s0 ?_)
      | (go_at_call 30; refine (HC1 _ (HIN.out _ _ _ _ _ _ _ HT.out)).out.mono ?_; rintro x w1 ⟨rfl, hb1⟩; have O1 := hide (HT.out.stay hb1); clear hb1 HT HC1)
      | (refine st_store rfl (.tmp 3) (.tmp 28) rfl w.heap.size (by rfl) a o L.length ac out.length oc _ most 0 (by rfl) _ (by rfl) O1.out.s0 ?_; intro wz hgz hkz; have O2 := hide (O1.out.own hgz hkz); have c4 := cells_of O2.out.s0 4; simp [sA] at c4; have zz := O2.out.size; have zz0 := Nat.lt_of_succ_lt zz; clear hgz hkz O1))
    go_upto_region 8 with (first
      | (refine st_load rfl (.tmp 3) rfl w.heap.size (by rfl) a o L.length ac out.length oc _ most 0 (0, 0) O2.out.s0 ?_)
      | (go_at_call 58; refine (HC2 _ (HIN.out _ _ _ _ _ _ _ O2.out) (HRW.out _ _ _ _ _ _ _ O2.out)).out.mono ?_; rintro x w3 ⟨rfl, hb3⟩; have O3 := hide (O2.out.stay hb3); clear hb3 O2 HC2)
      | (refine st_store rfl (.tmp 3) (.tmp 34) rfl w.heap.size (by rfl) a o L.length ac out.length oc _ most 0 (by rfl) _ (by rfl) O3.out.s0 ?_; intro wz hgz hkz; have O4 := hide (O3.out.own hgz hkz);clear c4 zz zz0; have c4 := cells_of O4.out.s0 4; simp [sA] at c4; have zz := O4.out.size; have zz0 := Nat.lt_of_succ_lt zz; clear hgz hkz O3))
    go_upto_region 10 with (first
      | (refine st_load rfl (.tmp 3) rfl w.heap.size (by rfl) a o L.length ac out.length oc _ most 0 (0, 0) O4.out.s0 ?_)
      | (go_at_call 36; refine (HF 63 _).out.mono ?_; rintro x w7 ⟨rfl, hb7⟩; have O5 := hide (O4.out.stay hb7); clear hb7 O4)
      | (refine st_store rfl (.tmp 3) (.tmp 44) rfl w.heap.size (by rfl) a o L.length ac out.length oc _ most 63 (by rfl) _ (by rfl) O5.out.s0 ?_; intro wz hgz hkz; have O6 := hide (O5.out.own hgz hkz);clear c4 zz zz0; have c4 := cells_of O6.out.s0 4; simp [sA] at c4; have zz := O6.out.size; have zz0 := Nat.lt_of_succ_lt zz; clear hgz hkz O5))
    go_wp2_with (first
      | (refine st_load rfl (.tmp 3) rfl w.heap.size (by rfl) a o L.length ac out.length oc _ most 63 (0, 0) O6.out.s0 ?_)
      | (refine st_store rfl (.tmp 6) (.tmp 48) rfl (w.heap.size + 1) (by rfl) a o L.length ac out.length oc _ most 63 (by rfl) _ (by rfl) O6.out.s1 ?_; intro wy hgy hky; have O9 := hide (O6.out.res hgy hky); clear hgy hky))
    refine bodyPost_ret (v := .agg (sA a L.length ac (q2 : Int) o out.length oc most 63)) ?_ rfl (O9.out.fail HR.out)
    have k0 := cells_of O9.out.s1 0
    have k1 := cells_of O9.out.s1 1
    have k2 := cells_of O9.out.s1 2
    have k3 := cells_of O9.out.s1 3
    have k4 := cells_of O9.out.s1 4
    simp [sA] at k0 k1 k2 k3 k4
    simp [results, Tryz.results59, go_sem, k0, k1, k2, k3, k4, sA]
  rw [if_neg hu] at hR
  have hu' : ¬ (29 : Int) < u := by omega
  have hu29 : u ≤ 29 := by omega
  have hdx := iDx_le u hu29
  have hdb := iDb_le u hu29
  have hdb1 := iDb_pos u
  have hFa := fun w' => rFar_c u w' hu29
  generalize iDb u = DB at hR hFa hdb hdb1
  generalize iDx u = DX at hR hFa hdx
  have HFa := fun w' => hide (hFa w')
  clear hFa
  rcases h4 : iTk (lb L) L.length q2 (DX) with e | ⟨q3, away⟩
  · obtain rfl := iTk_e h4
    rw [h4] at hR
    have HR : Hid (R = .error 60) := hR
    have HC3 := fun w' => hide (rbits_bad (a := a) (o := o) (ac := ac) (ol := out.length) (oc := oc) (m := most) (w := w') hq2l (by omega) h4 (DX : Int) rfl)
    clear hR h4
    have hn0 : (0 : Int) < (LB : Int) + more := by omega
    go_enter Tryz.func59, Tryz.ntmps59
    go_upto_region 1 with fail
    generalize ((w.alloc (.cells #[.slice a L.length ac, .int .i64 (p : Int), .slice o out.length oc, .int .i64 most, .int .i64 0] 63)).alloc (.cells #[.slice none 0 0, .int .i64 0, .slice none 0 0, .int .i64 0, .int .i64 0] 63)) = w0 at HT ⊢
    go_upto_region 5 with (go_at_call 77; refine (HLo _).out.mono ?_; rintro x wl ⟨rfl, rfl⟩)
    go_upto_region 7 with (first
      | (refine st_load rfl (.tmp 3) rfl w.heap.size (by rfl) a o L.length ac out.length oc _ most 0 (0, 0) HT.out.s0 ?_)
      | (go_at_call 30; refine (HC1 _ (HIN.out _ _ _ _ _ _ _ HT.out)).out.mono ?_; rintro x w1 ⟨rfl, hb1⟩; have O1 := hide (HT.out.stay hb1); clear hb1 HT HC1)
      | (refine st_store rfl (.tmp 3) (.tmp 28) rfl w.heap.size (by rfl) a o L.length ac out.length oc _ most 0 (by rfl) _ (by rfl) O1.out.s0 ?_; intro wz hgz hkz; have O2 := hide (O1.out.own hgz hkz); have c4 := cells_of O2.out.s0 4; simp [sA] at c4; have zz := O2.out.size; have zz0 := Nat.lt_of_succ_lt zz; clear hgz hkz O1))
    go_upto_region 8 with (first
      | (refine st_load rfl (.tmp 3) rfl w.heap.size (by rfl) a o L.length ac out.length oc _ most 0 (0, 0) O2.out.s0 ?_)
      | (go_at_call 58; refine (HC2 _ (HIN.out _ _ _ _ _ _ _ O2.out) (HRW.out _ _ _ _ _ _ _ O2.out)).out.mono ?_; rintro x w3 ⟨rfl, hb3⟩; have O3 := hide (O2.out.stay hb3); clear hb3 O2 HC2)
      | (refine st_store rfl (.tmp 3) (.tmp 34) rfl w.heap.size (by rfl) a o L.length ac out.length oc _ most 0 (by rfl) _ (by rfl) O3.out.s0 ?_; intro wz hgz hkz; have O4 := hide (O3.out.own hgz hkz);clear c4 zz zz0; have c4 := cells_of O4.out.s0 4; simp [sA] at c4; have zz := O4.out.size; have zz0 := Nat.lt_of_succ_lt zz; clear hgz hkz O3))
    go_upto_region 12 with fail
    go_upto_region 14 with (go_at_call 78; refine (HFa _).out.mono ?_; rintro x wl ⟨rfl, rfl⟩)
    go_upto_region 15 with (first
      | (refine st_load rfl (.tmp 3) rfl w.heap.size (by rfl) a o L.length ac out.length oc _ most 0 (0, 0) O4.out.s0 ?_)
      | (go_at_call 30; refine (HC3 _).out.mono ?_; rintro x w5 ⟨rfl, hb5⟩; have O5 := hide (O4.out.stay hb5); clear hb5 O4 HC3)
      | (refine st_store rfl (.tmp 3) (.tmp 58) rfl w.heap.size (by rfl) a o L.length ac out.length oc _ most 60 (by rfl) _ (by rfl) O5.out.s0 ?_; intro wz hgz hkz; have O6 := hide (O5.out.own hgz hkz);clear c4 zz zz0; have c4 := cells_of O6.out.s0 4; simp [sA] at c4; have zz := O6.out.size; have zz0 := Nat.lt_of_succ_lt zz; clear hgz hkz O5))
    go_wp2_with fail
    go_loopg [14] 0 (fun gk v14 wx => gk = 0 ∧ v14 = .int .i64 0 ∧ Hid (OS B0 w wx (.slice o out.length oc) a L.length ac (q2 : Int) o oc most 60 out #[.slice none 0 0, .int .i64 0, .slice none 0 0, .int .i64 0, .int .i64 0]))
    case atStart => exact ⟨rfl, rfl, O6.out⟩
    case round =>
      obtain ⟨rfl, rfl, OI⟩ := hrel
      clear c4 zz zz0 O6
      have c4' := cells_of OI.out.s0 4
      simp [sA] at c4'
      have hy := OI.out.size
      have hy0 := Nat.lt_of_succ_lt hy
      go_wp2_with (first
        | (refine st_load rfl (.tmp 3) rfl w.heap.size (by rfl) a o L.length ac out.length oc _ most 60 (0, 0) OI.out.s0 ?_)
        | (refine st_store rfl (.tmp 6) (.tmp 119) rfl (w.heap.size + 1) (by rfl) a o L.length ac out.length oc _ most 60 (by rfl) _ (by rfl) OI.out.s1 ?_; intro wy hgy hky; have O9 := hide (OI.out.res hgy hky); clear hgy hky))
      refine bodyPost_ret (v := .agg (sA a L.length ac (q2 : Int) o out.length oc most 60)) ?_ rfl (O9.out.fail HR.out)
      have k0 := cells_of O9.out.s1 0
      have k1 := cells_of O9.out.s1 1
      have k2 := cells_of O9.out.s1 2
      have k3 := cells_of O9.out.s1 3
      have k4 := cells_of O9.out.s1 4
      simp [sA] at k0 k1 k2 k3 k4
      simp [results, Tryz.results59, go_sem, k0, k1, k2, k3, k4, sA]
  obtain ⟨hq3, hq3l, -⟩ := iTk_got h4
  have haw := iTk_lt (lb_le HB.out) h4
  have HC3 := fun w' (hi' : Ints lo hi w' a L) => hide (rbits_got (o := o) (ac := ac) (ol := out.length) (oc := oc) (m := most) hL HB.out hi' (by omega) h4 (DX : Int) rfl)
  rw [h4] at hR
  replace hR : R = if out.length < DB + away then .error 64 else if most < out.length + (LB + more) then .error 65 else .ok (q3, iCpy out (DB + away) (LB + more)) := hR
  have haw2 : away ≤ 16384 := by
    have : 2 ^ DX ≤ 2 ^ 13 := Nat.pow_le_pow_right (by decide) hdx
    omega
  have hq3T : q3 ≤ L.length := by omega
  have HF2 := fun f w' => hide (rfails_c a o L.length ac out.length oc (q3 : Int) most 0 f w')
  clear h4 haw hq3 hq3l HF
  by_cases hbk : out.length < DB + away
  · rw [if_pos hbk] at hR
    have HR := hide hR
    have hbk' : (out.length : Int) < (DB : Int) + away := by omega
    have hn0 : (0 : Int) < (LB : Int) + more := by omega
    clear hR hbk
    go_enter Tryz.func59, Tryz.ntmps59
    go_upto_region 1 with fail
    generalize ((w.alloc (.cells #[.slice a L.length ac, .int .i64 (p : Int), .slice o out.length oc, .int .i64 most, .int .i64 0] 63)).alloc (.cells #[.slice none 0 0, .int .i64 0, .slice none 0 0, .int .i64 0, .int .i64 0] 63)) = w0 at HT ⊢
    go_upto_region 5 with (go_at_call 77; refine (HLo _).out.mono ?_; rintro x wl ⟨rfl, rfl⟩)
    go_upto_region 7 with (first
      | (refine st_load rfl (.tmp 3) rfl w.heap.size (by rfl) a o L.length ac out.length oc _ most 0 (0, 0) HT.out.s0 ?_)
      | (go_at_call 30; refine (HC1 _ (HIN.out _ _ _ _ _ _ _ HT.out)).out.mono ?_; rintro x w1 ⟨rfl, hb1⟩; have O1 := hide (HT.out.stay hb1); clear hb1 HT HC1)
      | (refine st_store rfl (.tmp 3) (.tmp 28) rfl w.heap.size (by rfl) a o L.length ac out.length oc _ most 0 (by rfl) _ (by rfl) O1.out.s0 ?_; intro wz hgz hkz; have O2 := hide (O1.out.own hgz hkz); have c4 := cells_of O2.out.s0 4; simp [sA] at c4; have zz := O2.out.size; have zz0 := Nat.lt_of_succ_lt zz; clear hgz hkz O1))
    go_upto_region 8 with (first
      | (refine st_load rfl (.tmp 3) rfl w.heap.size (by rfl) a o L.length ac out.length oc _ most 0 (0, 0) O2.out.s0 ?_)
      | (go_at_call 58; refine (HC2 _ (HIN.out _ _ _ _ _ _ _ O2.out) (HRW.out _ _ _ _ _ _ _ O2.out)).out.mono ?_; rintro x w3 ⟨rfl, hb3⟩; have O3 := hide (O2.out.stay hb3); clear hb3 O2 HC2)
      | (refine st_store rfl (.tmp 3) (.tmp 34) rfl w.heap.size (by rfl) a o L.length ac out.length oc _ most 0 (by rfl) _ (by rfl) O3.out.s0 ?_; intro wz hgz hkz; have O4 := hide (O3.out.own hgz hkz);clear c4 zz zz0; have c4 := cells_of O4.out.s0 4; simp [sA] at c4; have zz := O4.out.size; have zz0 := Nat.lt_of_succ_lt zz; clear hgz hkz O3))
    go_upto_region 12 with fail
    go_upto_region 14 with (go_at_call 78; refine (HFa _).out.mono ?_; rintro x wl ⟨rfl, rfl⟩)
    go_upto_region 15 with (first
      | (refine st_load rfl (.tmp 3) rfl w.heap.size (by rfl) a o L.length ac out.length oc _ most 0 (0, 0) O4.out.s0 ?_)
      | (go_at_call 30; refine (HC3 _ (HIN.out _ _ _ _ _ _ _ O4.out)).out.mono ?_; rintro x w5 ⟨rfl, hb5⟩; have O5 := hide (O4.out.stay hb5); clear hb5 O4 HC3)
      | (refine st_store rfl (.tmp 3) (.tmp 58) rfl w.heap.size (by rfl) a o L.length ac out.length oc _ most 0 (by rfl) _ (by rfl) O5.out.s0 ?_; intro wz hgz hkz; have O6 := hide (O5.out.own hgz hkz);clear c4 zz zz0; have c4 := cells_of O6.out.s0 4; simp [sA] at c4; have c2 := cells_of O6.out.s0 2; simp [sA] at c2; have zz := O6.out.size; have zz0 := Nat.lt_of_succ_lt zz; clear hgz hkz O5))
    go_upto_region 17 with (first
      | (refine st_load rfl (.tmp 3) rfl w.heap.size (by rfl) a o L.length ac out.length oc _ most 0 (0, 0) O6.out.s0 ?_)
      | (go_at_call 36; refine (HF2 64 _).out.mono ?_; rintro x w7 ⟨rfl, hb7⟩; have O7 := hide (O6.out.stay hb7); clear hb7 O6)
      | (refine st_store rfl (.tmp 3) (.tmp 73) rfl w.heap.size (by rfl) a o L.length ac out.length oc _ most 64 (by rfl) _ (by rfl) O7.out.s0 ?_; intro wz hgz hkz; have O8 := hide (O7.out.own hgz hkz);clear c4 c2 zz zz0; have c4 := cells_of O8.out.s0 4; simp [sA] at c4; have zz := O8.out.size; have zz0 := Nat.lt_of_succ_lt zz; clear hgz hkz O7))
    go_wp2_with fail
    go_loopg [14] 0 (fun gk v14 wx => gk = 0 ∧ v14 = .int .i64 0 ∧ Hid (OS B0 w wx (.slice o out.length oc) a L.length ac (q3 : Int) o oc most 64 out #[.slice none 0 0, .int .i64 0, .slice none 0 0, .int .i64 0, .int .i64 0]))
    case atStart => exact ⟨rfl, rfl, O8.out⟩
    case round =>
      obtain ⟨rfl, rfl, OI⟩ := hrel
      clear c4 zz zz0 O8
      have c4' := cells_of OI.out.s0 4
      simp [sA] at c4'
      have hy := OI.out.size
      have hy0 := Nat.lt_of_succ_lt hy
      go_wp2_with (first
        | (refine st_load rfl (.tmp 3) rfl w.heap.size (by rfl) a o L.length ac out.length oc _ most 64 (0, 0) OI.out.s0 ?_)
        | (refine st_store rfl (.tmp 6) (.tmp 119) rfl (w.heap.size + 1) (by rfl) a o L.length ac out.length oc _ most 64 (by rfl) _ (by rfl) OI.out.s1 ?_; intro wy hgy hky; have O9 := hide (OI.out.res hgy hky); clear hgy hky))
      refine bodyPost_ret (v := .agg (sA a L.length ac (q3 : Int) o out.length oc most 64)) ?_ rfl (O9.out.fail HR.out)
      have k0 := cells_of O9.out.s1 0
      have k1 := cells_of O9.out.s1 1
      have k2 := cells_of O9.out.s1 2
      have k3 := cells_of O9.out.s1 3
      have k4 := cells_of O9.out.s1 4
      simp [sA] at k0 k1 k2 k3 k4
      simp [results, Tryz.results59, go_sem, k0, k1, k2, k3, k4, sA]
  rw [if_neg hbk] at hR
  have hbk' : ¬ (out.length : Int) < (DB : Int) + away := by omega
  by_cases hov : most < out.length + (LB + more)
  · rw [if_pos hov] at hR
    have HR := hide hR
    have hov' : (most : Int) < (out.length : Int) + (LB : Int) + more := by omega
    have hn0 : (0 : Int) < (LB : Int) + more := by omega
    clear hR hov hbk
    go_enter Tryz.func59, Tryz.ntmps59
    go_upto_region 1 with fail
    generalize ((w.alloc (.cells #[.slice a L.length ac, .int .i64 (p : Int), .slice o out.length oc, .int .i64 most, .int .i64 0] 63)).alloc (.cells #[.slice none 0 0, .int .i64 0, .slice none 0 0, .int .i64 0, .int .i64 0] 63)) = w0 at HT ⊢
    go_upto_region 5 with (go_at_call 77; refine (HLo _).out.mono ?_; rintro x wl ⟨rfl, rfl⟩)
    go_upto_region 7 with (first
      | (refine st_load rfl (.tmp 3) rfl w.heap.size (by rfl) a o L.length ac out.length oc _ most 0 (0, 0) HT.out.s0 ?_)
      | (go_at_call 30; refine (HC1 _ (HIN.out _ _ _ _ _ _ _ HT.out)).out.mono ?_; rintro x w1 ⟨rfl, hb1⟩; have O1 := hide (HT.out.stay hb1); clear hb1 HT HC1)
      | (refine st_store rfl (.tmp 3) (.tmp 28) rfl w.heap.size (by rfl) a o L.length ac out.length oc _ most 0 (by rfl) _ (by rfl) O1.out.s0 ?_; intro wz hgz hkz; have O2 := hide (O1.out.own hgz hkz); have c4 := cells_of O2.out.s0 4; simp [sA] at c4; have zz := O2.out.size; have zz0 := Nat.lt_of_succ_lt zz; clear hgz hkz O1))
    go_upto_region 8 with (first
      | (refine st_load rfl (.tmp 3) rfl w.heap.size (by rfl) a o L.length ac out.length oc _ most 0 (0, 0) O2.out.s0 ?_)
      | (go_at_call 58; refine (HC2 _ (HIN.out _ _ _ _ _ _ _ O2.out) (HRW.out _ _ _ _ _ _ _ O2.out)).out.mono ?_; rintro x w3 ⟨rfl, hb3⟩; have O3 := hide (O2.out.stay hb3); clear hb3 O2 HC2)
      | (refine st_store rfl (.tmp 3) (.tmp 34) rfl w.heap.size (by rfl) a o L.length ac out.length oc _ most 0 (by rfl) _ (by rfl) O3.out.s0 ?_; intro wz hgz hkz; have O4 := hide (O3.out.own hgz hkz);clear c4 zz zz0; have c4 := cells_of O4.out.s0 4; simp [sA] at c4; have zz := O4.out.size; have zz0 := Nat.lt_of_succ_lt zz; clear hgz hkz O3))
    go_upto_region 12 with fail
    go_upto_region 14 with (go_at_call 78; refine (HFa _).out.mono ?_; rintro x wl ⟨rfl, rfl⟩)
    go_upto_region 15 with (first
      | (refine st_load rfl (.tmp 3) rfl w.heap.size (by rfl) a o L.length ac out.length oc _ most 0 (0, 0) O4.out.s0 ?_)
      | (go_at_call 30; refine (HC3 _ (HIN.out _ _ _ _ _ _ _ O4.out)).out.mono ?_; rintro x w5 ⟨rfl, hb5⟩; have O5 := hide (O4.out.stay hb5); clear hb5 O4 HC3)
      | (refine st_store rfl (.tmp 3) (.tmp 58) rfl w.heap.size (by rfl) a o L.length ac out.length oc _ most 0 (by rfl) _ (by rfl) O5.out.s0 ?_; intro wz hgz hkz; have O6 := hide (O5.out.own hgz hkz);clear c4 zz zz0; have c4 := cells_of O6.out.s0 4; simp [sA] at c4; have c2 := cells_of O6.out.s0 2; simp [sA] at c2; have c3 := cells_of O6.out.s0 3; simp [sA] at c3; have zz := O6.out.size; have zz0 := Nat.lt_of_succ_lt zz; clear hgz hkz O5))
    go_upto_region 19 with (first
      | (refine st_load rfl (.tmp 3) rfl w.heap.size (by rfl) a o L.length ac out.length oc _ most 0 (0, 0) O6.out.s0 ?_)
      | (go_at_call 36; refine (HF2 65 _).out.mono ?_; rintro x w7 ⟨rfl, hb7⟩; have O7 := hide (O6.out.stay hb7); clear hb7 O6)
      | (refine st_store rfl (.tmp 3) (.tmp 90) rfl w.heap.size (by rfl) a o L.length ac out.length oc _ most 65 (by rfl) _ (by rfl) O7.out.s0 ?_; intro wz hgz hkz; have O8 := hide (O7.out.own hgz hkz);clear c4 c2 c3 zz zz0; have c4 := cells_of O8.out.s0 4; simp [sA] at c4; have zz := O8.out.size; have zz0 := Nat.lt_of_succ_lt zz; clear hgz hkz O7))
    go_wp2_with fail
    go_loopg [14] 0 (fun gk v14 wx => gk = 0 ∧ v14 = .int .i64 0 ∧ Hid (OS B0 w wx (.slice o out.length oc) a L.length ac (q3 : Int) o oc most 65 out #[.slice none 0 0, .int .i64 0, .slice none 0 0, .int .i64 0, .int .i64 0]))
    case atStart => exact ⟨rfl, rfl, O8.out⟩
    case round =>
      obtain ⟨rfl, rfl, OI⟩ := hrel
      clear c4 zz zz0 O8
      have c4' := cells_of OI.out.s0 4
      simp [sA] at c4'
      have hy := OI.out.size
      have hy0 := Nat.lt_of_succ_lt hy
      go_wp2_with (first
        | (refine st_load rfl (.tmp 3) rfl w.heap.size (by rfl) a o L.length ac out.length oc _ most 65 (0, 0) OI.out.s0 ?_)
        | (refine st_store rfl (.tmp 6) (.tmp 119) rfl (w.heap.size + 1) (by rfl) a o L.length ac out.length oc _ most 65 (by rfl) _ (by rfl) OI.out.s1 ?_; intro wy hgy hky; have O9 := hide (OI.out.res hgy hky); clear hgy hky))
      refine bodyPost_ret (v := .agg (sA a L.length ac (q3 : Int) o out.length oc most 65)) ?_ rfl (O9.out.fail HR.out)
      have k0 := cells_of O9.out.s1 0
      have k1 := cells_of O9.out.s1 1
      have k2 := cells_of O9.out.s1 2
      have k3 := cells_of O9.out.s1 3
      have k4 := cells_of O9.out.s1 4
      simp [sA] at k0 k1 k2 k3 k4
      simp [results, Tryz.results59, go_sem, k0, k1, k2, k3, k4, sA]
  rw [if_neg hov] at hR
  have hov' : ¬ (most : Int) < (out.length : Int) + (LB : Int) + more := by omega
  have HR := hide hR
  replace hbk : DB + away ≤ out.length := by omega
  replace hov : out.length + (LB + more) ≤ most := by omega
  clear hR
  go_enter Tryz.func59, Tryz.ntmps59
  go_upto_region 1 with fail
  generalize ((w.alloc (.cells #[.slice a L.length ac, .int .i64 (p : Int), .slice o out.length oc, .int .i64 most, .int .i64 0] 63)).alloc (.cells #[.slice none 0 0, .int .i64 0, .slice none 0 0, .int .i64 0, .int .i64 0] 63)) = w0 at HT ⊢
  go_upto_region 5 with (go_at_call 77; refine (HLo _).out.mono ?_; rintro x wl ⟨rfl, rfl⟩)
  go_upto_region 7 with (first
    | (refine st_load rfl (.tmp 3) rfl w.heap.size (by rfl) a o L.length ac out.length oc _ most 0 (0, 0) HT.out.s0 ?_)
    | (go_at_call 30; refine (HC1 _ (HIN.out _ _ _ _ _ _ _ HT.out)).out.mono ?_; rintro x w1 ⟨rfl, hb1⟩; have O1 := hide (HT.out.stay hb1); clear hb1 HT HC1)
    | (refine st_store rfl (.tmp 3) (.tmp 28) rfl w.heap.size (by rfl) a o L.length ac out.length oc _ most 0 (by rfl) _ (by rfl) O1.out.s0 ?_; intro wz hgz hkz; have O2 := hide (O1.out.own hgz hkz); have c4 := cells_of O2.out.s0 4; simp [sA] at c4; have zz := O2.out.size; have zz0 := Nat.lt_of_succ_lt zz; clear hgz hkz O1))
  go_upto_region 8 with (first
    | (refine st_load rfl (.tmp 3) rfl w.heap.size (by rfl) a o L.length ac out.length oc _ most 0 (0, 0) O2.out.s0 ?_)
    | (go_at_call 58; refine (HC2 _ (HIN.out _ _ _ _ _ _ _ O2.out) (HRW.out _ _ _ _ _ _ _ O2.out)).out.mono ?_; rintro x w3 ⟨rfl, hb3⟩; have O3 := hide (O2.out.stay hb3); clear hb3 O2 HC2)
    | (refine st_store rfl (.tmp 3) (.tmp 34) rfl w.heap.size (by rfl) a o L.length ac out.length oc _ most 0 (by rfl) _ (by rfl) O3.out.s0 ?_; intro wz hgz hkz; have O4 := hide (O3.out.own hgz hkz);clear c4 zz zz0; have c4 := cells_of O4.out.s0 4; simp [sA] at c4; have zz := O4.out.size; have zz0 := Nat.lt_of_succ_lt zz; clear hgz hkz O3))
  go_upto_region 12 with fail
  go_upto_region 14 with (go_at_call 78; refine (HFa _).out.mono ?_; rintro x wl ⟨rfl, rfl⟩)
  go_upto_region 15 with (first
    | (refine st_load rfl (.tmp 3) rfl w.heap.size (by rfl) a o L.length ac out.length oc _ most 0 (0, 0) O4.out.s0 ?_)
    | (go_at_call 30; refine (HC3 _ (HIN.out _ _ _ _ _ _ _ O4.out)).out.mono ?_; rintro x w5 ⟨rfl, hb5⟩; have O5 := hide (O4.out.stay hb5); clear hb5 O4 HC3)
    | (refine st_store rfl (.tmp 3) (.tmp 58) rfl w.heap.size (by rfl) a o L.length ac out.length oc _ most 0 (by rfl) _ (by rfl) O5.out.s0 ?_; intro wz hgz hkz; have O6 := hide (O5.out.own hgz hkz);clear c4 zz zz0; have c4 := cells_of O6.out.s0 4; simp [sA] at c4; have c2 := cells_of O6.out.s0 2; simp [sA] at c2; have c3 := cells_of O6.out.s0 3; simp [sA] at c3; have zz := O6.out.size; have zz0 := Nat.lt_of_succ_lt zz; clear hgz hkz O5))
  go_wp2_with fail
  obtain ⟨n, hn⟩ : ∃ n, n = LB + more := ⟨_, rfl⟩
  obtain ⟨d, hd⟩ : ∃ d, d = DB + away := ⟨_, rfl⟩
  rw [← hn, ← hd] at HR
  rw [← hn] at hov
  have hni : (LB : Int) + (more : Int) = (n : Int) := by omega
  clear c4 c2 c3
  go_loopg [14] n (fun gk v14 wx => ∃ (i : Nat) (o' : Option Addr) (oc' : Nat) (_ : i + gk = n), v14 = .int .i64 (i : Int) ∧ Hid (OS B0 w wx (.slice o out.length oc) a L.length ac (q3 : Int) o' oc' most 0 (iCpy out d i) #[.slice none 0 0, .int .i64 0, .slice none 0 0, .int .i64 0, .int .i64 0]))
  case atStart => exact ⟨0, o, oc, by omega, rfl, O6.out⟩
  case round =>
    obtain ⟨i, o', oc', hig, rfl, OI⟩ := hrel
    clear O6
    have zi := OI.out.size
    have zi0 := Nat.lt_of_succ_lt zi
    have c4 := cells_of OI.out.s0 4
    simp [sA] at c4
    cases gk with
    | zero =>
      obtain rfl : i = n := by omega
      have hle : ¬ (i : Int) < (i : Int) := by omega
      clear hni
      have hle2 : ¬ (i : Int) < (LB : Int) + more := by omega
      go_wp2_with (first
        | (refine st_load rfl (.tmp 3) rfl w.heap.size (by rfl) a o' L.length ac _ oc' _ most 0 (0, 0) OI.out.s0 ?_)
        | (refine st_store rfl (.tmp 6) (.tmp 119) rfl (w.heap.size + 1) (by rfl) a o' L.length ac _ oc' _ most 0 (by rfl) _ (by rfl) OI.out.s1 ?_; intro wy hgy hky; have O9 := hide (OI.out.res hgy hky); clear hgy hky))
      refine bodyPost_ret (v := .agg (sA a L.length ac (q3 : Int) o' (iCpy out d i).length oc' most 0)) ?_ rfl (O9.out.done HR.out)
      have k0 := cells_of O9.out.s1 0
      have k1 := cells_of O9.out.s1 1
      have k2 := cells_of O9.out.s1 2
      have k3 := cells_of O9.out.s1 3
      have k4 := cells_of O9.out.s1 4
      simp [sA] at k0 k1 k2 k3 k4
      simp [results, Tryz.results59, go_sem, k0, k1, k2, k3, k4, sA]
    | succ g1 =>
      have hlt : (i : Int) < (LB : Int) + more := by omega
      clear hni
      obtain ⟨F, hF⟩ : ∃ F, F = iCpy out d i := ⟨_, rfl⟩
      have hFl : F.length = out.length + i := by rw [hF, iCpy_length']
      obtain ⟨j, hj⟩ : ∃ j, j = F.length - d := ⟨_, rfl⟩
      have HFS : Hid (iCpy out d (i + 1) = F ++ [ln F j]) := by rw [iCpy_succ, ← hF, hj, hFl]; exact rfl
      rw [← hF] at OI
      have hjl : j < F.length := by omega
      have hFm : F.length ≤ 1000000 := by omega
      have hw1 : IntKind.i64.wrap ((F.length : Int) - (DB : Int)) = (F.length : Int) - (DB : Int) := by simp only [IntKind.wrap_i64]; omega
      have hw2 : IntKind.i64.wrap ((F.length : Int) - (DB : Int) - (away : Int)) = (j : Int) := by simp only [IntKind.wrap_i64]; omega
      clear hF
      obtain ⟨g, hgo, hgl⟩ : ∃ g, o' = some ⟨g, 0, none⟩ ∧ g < wr.heap.size := by
        obtain ⟨g, cap, hv9, _, hlt9⟩ := World.ownsRow.form OI.out.owns (by omega)
        simp at hv9
        exact ⟨g, hv9.1, hlt9⟩
      subst hgo
      have hcg : wr.cell? ⟨g, j, none⟩ = some (.int .u8 (ln F j)) := by
        rw [World.ownsRow.cellAt OI.out.owns j (by omega)]
        simp [ln, List.getD, hjl]
      generalize ln F j = X at HFS hcg
      have c2 := cells_of OI.out.s0 2
      simp [sA] at c2
      have f2 := free_of OI.out.s0 2
      have OD : Hid (OS B0 w wr.drew (.slice o out.length oc) a L.length ac (q3 : Int) (some ⟨g, 0, none⟩) oc' most 0 F #[.slice none 0 0, .int .i64 0, .slice none 0 0, .int .i64 0, .int .i64 0]) := ⟨OI.out.s0, OI.out.s1, OI.out.owns, Kept.drew OI.out.kept, OI.out.old⟩
      have i1 : (0 : Int) ≤ (j : Int) := by omega
      have i2 : (j : Int) < (F.length : Int) := by omega
      have hBz : B0 ≤ wr.heap.size := by have := OI.out.kept.size; omega
      clear hFl hj OI
      go_upto_region 22 with fail
      go_region_law (first
          | (refine step_append_lies _ (by rfl) _ _ 23 (by rfl) B0 5 j0 (.int .u8 0) 1 1 Tryz.underlying23 hj0 hj1 hj2 hj3 rfl (by omega) (.slice (some ⟨g, 0, none⟩) F.length oc') F.length (F.map (Value.int .u8)) (by rfl) (World.ownsRow.alloc OD.out.owns _) ⟨wr.heap.size, 0, none⟩ 1 1 [.int .u8 X] (by rfl) rfl (one_byte wr.drew _) (by intro u hu; simp at hu; subst hu; rfl) (by omega) (by unfold maxLen; omega) (by omega) (by simp; omega) (wr.heap.size + 1) (by simp) ?_; intro g4 c5 w4 hown' hgrow hat hlt4; have P9 := hide (OD.out.push hown' hgrow hat); have hA9 := OD.out.after hgrow; have d2 := cells_of hA9 2; have f22 := free_of hA9 2; have hz4 := lt_of_block hA9; simp [sA] at d2; clear hown' hgrow hat hlt4 hA9))
      all_goals (go_wp2_with fail)
      all_goals go_roundg g1
      all_goals (first
        | omega
        | (refine ⟨i + 1, some ⟨g4, 0, none⟩, c5, by omega, by go_num, ?_⟩
           rw [HFS.out]
           exact P9.out))
end Go.Proofs.YtlakgbckopjelabGreatDoor
