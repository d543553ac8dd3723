/- The reference's data: contract. -/
import Derived.Test.YtlakgbckopjelabGreatDoorRRun
namespace Go.Proofs.YtlakgbckopjelabGreatDoor
set_option maxRecDepth 100000
open Go Go.RowKit

theorem iOn_okR {r : Except Int (Nat × List Int)} {q : Nat} {o : List Int} (h : r = .ok (q, o)) : iOn r = .ok (q, (true, o)) := by rw [h]; rfl
theorem iOn_errR {r : Except Int (Nat × List Int)} {e : Int} (h : r = .error e) : iOn r = .error e := by rw [h]; rfl
theorem iRun_e {D : List Int} {b : Nat → Nat} {T most q v : Nat} {out : List Int} {e : Int} (h : iRun D b T most q v out = .error e) : 60 ≤ e ∧ e ≤ 65 := by
  unfold iRun iLong iBack at h
  have key : ∀ {α : Type} {r : Except Int (Nat × α)}, iBad r → r = .error e → 60 ≤ e ∧ e ≤ 65 := fun hb hr => hb e hr
  refine key (iBad_then (iBad_if (iBad_err (by omega)) (iBad_then (iBad_tk _ _ _ _) fun _ _ => iBad_ok _)) fun _ _ => iBad_then (iBad_then (iBad_nx _ _ _ _) fun _ _ => iBad_if (iBad_err (by omega)) (iBad_then (iBad_tk _ _ _ _) fun _ _ => iBad_ok _)) fun _ _ => iBad_if (iBad_err (by omega)) (iBad_if (iBad_err (by omega)) (iBad_ok _))) h

/-- Between two symbols: all well, or an error. -/
def DRel (B0 : Nat) (w : World) (ov : Value) (a : Option Addr) (al ac : Nat) (most : Nat) (S D : List Int) (b : Nat → Nat) (ra rb : Option Addr) (R : Except Int (Nat × List Int)) (gk : Nat) (wx : World) : Prop :=
  (∃ (p : Nat) (out : List Int) (o : Option Addr) (oc : Nat), p + gk = al ∧ out.length ≤ most ∧ R = iLoop al (iOne S D b al most) p out ∧ OS B0 w wx ov a al ac (p : Int) o oc (most : Int) 0 out #[.slice none 0 0, .int .i64 0, .slice none 0 0, .int .i64 0, .int .i64 0] ∧ RAt2 wx ra S ∧ RAt2 wx rb D)
  ∨ (∃ (e q : Int) (o : Option Addr) (ol oc : Nat), 60 ≤ e ∧ e ≤ 65 ∧ R = .error e ∧ OE w wx ov (sA a al ac q o ol oc (most : Int) e) #[.slice none 0 0, .int .i64 0, .slice none 0 0, .int .i64 0, .int .i64 0])

set_option maxHeartbeats 16000000 in
theorem rdata_c (B0 lo hi BS : Nat) (a o a1 a2 : Option Addr) (ac oc c1 c2 : Nat) (L out S D : List Int) (p most : Nat) (w : World) (hL : L.length ≤ 1000000) (hb : Bin L) (hp : p ≤ L.length) (hl : Ints lo hi w a L) (hhi : hi ≤ B0) (hB : B0 ≤ w.heap.size) (ho : OwnsB w B0 (.slice o out.length oc) out) (hm : most ≤ 1000000) (hol : out.length ≤ most)
    (hi1 : Ints 0 BS w a1 S) (hi2 : Ints 0 BS w a2 D) (hg : Good S) (h3 : S.length ≤ 320) (hg' : Good D) (h3' : D.length ≤ 320) :
    Calls Tryz.prog 32 #[.agg (sA a L.length ac p o out.length oc most 0), .slice a1 S.length c1, .slice a2 D.length c2] w (StOk B0 w (.slice o out.length oc) a L.length ac most (iDat S D (lb L) L.length most p out)) := by
  obtain ⟨j0, hj0, hj1, hj2, hj3⟩ := info_parts Tryz.info5
  have HB := hide hb
  have HG := hide hg
  have HG' := hide hg'
  have HOV : Hid (∀ g, (Value.slice o out.length oc).ownBlock = some g → B0 ≤ g) := fun g hg => (ownsRow_lt ho hg).1
  have HT : Hid (OS B0 w ((w.alloc (.cells (sA a L.length ac p o out.length oc most 0) 63)).alloc (.cells zA 63)) (.slice o out.length oc) a L.length ac p o oc most 0 out zA) := OS.new zA ho
  have HIN : Hid (∀ wz p' o' oc' e' out' rv', OS B0 w wz (.slice o out.length oc) a L.length ac p' o' oc' most e' out' rv' → Ints lo hi wz a L) := fun wz p' o' oc' e' out' rv' hz => hz.ints HOV.out hB hl hhi
  have HBW : Hid (Below w.heap.size w ((w.alloc (.cells (sA a L.length ac p o out.length oc most 0) 63)).alloc (.cells zA 63))) := ((Below.refl _ w).alloc (Nat.le_refl _) _).alloc (by simp) _
  have HI1 := hide hi1
  have HI2 := hide hi2
  obtain ⟨R, hR⟩ : ∃ R, R = iDat S D (lb L) L.length most p out := ⟨_, rfl⟩
  rw [← hR]
  have HR0 := hide hR
  unfold iDat at HR0
  unfold sA zA at HT HBW
  show Calls Tryz.prog 32 #[.agg #[.slice a L.length ac, .int .i64 (p : Int), .slice o out.length oc, .int .i64 most, .int .i64 0], .slice a1 S.length c1, .slice a2 D.length c2] w _
  clear hb hl ho hg hg' hi1 hi2 hR
  go_enter Tryz.func32, Tryz.ntmps32
  go_upto_region 1 with fail
  generalize ((w.alloc (.cells #[.slice a L.length ac, .int .i64 (p : Int), .slice o out.length oc, .int .i64 most, .int .i64 0] 63)).alloc (.cells #[.slice none 0 0, .int .i64 0, .slice none 0 0, .int .i64 0, .int .i64 0] 63)) = w0 at HT HBW ⊢
  have HQ1 := hide (rRows_c BS a1 c1 S w0 h3 HG.out (HI1.out.stay HBW.out))
  go_upto_region 2 with (go_at_call 57; refine HQ1.out.mono ?_; rintro x w1 ⟨ra, rc1, rfl, q1, b1⟩; have Q1 := hide q1; have B1 := hide b1; have O1 := hide (HT.out.stay b1); have W1 := hide (HBW.out.trans (b1.mono HBW.out.size)); clear q1 b1 HT HQ1)
  have HQ2 := hide (rRows_c BS a2 c2 D w1 h3' HG'.out (HI2.out.stay W1.out))
  go_wp2_with (go_at_call 57; refine HQ2.out.mono ?_; rintro x w2 ⟨rb, rc2, rfl, q2, b2⟩; have Q2 := hide q2; have Q1' := hide (Q1.out.stay b2); have O2 := hide (O1.out.stay b2); clear q2 b2 O1 Q1 HQ2)
  clear HI1 HI2 HBW W1 B1
  go_loopg [] (L.length - p) (fun gk wx => Hid (DRel B0 w (.slice o out.length oc) a L.length ac most S D (lb L) ra rb R gk wx))
  case atStart => exact .inl ⟨p, out, o, oc, by omega, hol, HR0.out, O2.out, Q1'.out, Q2.out⟩
  case round =>
    clear O2 Q1' Q2 HR0
    rcases hrel.out with ⟨p', out', o', oc', hpg, ho', hRR, hO, hQ, hQ'⟩ | ⟨e, q, o', ol, oc', e1, e2, hRR, hE⟩
    case inr =>
      have HE := hide hE
      have HRR := hide hRR
      have hne : ¬ e = 0 := by omega
      have c4 := cells_of hE.s0 4
      simp [sA] at c4
      have zz := hE.size
      have zz0 := Nat.lt_of_succ_lt zz
      clear hE hRR hrel
      go_wp2_with (first
        | (refine st_load rfl (.tmp 3) rfl w.heap.size (by rfl) a o' L.length ac ol oc' q most e (0, 0) HE.out.s0 ?_)
        | (refine st_store rfl (.tmp 6) (.tmp 52) rfl (w.heap.size + 1) (by rfl) a o' L.length ac ol oc' q most e (by rfl) _ (by rfl) HE.out.s1 ?_; intro wy hgy hky; have O9 := hide (HE.out.res hgy hky); clear hgy hky))
      refine bodyPost_ret (v := .agg (sA a L.length ac q o' ol oc' most e)) ?_ rfl (O9.out.fail HRR.out)
      have k0 := cells_of O9.out.s1 0
      have k1 := cells_of O9.out.s1 1
      have k2 := cells_of O9.out.s1 2
      have k3 := cells_of O9.out.s1 3
      have k4 := cells_of O9.out.s1 4
      simp [sA] at k0 k1 k2 k3 k4
      simp [results, Tryz.results32, go_sem, k0, k1, k2, k3, k4, sA]
    case inl =>
    have OI := hide hO
    have QI := hide hQ
    have QJ := hide hQ'
    have HRR := hide hRR
    have c4 := cells_of hO.s0 4
    simp [sA] at c4
    have zz := hO.size
    have zz0 := Nat.lt_of_succ_lt zz
    have hpT : p' ≤ L.length := by omega
    clear hO hQ hQ' hRR hrel
    rcases h1 : iNx S (lb L) L.length p' with e | ⟨q, v⟩
    · have hee := iNx_e h1
      have hne : ¬ e = 0 := by omega
      have HN := hide (rnext_bad (o := o') (ac := ac) (ol := out'.length) (oc := oc') (rc := rc1) (m := most) h3 HG.out hL HB.out hpT (HIN.out _ _ _ _ _ _ _ OI.out) QI.out h1)
      have HRE := hide (HRR.out.trans (iLoop_err (iOne_err h1)))
      clear h1 HRR
      go_upto_region 6 with (first
        | (refine st_load rfl (.tmp 3) rfl w.heap.size (by rfl) a o' L.length ac _ oc' _ most 0 (0, 0) OI.out.s0 ?_)
        | (go_at_call 58; refine HN.out.mono ?_; rintro x w3 ⟨rfl, hb3⟩; have O3 := hide (OI.out.stay hb3); clear hb3 OI HN)
        | (refine st_store rfl (.tmp 3) (.tmp 21) rfl w.heap.size (by rfl) a o' L.length ac _ oc' _ most e (by rfl) _ (by rfl) O3.out.s0 ?_; intro wz hgz hkz; have O4 := hide (O3.out.own hgz hkz);clear c4 zz zz0; have c4 := cells_of O4.out.s0 4; simp [sA] at c4; have zz := O4.out.size; have zz0 := Nat.lt_of_succ_lt zz; clear hgz hkz O3))
      go_wp2_with (first
        | (refine st_load rfl (.tmp 3) rfl w.heap.size (by rfl) a o' L.length ac _ oc' _ most e (0, 0) O4.out.s0 ?_)
        | (refine st_store rfl (.tmp 6) (.tmp 30) rfl (w.heap.size + 1) (by rfl) a o' L.length ac _ oc' _ most e (by rfl) _ (by rfl) O4.out.s1 ?_; intro wy hgy hky; have O9 := hide (O4.out.res hgy hky); clear hgy hky))
      refine bodyPost_ret (v := .agg (sA a L.length ac (p' : Int) o' out'.length oc' most e)) ?_ rfl (O9.out.fail HRE.out)
      have k0 := cells_of O9.out.s1 0
      have k1 := cells_of O9.out.s1 1
      have k2 := cells_of O9.out.s1 2
      have k3 := cells_of O9.out.s1 3
      have k4 := cells_of O9.out.s1 4
      simp [sA] at k0 k1 k2 k3 k4
      simp [results, Tryz.results32, go_sem, k0, k1, k2, k3, k4, sA]
    obtain ⟨hv, hpq⟩ := iNx_lt h1
    have HN := hide (rnext_got (o := o') (ac := ac) (ol := out'.length) (oc := oc') (rc := rc1) (m := most) h3 HG.out hL HB.out hpT (HIN.out _ _ _ _ _ _ _ OI.out) QI.out h1)
    have hqT : q ≤ L.length := by
      obtain ⟨n, rfl, hh⟩ := iNx_got h1
      have := hh.1; omega
    by_cases hend : v = 256
    · subst hend
      have HRE := hide (HRR.out.trans (iLoop_end (iOne_end h1)))
      clear h1 HRR
      go_upto_region 6 with (first
        | (refine st_load rfl (.tmp 3) rfl w.heap.size (by rfl) a o' L.length ac _ oc' _ most 0 (0, 0) OI.out.s0 ?_)
        | (go_at_call 58; refine HN.out.mono ?_; rintro x w3 ⟨rfl, hb3⟩; have O3 := hide (OI.out.stay hb3); clear hb3 OI HN)
        | (refine st_store rfl (.tmp 3) (.tmp 21) rfl w.heap.size (by rfl) a o' L.length ac _ oc' _ most 0 (by rfl) _ (by rfl) O3.out.s0 ?_; intro wz hgz hkz; have O4 := hide (O3.out.own hgz hkz);clear c4 zz zz0; have c4 := cells_of O4.out.s0 4; simp [sA] at c4; have zz := O4.out.size; have zz0 := Nat.lt_of_succ_lt zz; clear hgz hkz O3))
      go_wp2_with (first
        | (refine st_load rfl (.tmp 3) rfl w.heap.size (by rfl) a o' L.length ac _ oc' _ most 0 (0, 0) O4.out.s0 ?_)
        | (refine st_store rfl (.tmp 6) (.tmp 30) rfl (w.heap.size + 1) (by rfl) a o' L.length ac _ oc' _ most 0 (by rfl) _ (by rfl) O4.out.s1 ?_; intro wy hgy hky; have O9 := hide (O4.out.res hgy hky); clear hgy hky))
      refine bodyPost_ret (v := .agg (sA a L.length ac (q : Int) o' out'.length oc' most 0)) ?_ rfl (O9.out.done HRE.out)
      have k0 := cells_of O9.out.s1 0
      have k1 := cells_of O9.out.s1 1
      have k2 := cells_of O9.out.s1 2
      have k3 := cells_of O9.out.s1 3
      have k4 := cells_of O9.out.s1 4
      simp [sA] at k0 k1 k2 k3 k4
      simp [results, Tryz.results32, go_sem, k0, k1, k2, k3, k4, sA]
    have hend' : ¬ (v : Int) = 256 := by omega
    by_cases hrun : 256 < v
    · have hrun' : (256 : Int) < v := by omega
      have hO := iOne_run (D := D) (most := most) (out := out') h1 hrun
      have hRun := fun wz (hi' : Ints lo hi wz a L) (hB' : B0 ≤ wz.heap.size) (ow : OwnsB wz B0 (.slice o' out'.length oc') out') (hr' : RAt2 wz rb D) => rrun_c B0 lo hi a o' rb ac oc' rc2 L out' D q most v wz hL HB.out hqT hi' hhi hB' ow hm ho' hr' HG'.out h3' (by omega) (by omega)
      rcases h2 : iRun D (lb L) L.length most q v out' with e | ⟨q2, out2⟩
      · rw [h2] at hRun
        have HRn := fun wz a1 a2 a3 a4 => hide ((hRun wz a1 a2 a3 a4).mono fun _ _ => StOk.bad rfl)
        have HRE := hide (HRR.out.trans (iLoop_err (hO.trans (iOn_errR h2))))
        have hee := iRun_e h2
        obtain ⟨e1, e2⟩ := hee
        clear h1 h2 hO hRun HRR
        cases gk with
        | zero => omega
        | succ g1 =>
          go_upto_region 6 with (first
            | (refine st_load rfl (.tmp 3) rfl w.heap.size (by rfl) a o' L.length ac _ oc' _ most 0 (0, 0) OI.out.s0 ?_)
            | (go_at_call 58; refine HN.out.mono ?_; rintro x w3 ⟨rfl, hb3⟩; have O3 := hide (OI.out.stay hb3); have Q3 := hide (QI.out.stay hb3); have Q3' := hide (QJ.out.stay hb3); clear hb3 OI HN)
            | (refine st_store rfl (.tmp 3) (.tmp 21) rfl w.heap.size (by rfl) a o' L.length ac _ oc' _ most 0 (by rfl) _ (by rfl) O3.out.s0 ?_; intro wz hgz hkz; have O4 := hide (O3.out.own hgz hkz); have Q4 := hide (Q3.out.kept hkz (fun b cs t hb _ hs e => by subst e; rw [O3.out.s0] at hb; simp at hb; exact hs hb.2.symm)); have Q4' := hide (Q3'.out.kept hkz (fun b cs t hb _ hs e => by subst e; rw [O3.out.s0] at hb; simp at hb; exact hs hb.2.symm));clear c4 zz zz0; have c4 := cells_of O4.out.s0 4; simp [sA] at c4; have zz := O4.out.size; have zz0 := Nat.lt_of_succ_lt zz; clear hgz hkz O3))
          go_wp2_with (first
            | (refine st_load rfl (.tmp 3) rfl w.heap.size (by rfl) a o' L.length ac _ oc' _ most 0 (0, 0) O4.out.s0 ?_)
            | (go_at_call 59; refine (HRn _ (HIN.out _ _ _ _ _ _ _ O4.out) (by have := O4.out.kept.size; omega) O4.out.owns Q4'.out).out.mono ?_; rintro x w5 ⟨q5, o5, ol5, oc5, rfl, k5⟩; have E5 := hide (O4.out.called k5); clear k5 O4 HRn)
            | (refine st_store rfl (.tmp 3) (.tmp 36) rfl w.heap.size (by rfl) a o5 L.length ac ol5 oc5 q5 most e (by rfl) _ (by rfl) E5.out.s0 ?_; intro wz hgz hkz; have E6 := hide (E5.out.own hgz hkz); clear hgz hkz E5))
          go_roundg (0 : Nat)
          case measure => omega
          case rel => exact .inr ⟨e, q5, o5, ol5, oc5, e1, e2, HRE.out, E6.out⟩
      · have ho2 := iRun_le h2
        have hgo := iGo_one S D (lb L) L.length most p' out' q2 _ (hO.trans (iOn_okR h2))
        rw [h2] at hRun
        have HRn := fun wz a1 a2 a3 a4 => hide ((hRun wz a1 a2 a3 a4).mono fun _ _ => StOk.got rfl)
        have HRE := hide (HRR.out.trans (iLoop_on (hO.trans (iOn_okR h2)) hgo.1 hgo.2))
        have hpq2 := hgo.1
        have hql2 := hgo.2
        clear h1 h2 hO hRun HRR hgo
        cases gk with
        | zero => omega
        | succ g1 =>
          go_upto_region 6 with (first
            | (refine st_load rfl (.tmp 3) rfl w.heap.size (by rfl) a o' L.length ac _ oc' _ most 0 (0, 0) OI.out.s0 ?_)
            | (go_at_call 58; refine HN.out.mono ?_; rintro x w3 ⟨rfl, hb3⟩; have O3 := hide (OI.out.stay hb3); have Q3 := hide (QI.out.stay hb3); have Q3' := hide (QJ.out.stay hb3); clear hb3 OI HN)
            | (refine st_store rfl (.tmp 3) (.tmp 21) rfl w.heap.size (by rfl) a o' L.length ac _ oc' _ most 0 (by rfl) _ (by rfl) O3.out.s0 ?_; intro wz hgz hkz; have O4 := hide (O3.out.own hgz hkz); have Q4 := hide (Q3.out.kept hkz (fun b cs t hb _ hs e => by subst e; rw [O3.out.s0] at hb; simp at hb; exact hs hb.2.symm)); have Q4' := hide (Q3'.out.kept hkz (fun b cs t hb _ hs e => by subst e; rw [O3.out.s0] at hb; simp at hb; exact hs hb.2.symm));clear c4 zz zz0; have c4 := cells_of O4.out.s0 4; simp [sA] at c4; have zz := O4.out.size; have zz0 := Nat.lt_of_succ_lt zz; clear hgz hkz O3))
          go_wp2_with (first
            | (refine st_load rfl (.tmp 3) rfl w.heap.size (by rfl) a o' L.length ac _ oc' _ most 0 (0, 0) O4.out.s0 ?_)
            | (go_at_call 59; refine (HRn _ (HIN.out _ _ _ _ _ _ _ O4.out) (by have := O4.out.kept.size; omega) O4.out.owns Q4'.out).out.mono ?_; rintro x w5 ⟨o5, oc5, rfl, k5, ow5, old5⟩; have E5 := hide (O4.out.called k5); have K5 := hide k5; have W5 := hide ow5; have D5 := hide old5; clear k5 ow5 old5 HRn)
            | (refine st_store rfl (.tmp 3) (.tmp 36) rfl w.heap.size (by rfl) a o5 L.length ac _ oc5 _ most 0 (by rfl) _ (by rfl) E5.out.s0 ?_; intro wz hgz hkz; have O6 := hide (O4.out.call K5.out W5.out D5.out hgz hkz); have Q6 := hide ((Q4.out.kept K5.out (fun b cs t hb h5 _ e => ownsRow_apart O4.out.owns hb h5 e)).kept hkz (fun b cs t hb _ hs e => by subst e; rw [E5.out.s0] at hb; simp at hb; exact hs hb.2.symm)); have Q6' := hide ((Q4'.out.kept K5.out (fun b cs t hb h5 _ e => ownsRow_apart O4.out.owns hb h5 e)).kept hkz (fun b cs t hb _ hs e => by subst e; rw [E5.out.s0] at hb; simp at hb; exact hs hb.2.symm)); clear hgz hkz E5))
          go_roundg (L.length - q2)
          case measure => omega
          case rel => exact .inl ⟨q2, out2, o5, oc5, by omega, ho2, HRE.out, O6.out, Q6.out, Q6'.out⟩
    · have hv6 : v < 256 := by omega
      have hrun' : ¬ (256 : Int) < v := by omega
      by_cases hov : most ≤ out'.length
      · have hov' : (most : Int) ≤ (out'.length : Int) := by omega
        have HRE := hide (HRR.out.trans (iLoop_err (iOne_over (D := D) h1 hv6 hov)))
        have HF := fun w' => hide (rfails_c a o' L.length ac out'.length oc' (q : Int) most 0 65 w')
        clear h1 HRR
        go_upto_region 6 with (first
          | (refine st_load rfl (.tmp 3) rfl w.heap.size (by rfl) a o' L.length ac _ oc' _ most 0 (0, 0) OI.out.s0 ?_)
          | (go_at_call 58; refine HN.out.mono ?_; rintro x w3 ⟨rfl, hb3⟩; have O3 := hide (OI.out.stay hb3); have Q3 := hide (QI.out.stay hb3); have Q3' := hide (QJ.out.stay hb3); clear hb3 OI HN)
          | (refine st_store rfl (.tmp 3) (.tmp 21) rfl w.heap.size (by rfl) a o' L.length ac _ oc' _ most 0 (by rfl) _ (by rfl) O3.out.s0 ?_; intro wz hgz hkz; have O4 := hide (O3.out.own hgz hkz); have Q4 := hide (Q3.out.kept hkz (fun b cs t hb _ hs e => by subst e; rw [O3.out.s0] at hb; simp at hb; exact hs hb.2.symm)); have Q4' := hide (Q3'.out.kept hkz (fun b cs t hb _ hs e => by subst e; rw [O3.out.s0] at hb; simp at hb; exact hs hb.2.symm));clear c4 zz zz0; have c4 := cells_of O4.out.s0 4; simp [sA] at c4; have c2 := cells_of O4.out.s0 2; simp [sA] at c2; have c3 := cells_of O4.out.s0 3; simp [sA] at c3; have zz := O4.out.size; have zz0 := Nat.lt_of_succ_lt zz; clear hgz hkz O3))
        go_wp2_with (first
          | (refine st_load rfl (.tmp 3) rfl w.heap.size (by rfl) a o' L.length ac _ oc' _ most 0 (0, 0) O4.out.s0 ?_)
          | (go_at_call 36; refine (HF _).out.mono ?_; rintro x w7 ⟨rfl, hb7⟩; have O7 := hide (O4.out.stay hb7); clear hb7 O4)
          | (refine st_store rfl (.tmp 6) (.tmp 44) rfl (w.heap.size + 1) (by rfl) a o' L.length ac _ oc' _ most 65 (by rfl) _ (by rfl) O7.out.s1 ?_; intro wy hgy hky; have O9 := hide (O7.out.res hgy hky); clear hgy hky))
        refine bodyPost_ret (v := .agg (sA a L.length ac (q : Int) o' out'.length oc' most 65)) ?_ rfl (O9.out.fail HRE.out)
        have k0 := cells_of O9.out.s1 0
        have k1 := cells_of O9.out.s1 1
        have k2 := cells_of O9.out.s1 2
        have k3 := cells_of O9.out.s1 3
        have k4 := cells_of O9.out.s1 4
        simp [sA] at k0 k1 k2 k3 k4
        simp [results, Tryz.results32, go_sem, k0, k1, k2, k3, k4, sA]
      · have hov' : ¬ (most : Int) ≤ (out'.length : Int) := by omega
        have hO := iOne_byte (D := D) (most := most) (out := out') h1 hv6 (by omega)
        have hgo := iGo_one S D (lb L) L.length most p' out' q _ hO
        have HRE := hide (HRR.out.trans (iLoop_on hO hgo.1 hgo.2))
        have hql2 := hgo.2
        have hwX : IntKind.u8.wrap (v : Int) = (v : Int) := by simp only [IntKind.wrap_u8]; omega
        clear h1 HRR hO hgo
        cases gk with
        | zero => omega
        | succ g1 =>
          go_upto_region 6 with (first
            | (refine st_load rfl (.tmp 3) rfl w.heap.size (by rfl) a o' L.length ac _ oc' _ most 0 (0, 0) OI.out.s0 ?_)
            | (go_at_call 58; refine HN.out.mono ?_; rintro x w3 ⟨rfl, hb3⟩; have O3 := hide (OI.out.stay hb3); have Q3 := hide (QI.out.stay hb3); have Q3' := hide (QJ.out.stay hb3); clear hb3 OI HN)
            | (refine st_store rfl (.tmp 3) (.tmp 21) rfl w.heap.size (by rfl) a o' L.length ac _ oc' _ most 0 (by rfl) _ (by rfl) O3.out.s0 ?_; intro wz hgz hkz; have O4 := hide (O3.out.own hgz hkz); have Q4 := hide (Q3.out.kept hkz (fun b cs t hb _ hs e => by subst e; rw [O3.out.s0] at hb; simp at hb; exact hs hb.2.symm)); have Q4' := hide (Q3'.out.kept hkz (fun b cs t hb _ hs e => by subst e; rw [O3.out.s0] at hb; simp at hb; exact hs hb.2.symm));clear c4 zz zz0; have c4 := cells_of O4.out.s0 4; simp [sA] at c4; have c2 := cells_of O4.out.s0 2; simp [sA] at c2; have c3 := cells_of O4.out.s0 3; simp [sA] at c3; have zz := O4.out.size; have zz0 := Nat.lt_of_succ_lt zz; clear hgz hkz O3))
          go_wp2_with (at_builtin; refine wpList_append_lies _ rfl _ _ 23 rfl B0 5 j0 (.int .u8 0) 1 1 Tryz.underlying23 hj0 hj1 hj2 hj3 rfl (by decide) _ _ _ rfl (World.ownsRow.alloc O4.out.owns _) ⟨wz.heap.size, 0, none⟩ 1 1 [.int .u8 (v : Int)] rfl rfl (one_byte wz _) (by intro u hu; simp at hu; subst hu; rfl) (by omega) (by unfold maxLen; omega) (by omega) (by have := O4.out.kept.size; simp; omega) (wz.heap.size + 1) (by simp) ?_; intro g4 c5 w4 hown' hgrow hat hlt4; have P9 := hide (O4.out.push hown' hgrow hat); have hA9 := O4.out.after hgrow; have d2 := cells_of hA9 2; have f2 := free_of hA9 2; have hz4 := lt_of_block hA9; simp [sA] at d2; have KG := hide (kg_of hgrow); have HA9 := hide hA9; clear hown' hgrow hat hlt4 hA9)
          go_roundg (L.length - q)
          case measure => omega
          case rel =>
            have hkz : Kept (fun i => i = w.heap.size) w4 (w4.setCell ⟨w.heap.size, 2, none⟩ (.slice (some ⟨g4, 0, none⟩) (out'.length + 1) c5)) := Kept.setCell (M := fun i => i = w.heap.size) (Kept.refl _ w4) (fun _ => rfl) _
            have R4 := (Q4.out.kept KG.out (fun b cs t hb h5 _ e => ownsRow_apart O4.out.owns hb h5 e.symm)).kept hkz (fun b cs t hb _ hs e => by subst e; rw [HA9.out] at hb; simp at hb; exact hs hb.2.symm)
            have R4' := (Q4'.out.kept KG.out (fun b cs t hb h5 _ e => ownsRow_apart O4.out.owns hb h5 e.symm)).kept hkz (fun b cs t hb _ hs e => by subst e; rw [HA9.out] at hb; simp at hb; exact hs hb.2.symm)
            exact .inl ⟨q, out' ++ [(v : Int)], some ⟨g4, 0, none⟩, c5, by omega, by simp; omega, HRE.out, P9.out, R4, R4'⟩
end Go.Proofs.YtlakgbckopjelabGreatDoor
