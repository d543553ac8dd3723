/- Several texts, laid together: RDyn, PBlock, PInf. -/
import Derived.Test.YtlakgbckopjelabGreatDoorRHead
import Derived.Test.YtlakgbckopjelabGreatDoorRData
import Derived.Test.YtlakgbckopjelabGreatDoorG30RHead0
/- The reference's dynamic block: contract. -/
namespace Go.Proofs.YtlakgbckopjelabGreatDoor
set_option maxRecDepth 100000
open Go Go.RowKit

section
variable {B0 : Nat} {w wr w1 w9 : World} {ov : Value} {a : Option Addr} {al ac : Nat} {p : Int} {o : Option Addr} {oc : Nat} {m e : Int} {out : List Int} {rv : Array Value}
/-- What a callee answered is handed on, by the result's cell. -/
theorem OS.hand {r : Except Int (Nat × List Int)} {q : Nat} {o2 : Option Addr} {oc2 : Nat} {out2 : List Int} {v2 : Array Value} (h : OS B0 w wr ov a al ac p o oc m e out rv) (k : Kept (fun b => (Value.slice o out.length oc).ownBlock = some b) wr w1) (ow : OwnsB w1 B0 (.slice o2 out2.length oc2) out2)
    (old : ∀ g, (Value.slice o2 out2.length oc2).ownBlock = some g → g < wr.heap.size → (Value.slice o out.length oc).ownBlock = some g) (h2 : w9.heap[w.heap.size + 1]? = some (.cells v2 63 (0, 0))) (hk : Kept (fun i => i = w.heap.size + 1) w1 w9) (hr : r = .ok (q, out2)) : StOk B0 w ov a al ac m r (.returned (.agg (sA a al ac (q : Int) o2 out2.length oc2 m 0))) w9 := by
  have hE := h.called k
  have hz := hE.size
  have hz2 := h.kept.size
  refine ⟨(hE.res h2 hk).kept, .inl ⟨q, out2, o2, oc2, hr, rfl, ownsRow_kept ow hk (fun g hg e' => ?_), fun g hg hlt => h.old g (old g hg (by omega)) hlt⟩⟩
  subst e'
  exact ownsRow_apart ow hE.s1 (by decide) hg
end

set_option maxHeartbeats 8000000 in
theorem rdyn_c (B0 lo hi : Nat) (a o : Option Addr) (ac oc : Nat) (L out : List Int) (p most : Nat) (w : World) (hL : L.length ≤ 1000000) (hb : Bin L) (hp : p ≤ L.length) (hl : Ints lo hi w a L) (hhi : hi ≤ B0) (hB : B0 ≤ w.heap.size) (ho : OwnsB w B0 (.slice o out.length oc) out) (hm : most ≤ 1000000) (hol : out.length ≤ most) :
    Calls Tryz.prog 35 #[.agg (sA a L.length ac p o out.length oc most 0)] w (StOk B0 w (.slice o out.length oc) a L.length ac most (iThen (iHdr (lb L) L.length p) (fun q sd => iDat sd.1 sd.2 (lb L) L.length most q out))) := by
  have HB := hide hb
  have HOV : Hid (∀ g, (Value.slice o out.length oc).ownBlock = some g → B0 ≤ g) := fun g hg => (ownsRow_lt ho hg).1
  have HT : Hid (OS B0 w ((w.alloc (.cells (sA a L.length ac p o out.length oc most 0) 63)).alloc (.cells zA 63)) (.slice o out.length oc) a L.length ac p o oc most 0 out zA) := OS.new zA ho
  have HIN : Hid (∀ wz p' o' oc' e' out' rv', OS B0 w wz (.slice o out.length oc) a L.length ac p' o' oc' most e' out' rv' → Ints lo hi wz a L) := fun wz p' o' oc' e' out' rv' hz => hz.ints HOV.out hB hl hhi
  have HW0 : Hid (w.heap.size + 2 ≤ ((w.alloc (.cells (sA a L.length ac p o out.length oc most 0) 63)).alloc (.cells zA 63)).heap.size) := hide (by simp)
  obtain ⟨R, hR⟩ : ∃ R, R = iThen (iHdr (lb L) L.length p) (fun q sd => iDat sd.1 sd.2 (lb L) L.length most q out) := ⟨_, rfl⟩
  rw [← hR]
  have hH := fun w0 (hi0 : Ints lo hi w0 a L) => rhead_c lo hi a o ac out.length oc L p (most : Int) w0 hL hb hp hi0
  rcases hh : iHdr (lb L) L.length p with f | ⟨q, S, D⟩
  · rw [hh] at hR hH
    have HR : Hid (R = .error f) := hR
    have HH : Hid (∀ w0, Ints lo hi w0 a L → Calls Tryz.prog 60 #[.agg (sA a L.length ac p o out.length oc most 0)] w0 fun x w' => ∃ q : Int, x = .returned (.tuple #[.agg (sA a L.length ac q o out.length oc most f), .slice none 0 0, .slice none 0 0]) ∧ 60 ≤ f ∧ Below w0.heap.size w0 w') := fun w0 hi0 => (hH w0 hi0).mono (by
      rintro x w' ⟨hb', ⟨q', S', D', a1, a2, c1, c2, he, _⟩ | ⟨e', q', h1, h2, he, rfl⟩⟩
      · cases he
      · cases he; exact ⟨q', rfl, h1, hb'⟩)
    unfold sA zA at HT HW0
    show Calls Tryz.prog 35 #[.agg #[.slice a L.length ac, .int .i64 (p : Int), .slice o out.length oc, .int .i64 most, .int .i64 0]] w _
    clear hb hl ho hR hH hh
    go_enter Tryz.func35, Tryz.ntmps35
    go_upto_region 1 with fail
    generalize ((w.alloc (.cells #[.slice a L.length ac, .int .i64 (p : Int), .slice o out.length oc, .int .i64 most, .int .i64 0] 63)).alloc (.cells #[.slice none 0 0, .int .i64 0, .slice none 0 0, .int .i64 0, .int .i64 0] 63)) = w0 at HT HW0 ⊢
    go_upto_region 2 with (first
      | (refine st_load rfl (.tmp 1) rfl w.heap.size (by rfl) a o L.length ac out.length oc _ most 0 (0, 0) HT.out.s0 ?_)
      | (go_at_call 60; refine (HH.out w0 (HIN.out _ _ _ _ _ _ _ HT.out)).mono ?_; rintro x w1 ⟨q1, rfl, f1, b1⟩; have E1 := hide (HT.out.stay b1).oe; have hne : ¬ f = 0 := (by omega); clear b1 HH)
      | (refine st_store rfl (.tmp 1) (.tmp 8) rfl w.heap.size (by rfl) a o L.length ac out.length oc _ most f (by rfl) _ (by rfl) E1.out.s0 ?_; intro wz hgz hkz; have E2 := hide (E1.out.own hgz hkz); have c4 := cells_of E2.out.s0 4; simp [sA] at c4; have zz := E2.out.size; have zz0 := Nat.lt_of_succ_lt zz; clear hgz hkz E1))
    go_wp2_with (first
      | (refine st_load rfl (.tmp 1) rfl w.heap.size (by rfl) a o L.length ac out.length oc _ most f (0, 0) E2.out.s0 ?_)
      | (refine st_store rfl (.tmp 2) (.tmp 14) rfl (w.heap.size + 1) (by rfl) a o L.length ac out.length oc _ most f (by rfl) _ (by rfl) E2.out.s1 ?_; intro wy hgy hky; have E9 := hide (E2.out.res hgy hky); clear hgy hky))
    refine bodyPost_ret (v := .agg (sA a L.length ac q1 o out.length oc most f)) ?_ rfl (E9.out.fail HR.out)
    have k0 := cells_of E9.out.s1 0
    have k1 := cells_of E9.out.s1 1
    have k2 := cells_of E9.out.s1 2
    have k3 := cells_of E9.out.s1 3
    have k4 := cells_of E9.out.s1 4
    simp [sA] at k0 k1 k2 k3 k4
    simp [results, Tryz.results35, go_sem, k0, k1, k2, k3, k4, sA]
  · obtain ⟨g1, g2, g3, g4, g5, g6⟩ := iHdr_got hh
    rw [hh] at hR hH
    have HR0 : Hid (R = iDat S D (lb L) L.length most q out) := hR
    have HH : Hid (∀ w0, Ints lo hi w0 a L → Calls Tryz.prog 60 #[.agg (sA a L.length ac p o out.length oc most 0)] w0 fun x w' => ∃ (a1 a2 : Option Addr) (c1 c2 : Nat), x = .returned (.tuple #[.agg (sA a L.length ac (q : Int) o out.length oc most 0), .slice a1 S.length c1, .slice a2 D.length c2]) ∧ Ints w0.heap.size w'.heap.size w' a1 S ∧ Ints w0.heap.size w'.heap.size w' a2 D ∧ Below w0.heap.size w0 w') := fun w0 hi0 => (hH w0 hi0).mono (by
      rintro x w' ⟨hb', ⟨q', S', D', a1, a2, c1, c2, he, rfl, i1, i2⟩ | ⟨e', q', h1, h2, he, _⟩⟩
      · cases he; exact ⟨a1, a2, c1, c2, rfl, i1, i2, hb'⟩
      · cases he)
    have hqT : q ≤ L.length := (iGe_hdr (lb L) L.length p q (S, D) hh).2
    have HD : Hid (∀ (wz : World) (a1 a2 : Option Addr) (c1 c2 : Nat), OS B0 w wz (.slice o out.length oc) a L.length ac (q : Int) o oc most 0 out zA → Ints 0 wz.heap.size wz a1 S → Ints 0 wz.heap.size wz a2 D → Calls Tryz.prog 32 #[.agg (sA a L.length ac (q : Int) o out.length oc most 0), .slice a1 S.length c1, .slice a2 D.length c2] wz (StOk B0 wz (.slice o out.length oc) a L.length ac most R)) := fun wz a1 a2 c1 c2 hz j1 j2 => by
      rw [HR0.out]
      exact rdata_c B0 lo hi wz.heap.size a o a1 a2 ac oc c1 c2 L out S D q most wz hL HB.out hqT (hz.ints HOV.out hB hl hhi) hhi (Nat.le_trans hB hz.kept.size) hz.owns hm hol j1 j2 (check_good g5) (by omega) (check_good g6) (by omega)
    unfold sA zA at HT HW0
    show Calls Tryz.prog 35 #[.agg #[.slice a L.length ac, .int .i64 (p : Int), .slice o out.length oc, .int .i64 most, .int .i64 0]] w _
    clear hb hl ho hR hH hh g1 g2 g3 g4 g5 g6 HR0
    rcases hr : R with f | ⟨q2, out2⟩
    · rw [hr] at HD
      have HDB := fun wz a1 a2 c1 c2 h1 h2 h3 => hide ((HD.out wz a1 a2 c1 c2 h1 h2 h3).mono fun _ _ => StOk.bad rfl)
      clear HD
      go_enter Tryz.func35, Tryz.ntmps35
      go_upto_region 1 with fail
      generalize ((w.alloc (.cells #[.slice a L.length ac, .int .i64 (p : Int), .slice o out.length oc, .int .i64 most, .int .i64 0] 63)).alloc (.cells #[.slice none 0 0, .int .i64 0, .slice none 0 0, .int .i64 0, .int .i64 0] 63)) = w0 at HT HW0 ⊢
      go_upto_region 2 with (first
        | (refine st_load rfl (.tmp 1) rfl w.heap.size (by rfl) a o L.length ac out.length oc _ most 0 (0, 0) HT.out.s0 ?_)
        | (go_at_call 60; refine (HH.out w0 (HIN.out _ _ _ _ _ _ _ HT.out)).mono ?_; rintro x w1 ⟨a1, a2, c1, c2, rfl, i1, i2, b1⟩; have O1 := hide (HT.out.stay b1); have I1 := hide i1; have I2 := hide i2; clear b1 HH i1 i2)
        | (refine st_store rfl (.tmp 1) (.tmp 8) rfl w.heap.size (by rfl) a o L.length ac out.length oc _ most 0 (by rfl) _ (by rfl) O1.out.s0 ?_; intro wz hgz hkz; have O2 := hide (O1.out.own hgz hkz); have J1 := hide ((I1.out.kept hkz (fun b h1 h2 e => by have := HW0.out; omega)).wide (Nat.zero_le _) hkz.size); have J2 := hide ((I2.out.kept hkz (fun b h1 h2 e => by have := HW0.out; omega)).wide (Nat.zero_le _) hkz.size); have c4 := cells_of O2.out.s0 4; simp [sA] at c4; have zz := O2.out.size; have zz0 := Nat.lt_of_succ_lt zz; clear hgz hkz O1 I1 I2))
      go_wp2_with (first
        | (refine st_load rfl (.tmp 1) rfl w.heap.size (by rfl) a o L.length ac out.length oc _ most 0 (0, 0) O2.out.s0 ?_)
        | (go_at_call 32; refine (HDB wz a1 a2 c1 c2 O2.out J1.out J2.out).out.mono ?_; rintro x w3 ⟨q3, o3, ol3, oc3, rfl, k3⟩; have E3 := hide (O2.out.called k3); clear k3)
        | (refine st_store rfl (.tmp 2) (.tmp 18) rfl (w.heap.size + 1) (by rfl) a o3 L.length ac ol3 oc3 _ most f (by rfl) _ (by rfl) E3.out.s1 ?_; intro wy hgy hky; have E9 := hide (E3.out.res hgy hky); clear hgy hky))
      refine bodyPost_ret (v := .agg (sA a L.length ac q3 o3 ol3 oc3 most f)) ?_ rfl (E9.out.fail rfl)
      have k0 := cells_of E9.out.s1 0
      have k1 := cells_of E9.out.s1 1
      have k2 := cells_of E9.out.s1 2
      have k3 := cells_of E9.out.s1 3
      have k4 := cells_of E9.out.s1 4
      simp [sA] at k0 k1 k2 k3 k4
      simp [results, Tryz.results35, go_sem, k0, k1, k2, k3, k4, sA]
    · rw [hr] at HD
      have HDG := fun wz a1 a2 c1 c2 h1 h2 h3 => hide ((HD.out wz a1 a2 c1 c2 h1 h2 h3).mono fun _ _ => StOk.got rfl)
      clear HD
      go_enter Tryz.func35, Tryz.ntmps35
      go_upto_region 1 with fail
      generalize ((w.alloc (.cells #[.slice a L.length ac, .int .i64 (p : Int), .slice o out.length oc, .int .i64 most, .int .i64 0] 63)).alloc (.cells #[.slice none 0 0, .int .i64 0, .slice none 0 0, .int .i64 0, .int .i64 0] 63)) = w0 at HT HW0 ⊢
      go_upto_region 2 with (first
        | (refine st_load rfl (.tmp 1) rfl w.heap.size (by rfl) a o L.length ac out.length oc _ most 0 (0, 0) HT.out.s0 ?_)
        | (go_at_call 60; refine (HH.out w0 (HIN.out _ _ _ _ _ _ _ HT.out)).mono ?_; rintro x w1 ⟨a1, a2, c1, c2, rfl, i1, i2, b1⟩; have O1 := hide (HT.out.stay b1); have I1 := hide i1; have I2 := hide i2; clear b1 HH i1 i2)
        | (refine st_store rfl (.tmp 1) (.tmp 8) rfl w.heap.size (by rfl) a o L.length ac out.length oc _ most 0 (by rfl) _ (by rfl) O1.out.s0 ?_; intro wz hgz hkz; have O2 := hide (O1.out.own hgz hkz); have J1 := hide ((I1.out.kept hkz (fun b h1 h2 e => by have := HW0.out; omega)).wide (Nat.zero_le _) hkz.size); have J2 := hide ((I2.out.kept hkz (fun b h1 h2 e => by have := HW0.out; omega)).wide (Nat.zero_le _) hkz.size); have c4 := cells_of O2.out.s0 4; simp [sA] at c4; have zz := O2.out.size; have zz0 := Nat.lt_of_succ_lt zz; clear hgz hkz O1 I1 I2))
      go_wp2_with (first
        | (refine st_load rfl (.tmp 1) rfl w.heap.size (by rfl) a o L.length ac out.length oc _ most 0 (0, 0) O2.out.s0 ?_)
        | (go_at_call 32; refine (HDG wz a1 a2 c1 c2 O2.out J1.out J2.out).out.mono ?_; rintro x w3 ⟨o3, oc3, rfl, k3, ow3, old3⟩; have E3 := hide (O2.out.called k3); have K3 := hide k3; have OW3 := hide ow3; have OL3 := hide old3; clear k3 ow3 old3)
        | (refine st_store rfl (.tmp 2) (.tmp 18) rfl (w.heap.size + 1) (by rfl) a o3 L.length ac out2.length oc3 _ most 0 (by rfl) _ (by rfl) E3.out.s1 ?_; intro wy hgy hky; have E9 := hide (E3.out.res hgy hky); have F9 := hide (O2.out.hand K3.out OW3.out OL3.out hgy hky (r := .ok (q2, out2)) rfl); clear hgy hky))
      refine bodyPost_ret (v := .agg (sA a L.length ac (q2 : Int) o3 out2.length oc3 most 0)) ?_ rfl F9.out
      have k0 := cells_of E9.out.s1 0
      have k1 := cells_of E9.out.s1 1
      have k2 := cells_of E9.out.s1 2
      have k3 := cells_of E9.out.s1 3
      have k4 := cells_of E9.out.s1 4
      simp [sA] at k0 k1 k2 k3 k4
      simp [results, Tryz.results35, go_sem, k0, k1, k2, k3, k4, sA]
end Go.Proofs.YtlakgbckopjelabGreatDoor

/- (Nothing of the program's own blocks in this seat.) -/
namespace Go.Proofs.YtlakgbckopjelabGreatDoor
set_option maxRecDepth 100000
end Go.Proofs.YtlakgbckopjelabGreatDoor

/- What Inflate answers, in memory (the reference alone stands in this seat). -/
namespace Go.Proofs.YtlakgbckopjelabGreatDoor
set_option maxRecDepth 100000
open Go Go.RowKit

/-- What Inflate answers, in memory. -/
def InfOk (w : World) (r : List Int × Nat × Int) (x : Ending) (w' : World) : Prop := ∃ o oc, x = .returned (.tuple #[.slice o r.1.length oc, .int .i64 (r.2.1 : Int), .int .i64 r.2.2]) ∧ OwnsB w' w.heap.size (.slice o r.1.length oc) r.1 ∧ Below w.heap.size w w'
theorem Text.up {B B' : Nat} {w : World} {a : Option Addr} {len : Nat} {zs : List Int} (h : Text B w a len zs) (hB : B ≤ B') : Text B' w a len zs := by
  obtain ⟨h1, h2, h3⟩ := h
  refine ⟨h1, h2, ?_⟩
  rcases h3 with h3 | ⟨b, off, hb, r⟩
  · exact .inl h3
  · exact .inr ⟨b, off, by omega, r⟩
end Go.Proofs.YtlakgbckopjelabGreatDoor
