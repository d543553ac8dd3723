/- The reference's lengths: contract. -/
import Derived.Test.YtlakgbckopjelabGreatDoorRRun0
namespace Go.Proofs.YtlakgbckopjelabGreatDoor
set_option maxRecDepth 100000
open Go Go.RowKit

theorem iLoop_stepR {σ : Type} {T : Nat} {f : Nat → σ → Except Int (Nat × (Bool × σ))} {p q : Nat} {s t : σ} {c : Bool} (h : f p s = .ok (q, (c, t))) (h1 : p < q) (h2 : q ≤ T) : iLoop T f p s = if c = true then iLoop T f q t else .ok (q, t) := by
  cases c with
  | true => rw [iLoop_on h h1 h2]; rfl
  | false => rw [iLoop_end h]; rfl
theorem iLen_errR {first : List Int} {many : Nat} {b : Nat → Nat} {T p : Nat} {all : List Int} {e : Int} (h : iNx first b T p = .error e) : iLen first many b T p all = .error e := by unfold iLen; rw [iThen_of_err h]
theorem iLen_oneR {first : List Int} {many : Nat} {b : Nat → Nat} {T p q v : Nat} {all : List Int} (h : iNx first b T p = .ok (q, v)) (hv : v < 16) : iLen first many b T p all = .ok (q, (decide (all.length + 1 < many), all ++ [(v : Int)])) := by
  unfold iLen; rw [iThen_of_ok h, if_pos hv]
theorem iLen_noneR {first : List Int} {many : Nat} {b : Nat → Nat} {T p q : Nat} {all : List Int} (h : iNx first b T p = .ok (q, 16)) (h0 : all.length = 0) : iLen first many b T p all = .error 63 := by
  unfold iLen; rw [iThen_of_ok h, if_neg (by decide), if_pos ⟨rfl, h0⟩]
theorem iLen_badR {first : List Int} {many : Nat} {b : Nat → Nat} {T p q v n : Nat} {all : List Int} {e : Int} (h : iNx first b T p = .ok (q, v)) (hv : 16 ≤ v) (h0 : ¬ (v = 16 ∧ all.length = 0)) (hn : (if v = 16 then 2 else if v = 17 then 3 else 7) = n) (ht : iTk b T q n = .error e) : iLen first many b T p all = .error e := by
  unfold iLen; rw [iThen_of_ok h, if_neg (by omega), if_neg h0, hn, iThen_of_err ht]
theorem iLen_overR {first : List Int} {many : Nat} {b : Nat → Nat} {T p q q2 v n k x : Nat} {all : List Int} (h : iNx first b T p = .ok (q, v)) (hv : 16 ≤ v) (h0 : ¬ (v = 16 ∧ all.length = 0)) (hn : (if v = 16 then 2 else if v = 17 then 3 else 7) = n) (hk : (if v = 18 then 11 else 3) = k) (ht : iTk b T q n = .ok (q2, x)) (ho : many < all.length + (k + x)) : iLen first many b T p all = .error 63 := by
  unfold iLen; rw [iThen_of_ok h, if_neg (by omega), if_neg h0, hn, iThen_of_ok ht, hk, if_pos (by omega)]
theorem iLen_moreR {first : List Int} {many : Nat} {b : Nat → Nat} {T p q q2 v n k x : Nat} {all : List Int} {L : Int} (h : iNx first b T p = .ok (q, v)) (hv : 16 ≤ v) (h0 : ¬ (v = 16 ∧ all.length = 0)) (hn : (if v = 16 then 2 else if v = 17 then 3 else 7) = n) (hk : (if v = 18 then 11 else 3) = k) (hL : (if v = 16 then ln all (all.length - 1) else 0) = L) (ht : iTk b T q n = .ok (q2, x)) (ho : all.length + (k + x) ≤ many) :
    iLen first many b T p all = .ok (q2, (decide (all.length + (k + x) < many), all ++ List.replicate (k + x) L)) := by
  unfold iLen; rw [iThen_of_ok h, if_neg (by omega), if_neg h0, hn, iThen_of_ok ht, hk, hL, if_neg (by omega), Nat.add_comm x k]


theorem ownsRow_apart_int {w : World} {base : Nat} {v : Value} {xs : List Int} (h : Owns w base v xs) {b : Nat} {cs : Array Value} {fr : Nat × Nat} (hb : w.heap[b]? = some (.cells cs 63 fr)) : v.ownBlock ≠ some b := ownsRow_apart h hb (by decide)
/-- What lengths answers. -/
def RL (w : World) (a o : Option Addr) (al ac ol oc : Nat) (m : Int) (r : Except Int (Nat × List Int)) (x : Ending) (w' : World) : Prop :=
  Below w.heap.size w w' ∧ ((∃ (q : Nat) (all : List Int) (v : Value), r = .ok (q, all) ∧ x = .returned (.tuple #[.agg (sA a al ac (q : Int) o ol oc m 0), v]) ∧ Owns w' w.heap.size v all) ∨ (∃ (e q : Int) (v : Value), 60 ≤ e ∧ e ≤ 65 ∧ r = .error e ∧ x = .returned (.tuple #[.agg (sA a al ac q o ol oc m e), v])))
/-- Rows of codes ahead of a bound. -/
def RAt3 (B : Nat) (w : World) (ra : Option Addr) (ls : List Int) : Prop :=
  ls.length = 0 ∨ ∃ b cs, ra = some ⟨b, 0, none⟩ ∧ b < B ∧ w.heap[b]? = some (.cells cs 45 (0, 0)) ∧ ∀ s, s < ls.length → ∃ g, g < B ∧ cs[s]? = some (.slice (some ⟨g, 0, none⟩) (ln ls s).toNat (ln ls s).toNat) ∧ w.heap[g]? = some (.cells (valA (rowL (cd ls s) (ln ls s).toNat)) 3 (0, 0))
theorem RAt2.bound {w : World} {ra : Option Addr} {ls : List Int} (h : RAt2 w ra ls) : RAt3 w.heap.size w ra ls := by
  rcases h with h | ⟨b, cs, ha, hb, hr⟩
  · exact .inl h
  · refine .inr ⟨b, cs, ha, lt_of_block hb, hb, fun s hs => ?_⟩
    obtain ⟨g, h1, h2⟩ := hr s hs
    exact ⟨g, lt_of_block h2, h1, h2⟩
theorem RAt3.two {B : Nat} {w : World} {ra : Option Addr} {ls : List Int} (h : RAt3 B w ra ls) : RAt2 w ra ls := by
  rcases h with h | ⟨b, cs, ha, _, hb, hr⟩
  · exact .inl h
  · refine .inr ⟨b, cs, ha, hb, fun s hs => ?_⟩
    obtain ⟨g, _, h1, h2⟩ := hr s hs
    exact ⟨g, h1, h2⟩
theorem RAt3.kept {B : Nat} {M : Nat → Prop} {w w' : World} {ra : Option Addr} {ls : List Int} (h : RAt3 B w ra ls) (k : Kept M w w') (hM : ∀ b cs (t : TypeId), b < B → w.heap[b]? = some (.cells cs t (0, 0)) → t ≠ 63 → ¬ M b) : RAt3 B w' ra ls := by
  rcases h with h | ⟨b, cs, ha, hlt, hb, hr⟩
  · exact .inl h
  · refine .inr ⟨b, cs, ha, hlt, k.heap hb (hM b _ _ hlt hb (by decide)), fun s hs => ?_⟩
    obtain ⟨g, hg, h1, h2⟩ := hr s hs
    exact ⟨g, hg, h1, k.heap h2 (hM g _ _ hg h2 (by decide))⟩
theorem RAt3.stay {B : Nat} {w w' : World} {ra : Option Addr} {ls : List Int} (h : RAt3 B w ra ls) (k : Below w.heap.size w w') : RAt3 B w' ra ls :=
  h.kept (Kept.of_below k) (fun b cs t _ hb _ e => by have := lt_of_block hb; omega)
/-- Between two numbers: all well, or an error. -/
def LRel (w : World) (a o : Option Addr) (al ac ol oc : Nat) (m : Int) (first : List Int) (many : Nat) (b : Nat → Nat) (ra : Option Addr) (BR : Nat) (R : Except Int (Nat × List Int)) (gk : Nat) (v8 : Value) (wx : World) : Prop :=
  ∃ (all : List Int) (a8 : Option Addr) (c8 : Nat), v8 = .slice a8 all.length c8 ∧ all.length ≤ many ∧ BR ≤ wx.heap.size ∧ Owns wx BR v8 all ∧
  ((∃ p : Nat, p + gk = al ∧ (R = if all.length < many then iLoop al (iLen first many b al) p all else .ok (p, all)) ∧ Two w wx (sA a al ac (p : Int) o ol oc m 0) #[.slice none 0 0, .int .i64 0, .slice none 0 0, .int .i64 0, .int .i64 0] ∧ RAt3 BR wx ra first)
  ∨ (∃ e q : Int, all.length < many ∧ 60 ≤ e ∧ e ≤ 65 ∧ R = .error e ∧ Two w wx (sA a al ac q o ol oc m e) #[.slice none 0 0, .int .i64 0, .slice none 0 0, .int .i64 0, .int .i64 0]))
theorem Two.kept {w wr w2 : World} {u v : Array Value} {M : Nat → Prop} (h : Two w wr u v) (k : Kept M wr w2) (hM : ∀ i, i < w.heap.size + 2 → ¬ M i) : Two w w2 u v := by
  have hz := h.size
  exact ⟨h.below.trans (k.below (by omega) (fun i hi e => hM i (by omega) e)), k.heap h.s0 (hM _ (by omega)), k.heap h.s1 (hM _ (by omega))⟩

set_option maxHeartbeats 16000000 in
theorem rlens_c (lo hi BF : Nat) (a o fa : Option Addr) (ac ol oc fc : Nat) (L first : List Int) (p many : Nat) (m mi : Int) (hmi : mi = many) (w : World) (hL : L.length ≤ 1000000) (hb : Bin L) (hp : p ≤ L.length) (hl : Ints lo hi w a L) (hif : Ints 0 BF w fa first) (hg : Good first) (h19 : first.length = 19) (hm0 : 1 ≤ many) (hm1 : many ≤ 1000) :
    Calls Tryz.prog 81 #[.agg (sA a L.length ac p o ol oc m 0), .slice fa first.length fc, .int .i64 mi] w (RL w a o L.length ac ol oc m (iLoop L.length (iLen first many (lb L) L.length) p [])) := by
  subst hmi
  obtain ⟨i0, hi0, hz0, hz1, hz2⟩ := info_parts Tryz.info3
  have HB := hide hb
  have HG := hide hg
  have HL := hide hl
  have H19 := hide h19
  have h320 : first.length ≤ 320 := by omega
  have HT : Hid (Two w ((w.alloc (.cells (sA a L.length ac p o ol oc m 0) 63)).alloc (.cells zA 63)) (sA a L.length ac p o ol oc m 0) zA) := Two.new w _ _
  obtain ⟨R, hR⟩ : ∃ R, R = iLoop L.length (iLen first many (lb L) L.length) p [] := ⟨_, rfl⟩
  rw [← hR]
  have HR0 : Hid (R = if ([] : List Int).length < many then iLoop L.length (iLen first many (lb L) L.length) p [] else .ok (p, [])) := by rw [hR, if_pos (show ([] : List Int).length < many by simp; omega)]; exact rfl
  have HIF := hide hif
  unfold sA zA at HT
  show Calls Tryz.prog 81 #[.agg #[.slice a L.length ac, .int .i64 (p : Int), .slice o ol oc, .int .i64 m, .int .i64 0], .slice fa first.length fc, .int .i64 (many : Int)] w _
  clear hb hl hg h19 hR hif
  go_enter Tryz.func81, Tryz.ntmps81
  go_upto_region 1 with fail
  generalize ((w.alloc (.cells #[.slice a L.length ac, .int .i64 (p : Int), .slice o ol oc, .int .i64 m, .int .i64 0] 63)).alloc (.cells #[.slice none 0 0, .int .i64 0, .slice none 0 0, .int .i64 0, .int .i64 0] 63)) = w0 at HT ⊢
  have c4 := cells_of HT.out.s0 4
  simp at c4
  have zz := HT.out.size
  have zz0 := Nat.lt_of_succ_lt zz
  have HQ := hide (rRows_c BF fa fc first w0 h320 HG.out (HIF.out.stay HT.out.below))
  go_wp2_with (go_at_call 57; refine HQ.out.mono ?_; rintro x w1 ⟨ra, rc, rfl, q1, b1⟩; have Q1 := hide q1; have O1 := hide (HT.out.stay b1); clear q1 b1 HQ HT)
  obtain ⟨BR, hBR⟩ : ∃ BR, BR = w1.heap.size := ⟨_, rfl⟩
  have Q1' : Hid (RAt3 BR w1 ra first) := by rw [hBR]; exact Q1.out.bound
  have hBRw : w.heap.size + 2 ≤ BR := by have := O1.out.size; omega
  have hBR1 : BR ≤ w1.heap.size := by omega
  clear c4 zz zz0 HIF hBR
  go_loopg [8] (L.length - p) (fun gk v8 wx => Hid (LRel w a o L.length ac ol oc m first many (lb L) ra BR R gk v8 wx))
  case atStart => exact ⟨[], none, 0, rfl, Nat.zero_le _, hBR1, Owns.nil _ _, .inl ⟨p, by omega, HR0.out, O1.out, Q1'.out⟩⟩
  case round =>
    clear O1 Q1 Q1' HR0
    obtain ⟨all, a8, c8, rfl, hal, hBRs, hV, hrest⟩ := hrel.out
    clear hrel
    have VI := hide hV
    clear hV
    rcases hrest with ⟨p', hpg, hRR, hO, hQ⟩ | ⟨e, q, hlt, e1, e2, hRR, hO⟩
    case inr =>
      have OI := hide hO
      have HRR := hide hRR
      have hne : ¬ e = 0 := by omega
      have hlt' : (all.length : Int) < many := by omega
      have c4 := cells_of hO.s0 4
      simp [sA] at c4
      have zz := hO.size
      have zz0 := Nat.lt_of_succ_lt zz
      clear hO hRR
      go_wp2_with (first
        | (refine st_load rfl (.tmp 3) rfl w.heap.size (by rfl) a o L.length ac ol oc q m e (0, 0) OI.out.s0 ?_)
        | (refine st_store rfl (.tmp 6) (.tmp 114) rfl (w.heap.size + 1) (by rfl) a o L.length ac ol oc _ m e (by rfl) _ (by rfl) OI.out.s1 ?_; intro wy hgy hky; have O9 := hide (OI.out.res hgy hky); clear hgy hky))
      refine bodyPost_ret (v := .tuple #[.agg (sA a L.length ac q o ol oc m e), .slice a8 all.length c8]) ?_ rfl (⟨O9.out.below, .inr ⟨e, q, _, e1, e2, HRR.out, rfl⟩⟩)
      have hld := st_run O9.out.s1
      simp [results, asAddr, hld]
    case inl =>
    have OI := hide hO
    have QI := hide hQ
    have c4 := cells_of hO.s0 4
    simp [sA] at c4
    have zz := hO.size
    have zz0 := Nat.lt_of_succ_lt zz
    have hpT : p' ≤ L.length := by omega
    clear hO hQ
    by_cases hlt : all.length < many
    case neg =>
      have hlt' : ¬ (all.length : Int) < many := by omega
      have HRE : Hid (R = .ok (p', all)) := by rw [hRR, if_neg hlt]; exact rfl
      clear hRR
      go_wp2_with (first
        | (refine st_load rfl (.tmp 3) rfl w.heap.size (by rfl) a o L.length ac ol oc _ m 0 (0, 0) OI.out.s0 ?_)
        | (refine st_store rfl (.tmp 6) (.tmp 114) rfl (w.heap.size + 1) (by rfl) a o L.length ac ol oc _ m 0 (by rfl) _ (by rfl) OI.out.s1 ?_; intro wy hgy hky; have O9 := hide (OI.out.res hgy hky); have K9 := hide hky; clear hgy hky))
      refine bodyPost_ret (v := .tuple #[.agg (sA a L.length ac (p' : Int) o ol oc m 0), .slice a8 all.length c8]) ?_ rfl (⟨O9.out.below, .inl ⟨p', all, _, HRE.out, rfl, (VI.out.kept K9.out (fun g hg e => ownsRow_apart_int VI.out OI.out.s1 (by rw [hg, e]))).low (by omega)⟩⟩)
      have hld := st_run O9.out.s1
      simp [results, asAddr, hld]
    case pos =>
    have hlt' : (all.length : Int) < many := by omega
    have HRR : Hid (R = iLoop L.length (iLen first many (lb L) L.length) p' all) := by rw [hRR, if_pos hlt]; exact rfl
    have HIL := hide (HL.out.stay (OI.out.below))
    have SW := hide hBRs
    clear hRR
    rcases h1 : iNx first (lb L) L.length p' with e | ⟨q1, v⟩
    · have hee := iNx_e h1
      obtain ⟨e1, e2⟩ := hee
      have hne : ¬ e = 0 := by omega
      have HN := hide (rnext_bad (o := o) (ac := ac) (ol := ol) (oc := oc) (rc := rc) (m := m) h320 HG.out hL HB.out hpT HIL.out QI.out.two h1)
      have HRE := hide (HRR.out.trans (iLoop_err (iLen_errR h1)))
      clear h1 HRR
      go_upto_region 8 with (first
        | (refine st_load rfl (.tmp 3) rfl w.heap.size (by rfl) a o L.length ac ol oc _ m 0 (0, 0) OI.out.s0 ?_)
        | (go_at_call 58; refine HN.out.mono ?_; rintro x w3 ⟨rfl, hb3⟩; have O3 := hide (OI.out.stay hb3); clear hb3 OI HN)
        | (refine st_store rfl (.tmp 3) (.tmp 33) rfl w.heap.size (by rfl) a o L.length ac ol oc _ m e (by rfl) _ (by rfl) O3.out.s0 ?_; intro wz hgz hkz; have O4 := hide (O3.out.own hgz hkz); clear c4 zz zz0; have c4 := cells_of O4.out.s0 4; simp [sA] at c4; have zz := O4.out.size; have zz0 := Nat.lt_of_succ_lt zz; clear hgz hkz O3))
      go_wp2_with (first
        | (refine st_load rfl (.tmp 3) rfl w.heap.size (by rfl) a o L.length ac ol oc _ m e (0, 0) O4.out.s0 ?_)
        | (refine st_store rfl (.tmp 6) (.tmp 38) rfl (w.heap.size + 1) (by rfl) a o L.length ac ol oc _ m e (by rfl) _ (by rfl) O4.out.s1 ?_; intro wy hgy hky; have O9 := hide (O4.out.res hgy hky); clear hgy hky))
      refine bodyPost_ret (v := .tuple #[.agg (sA a L.length ac (p' : Int) o ol oc m e), .slice none 0 0]) ?_ rfl (⟨O9.out.below, .inr ⟨e, _, _, e1, e2, HRE.out, rfl⟩⟩)
      have hld := st_run O9.out.s1
      simp [results, asAddr, hld]
    obtain ⟨hv, hpq⟩ := iNx_lt h1
    rw [H19.out] at hv
    have HN := hide (rnext_got (o := o) (ac := ac) (ol := ol) (oc := oc) (rc := rc) (m := m) h320 HG.out hL HB.out hpT HIL.out QI.out.two h1)
    have hqT : q1 ≤ L.length := by
      obtain ⟨n, rfl, hh⟩ := iNx_got h1
      have := hh.1; omega
    by_cases hv16 : v < 16
    · have hO := iLen_oneR (many := many) (all := all) h1 hv16
      have hgo := iGo_len first many (lb L) L.length p' all q1 _ hO
      have HRE : Hid (R = if (all ++ [(v : Int)]).length < many then iLoop L.length (iLen first many (lb L) L.length) q1 (all ++ [(v : Int)]) else .ok (q1, all ++ [(v : Int)])) := hide (by
        have := HRR.out.trans (iLoop_stepR hO hgo.1 hgo.2)
        simpa using this)
      have hql := hgo.2
      have hv16' : (v : Int) < 16 := by omega
      clear hO hgo h1 HRR
      go_upto_region 8 with (first
        | (refine st_load rfl (.tmp 3) rfl w.heap.size (by rfl) a o L.length ac ol oc _ m 0 (0, 0) OI.out.s0 ?_)
        | (go_at_call 58; refine HN.out.mono ?_; rintro x w3 ⟨rfl, hb3⟩; have O3 := hide (OI.out.stay hb3); have V3 := hide (VI.out.kept (Kept.of_below hb3) (fun g hg e => by have := (ownsRow_lt VI.out hg).2; omega)); have Q3 := hide (QI.out.stay hb3); have HB3 := hide hb3; clear hb3 OI HN VI QI)
        | (refine st_store rfl (.tmp 3) (.tmp 33) rfl w.heap.size (by rfl) a o L.length ac ol oc _ m 0 (by rfl) _ (by rfl) O3.out.s0 ?_; intro wz hgz hkz; have O4 := hide (O3.out.own hgz hkz); clear c4 zz zz0; have c4 := cells_of O4.out.s0 4; simp [sA] at c4; have zz := O4.out.size; have zz0 := Nat.lt_of_succ_lt zz; have SZ := hide (Nat.le_trans SW.out (Nat.le_trans (Below.size HB3.out) hkz.size)); have V4 := hide (V3.out.kept hkz (fun g hg e => ownsRow_apart_int V3.out O3.out.s0 (by rw [hg, e]))); have Q4 := hide (Q3.out.kept hkz (fun b cs t _ hb hs e => by subst e; rw [O3.out.s0] at hb; simp at hb; exact hs hb.2.symm)); clear hgz hkz O3))
      go_wp2_with (at_builtin; refine wpList_append_own _ rfl _ _ 45 rfl BR 3 i0 (.int .i64 0) 1 8 Tryz.underlying45 hi0 hz0 hz1 hz2 rfl (by decide) (.slice a8 all.length c8) all.length (all.map (Value.int .i64)) rfl (World.ownsRow.alloc V4.out _) ⟨wz.heap.size, 0, none⟩ 1 1 [.int .i64 (v : Int)] rfl rfl (one_int wz _) (by intro u hu; simp at hu; subst hu; rfl) (by unfold maxLen; omega) (by omega) (by have := SZ.out; simp; omega) ?_; intro v' w5 hown' hgrow hnil; obtain ⟨a5, c5, rfl⟩ := own_form hown'; have KG := hide (kg_of hgrow); have V5 := hide (Owns.push hown'); clear hown' hgrow hnil)
      go_roundg (L.length - q1)
      case measure => omega
      case rel =>
        refine ⟨all ++ [(v : Int)], a5, c5, by simp, by simp; omega, Nat.le_trans SZ.out KG.out.size, V5.out, .inl ⟨q1, by omega, HRE.out, ?_, ?_⟩⟩
        · exact O4.out.kept KG.out (fun i hi e => by have h1 := (ownsRow_lt V4.out e.symm).1; omega)
        · exact Q4.out.kept KG.out (fun b cs t hlt hb _ e => by have := (ownsRow_lt V4.out e.symm).1; omega)
    by_cases hnone : v = 16 ∧ all.length = 0
    · obtain ⟨rfl, h0⟩ := hnone
      have HRE := hide (HRR.out.trans (iLoop_err (iLen_noneR h1 h0)))
      have h0' : (all.length : Int) = 0 := by omega
      have HF := fun w' => hide (rfails_c a o L.length ac ol oc (q1 : Int) m 0 63 w')
      clear h1 HRR hv16
      go_upto_region 8 with (first
        | (refine st_load rfl (.tmp 3) rfl w.heap.size (by rfl) a o L.length ac ol oc _ m 0 (0, 0) OI.out.s0 ?_)
        | (go_at_call 58; refine HN.out.mono ?_; rintro x w3 ⟨rfl, hb3⟩; have O3 := hide (OI.out.stay hb3); have V3 := hide (VI.out.kept (Kept.of_below hb3) (fun g hg e => by have := (ownsRow_lt VI.out hg).2; omega)); have Q3 := hide (QI.out.stay hb3); have HB3 := hide hb3; clear hb3 OI HN VI QI)
        | (refine st_store rfl (.tmp 3) (.tmp 33) rfl w.heap.size (by rfl) a o L.length ac ol oc _ m 0 (by rfl) _ (by rfl) O3.out.s0 ?_; intro wz hgz hkz; have O4 := hide (O3.out.own hgz hkz); clear c4 zz zz0; have c4 := cells_of O4.out.s0 4; simp [sA] at c4; have zz := O4.out.size; have zz0 := Nat.lt_of_succ_lt zz; have SZ := hide (Nat.le_trans SW.out (Nat.le_trans (Below.size HB3.out) hkz.size)); have V4 := hide (V3.out.kept hkz (fun g hg e => ownsRow_apart_int V3.out O3.out.s0 (by rw [hg, e]))); have Q4 := hide (Q3.out.kept hkz (fun b cs t _ hb hs e => by subst e; rw [O3.out.s0] at hb; simp at hb; exact hs hb.2.symm)); clear hgz hkz O3))
      go_wp2_with (first
        | (refine st_load rfl (.tmp 3) rfl w.heap.size (by rfl) a o L.length ac ol oc _ m 0 (0, 0) O4.out.s0 ?_)
        | (go_at_call 36; refine (HF _).out.mono ?_; rintro x w7 ⟨rfl, hb7⟩; have O7 := hide (O4.out.stay hb7); clear hb7 O4)
        | (refine st_store rfl (.tmp 6) (.tmp 53) rfl (w.heap.size + 1) (by rfl) a o L.length ac ol oc _ m 63 (by rfl) _ (by rfl) O7.out.s1 ?_; intro wy hgy hky; have O9 := hide (O7.out.res hgy hky); clear hgy hky))
      refine bodyPost_ret (v := .tuple #[.agg (sA a L.length ac (q1 : Int) o ol oc m 63), .slice none 0 0]) ?_ rfl (⟨O9.out.below, .inr ⟨63, _, _, by decide, by decide, HRE.out, rfl⟩⟩)
      have hld := st_run O9.out.s1
      simp [results, asAddr, hld]
    have h3 : v = 16 ∨ v = 17 ∨ v = 18 := by omega
    obtain ⟨g1, rfl⟩ : ∃ g1, gk = g1 + 1 := ⟨gk - 1, by omega⟩
    rcases h3 with rfl | rfl | rfl
    · -- v = 16
      have hpos : 0 < all.length := by omega
      obtain ⟨j, hj⟩ : ∃ j, all.length = j + 1 := ⟨all.length - 1, by omega⟩
      have hji : (all.length : Int) - 1 = (j : Int) := by omega
      have hjl : (j : Int) < (all.length : Int) := by omega
      obtain ⟨X, hX⟩ : ∃ X, X = ln all (all.length - 1) := ⟨_, rfl⟩
      obtain ⟨gA, rfl⟩ : ∃ g, a8 = some ⟨g, 0, none⟩ := by
        obtain ⟨g, c9, hv9, _, hlt9⟩ := World.ownsRow.form VI.out hpos
        simp at hv9
        exact ⟨g, hv9.1⟩
      have HCJ : Hid (∀ wz : World, Owns wz BR (.slice (some ⟨gA, 0, none⟩) all.length c8) all → wz.cell? ⟨gA, j, none⟩ = some (.int .i64 X)) := fun wz hw => by
        rw [World.ownsRow.cellAt hw j (by omega), hX, hj]
        simp [ln, List.getD, hj]
      have h0' : ¬ (all.length : Int) = 0 := by omega
      rcases h2 : iTk (lb L) L.length q1 2 with e | ⟨q2, t⟩
      · obtain rfl := iTk_e h2
        have HBt := fun w' (_ : Ints lo hi w' a L) => hide (rbits_bad (a := a) (o := o) (ac := ac) (ol := ol) (oc := oc) (m := m) (w := w') hqT (by decide) h2 2 rfl)
        have HRE := hide (HRR.out.trans (iLoop_err (iLen_badR h1 (by decide) hnone rfl h2)))
        clear h1 h2 HRR hnone hv16 hj hX
        go_upto_region 8 with (first
          | (refine st_load rfl (.tmp 3) rfl w.heap.size (by rfl) a o L.length ac ol oc _ m 0 (0, 0) OI.out.s0 ?_)
          | (go_at_call 58; refine HN.out.mono ?_; rintro x w3 ⟨rfl, hb3⟩; have O3 := hide (OI.out.stay hb3); have V3 := hide (VI.out.kept (Kept.of_below hb3) (fun g hg e => by have := (ownsRow_lt VI.out hg).2; omega)); have Q3 := hide (QI.out.stay hb3); have HB3 := hide hb3; clear hb3 OI HN VI QI)
          | (refine st_store rfl (.tmp 3) (.tmp 33) rfl w.heap.size (by rfl) a o L.length ac ol oc _ m 0 (by rfl) _ (by rfl) O3.out.s0 ?_; intro wz hgz hkz; have O4 := hide (O3.out.own hgz hkz); clear c4 zz zz0; have c4 := cells_of O4.out.s0 4; simp [sA] at c4; have zz := O4.out.size; have zz0 := Nat.lt_of_succ_lt zz; have SZ := hide (Nat.le_trans SW.out (Nat.le_trans (Below.size HB3.out) hkz.size)); have V4 := hide (V3.out.kept hkz (fun g hg e => ownsRow_apart_int V3.out O3.out.s0 (by rw [hg, e]))); have Q4 := hide (Q3.out.kept hkz (fun b cs t _ hb hs e => by subst e; rw [O3.out.s0] at hb; simp at hb; exact hs hb.2.symm)); clear hgz hkz O3))
        go_upto_region 17 with fail
        go_upto_region 18 with (first
          | (refine st_load rfl (.tmp 3) rfl w.heap.size (by rfl) a o L.length ac ol oc _ m 0 (0, 0) O4.out.s0 ?_)
          | (go_at_call 30; refine (HBt _ (HL.out.stay O4.out.below)).out.mono ?_; rintro x w5 ⟨rfl, hb5⟩; have O5 := hide (O4.out.stay hb5); have V5 := hide (V4.out.kept (Kept.of_below hb5) (fun g hg e => by have := (ownsRow_lt V4.out hg).2; omega)); have Q5 := hide (Q4.out.stay hb5); have S5 := hide (Nat.le_trans SZ.out hb5.size); clear hb5 O4 HBt V4 Q4)
          | (refine st_store rfl (.tmp 3) (.tmp 59) rfl w.heap.size (by rfl) a o L.length ac ol oc _ m 60 (by rfl) _ (by rfl) O5.out.s0 ?_; intro wz hgz hkz; have O6 := hide (O5.out.own hgz hkz); clear c4 zz zz0; have c4 := cells_of O6.out.s0 4; simp [sA] at c4; have zz := O6.out.size; have zz0 := Nat.lt_of_succ_lt zz; have V6 := hide (V5.out.kept hkz (fun g hg e => ownsRow_apart_int V5.out O5.out.s0 (by rw [hg, e]))); have Q6 := hide (Q5.out.kept hkz (fun b cs t _ hb hs e => by subst e; rw [O5.out.s0] at hb; simp at hb; exact hs hb.2.symm)); have S6 := hide (Nat.le_trans S5.out hkz.size); have cj := HCJ.out _ V6.out; clear hgz hkz O5))
        go_wp2_with fail
        go_loopg [8, 13] 0 (fun g2 v8 v13 wx => g2 = 0 ∧ v8 = .slice (some ⟨gA, 0, none⟩) all.length c8 ∧ v13 = .int .i64 0 ∧ Hid (Two w wx (sA a L.length ac (q1 : Int) o ol oc m 60) #[.slice none 0 0, .int .i64 0, .slice none 0 0, .int .i64 0, .int .i64 0]) ∧ Hid (Owns wx BR (.slice (some ⟨gA, 0, none⟩) all.length c8) all) ∧ BR ≤ wx.heap.size)
        case atStart => exact ⟨rfl, rfl, rfl, O6.out, V6.out, S6.out⟩
        case round =>
          obtain ⟨rfl, rfl, rfl, OJ, VJ, hSJ⟩ := hrel
          clear c4 zz zz0
          have c4' := cells_of OJ.out.s0 4
          simp [sA] at c4'
          have hy := OJ.out.size
          have hy0 := Nat.lt_of_succ_lt hy
          go_wp2_with fail
          go_roundg (0 : Nat)
          case measure => omega
          case rel => exact ⟨all, _, c8, rfl, hal, hSJ, VJ.out, .inr ⟨60, _, hlt, by decide, by decide, HRE.out, OJ.out⟩⟩
      have ht := iTk_lt (lb_le HB.out) h2
      have HBt := fun w' (hi' : Ints lo hi w' a L) => hide (rbits_got (o := o) (ac := ac) (ol := ol) (oc := oc) (m := m) hL HB.out hi' (by decide) h2 2 rfl)
      by_cases hov : many < all.length + (3 + t)
      · have HRE := hide (HRR.out.trans (iLoop_err (iLen_overR h1 (by decide) hnone rfl rfl h2 hov)))
        have hov' : (many : Int) < (all.length : Int) + ((t : Int) + 3) := by omega
        have HF := fun w' => hide (rfails_c a o L.length ac ol oc (q2 : Int) m 0 63 w')
        clear h1 h2 HRR hnone hv16 hov hj hX
        go_upto_region 8 with (first
          | (refine st_load rfl (.tmp 3) rfl w.heap.size (by rfl) a o L.length ac ol oc _ m 0 (0, 0) OI.out.s0 ?_)
          | (go_at_call 58; refine HN.out.mono ?_; rintro x w3 ⟨rfl, hb3⟩; have O3 := hide (OI.out.stay hb3); have V3 := hide (VI.out.kept (Kept.of_below hb3) (fun g hg e => by have := (ownsRow_lt VI.out hg).2; omega)); have Q3 := hide (QI.out.stay hb3); have HB3 := hide hb3; clear hb3 OI HN VI QI)
          | (refine st_store rfl (.tmp 3) (.tmp 33) rfl w.heap.size (by rfl) a o L.length ac ol oc _ m 0 (by rfl) _ (by rfl) O3.out.s0 ?_; intro wz hgz hkz; have O4 := hide (O3.out.own hgz hkz); clear c4 zz zz0; have c4 := cells_of O4.out.s0 4; simp [sA] at c4; have zz := O4.out.size; have zz0 := Nat.lt_of_succ_lt zz; have SZ := hide (Nat.le_trans SW.out (Nat.le_trans (Below.size HB3.out) hkz.size)); have V4 := hide (V3.out.kept hkz (fun g hg e => ownsRow_apart_int V3.out O3.out.s0 (by rw [hg, e]))); have Q4 := hide (Q3.out.kept hkz (fun b cs t _ hb hs e => by subst e; rw [O3.out.s0] at hb; simp at hb; exact hs hb.2.symm)); clear hgz hkz O3))
        go_upto_region 17 with fail
        go_upto_region 18 with (first
          | (refine st_load rfl (.tmp 3) rfl w.heap.size (by rfl) a o L.length ac ol oc _ m 0 (0, 0) O4.out.s0 ?_)
          | (go_at_call 30; refine (HBt _ (HL.out.stay O4.out.below)).out.mono ?_; rintro x w5 ⟨rfl, hb5⟩; have O5 := hide (O4.out.stay hb5); have V5 := hide (V4.out.kept (Kept.of_below hb5) (fun g hg e => by have := (ownsRow_lt V4.out hg).2; omega)); have Q5 := hide (Q4.out.stay hb5); have S5 := hide (Nat.le_trans SZ.out hb5.size); clear hb5 O4 HBt V4 Q4)
          | (refine st_store rfl (.tmp 3) (.tmp 59) rfl w.heap.size (by rfl) a o L.length ac ol oc _ m 0 (by rfl) _ (by rfl) O5.out.s0 ?_; intro wz hgz hkz; have O6 := hide (O5.out.own hgz hkz); clear c4 zz zz0; have c4 := cells_of O6.out.s0 4; simp [sA] at c4; have zz := O6.out.size; have zz0 := Nat.lt_of_succ_lt zz; have V6 := hide (V5.out.kept hkz (fun g hg e => ownsRow_apart_int V5.out O5.out.s0 (by rw [hg, e]))); have Q6 := hide (Q5.out.kept hkz (fun b cs t _ hb hs e => by subst e; rw [O5.out.s0] at hb; simp at hb; exact hs hb.2.symm)); have S6 := hide (Nat.le_trans S5.out hkz.size); have cj := HCJ.out _ V6.out; clear hgz hkz O5))
        go_upto_region 28 with (first
          | (refine st_load rfl (.tmp 3) rfl w.heap.size (by rfl) a o L.length ac ol oc _ m 0 (0, 0) O6.out.s0 ?_)
          | (go_at_call 36; refine (HF _).out.mono ?_; rintro x w7 ⟨rfl, hb7⟩; have O7 := hide (O6.out.stay hb7); have V7 := hide (V6.out.kept (Kept.of_below hb7) (fun g hg e => by have := (ownsRow_lt V6.out hg).2; omega)); have S7 := hide (Nat.le_trans S6.out hb7.size); clear hb7 O6)
          | (refine st_store rfl (.tmp 3) (.tmp 99) rfl w.heap.size (by rfl) a o L.length ac ol oc _ m 63 (by rfl) _ (by rfl) O7.out.s0 ?_; intro wz hgz hkz; have O8 := hide (O7.out.own hgz hkz); clear c4 zz zz0; have c4 := cells_of O8.out.s0 4; simp [sA] at c4; have zz := O8.out.size; have zz0 := Nat.lt_of_succ_lt zz; have V8 := hide (V7.out.kept hkz (fun g hg e => ownsRow_apart_int V7.out O7.out.s0 (by rw [hg, e]))); have S8 := hide (Nat.le_trans S7.out hkz.size); clear hgz hkz O7))
        go_wp2_with fail
        go_loopg [8, 13] 0 (fun g2 v8 v13 wx => g2 = 0 ∧ v8 = .slice (some ⟨gA, 0, none⟩) all.length c8 ∧ v13 = .int .i64 0 ∧ Hid (Two w wx (sA a L.length ac (q2 : Int) o ol oc m 63) #[.slice none 0 0, .int .i64 0, .slice none 0 0, .int .i64 0, .int .i64 0]) ∧ Hid (Owns wx BR (.slice (some ⟨gA, 0, none⟩) all.length c8) all) ∧ BR ≤ wx.heap.size)
        case atStart => exact ⟨rfl, rfl, rfl, O8.out, V8.out, S8.out⟩
        case round =>
          obtain ⟨rfl, rfl, rfl, OJ, VJ, hSJ⟩ := hrel
          clear c4 zz zz0
          have c4' := cells_of OJ.out.s0 4
          simp [sA] at c4'
          have hy := OJ.out.size
          have hy0 := Nat.lt_of_succ_lt hy
          go_wp2_with fail
          go_roundg (0 : Nat)
          case measure => omega
          case rel => exact ⟨all, _, c8, rfl, hal, hSJ, VJ.out, .inr ⟨63, _, hlt, by decide, by decide, HRE.out, OJ.out⟩⟩
      · have hO := iLen_moreR (many := many) (k := 3) (L := X) h1 (by decide) hnone rfl rfl (by rw [if_pos rfl, ← hX]) h2 (by omega)
        have hgo := iGo_len first many (lb L) L.length p' all q2 _ hO
        obtain ⟨tm, htm⟩ : ∃ tm, tm = 3 + t := ⟨_, rfl⟩
        rw [← htm] at hov hO
        have htmB : tm ≤ 200 := by omega
        have HRE : Hid (R = if (all ++ List.replicate tm X).length < many then iLoop L.length (iLen first many (lb L) L.length) q2 (all ++ List.replicate tm X) else .ok (q2, all ++ List.replicate tm X)) := hide (by
          have := HRR.out.trans (iLoop_stepR hO hgo.1 hgo.2)
          simpa using this)
        have hql := hgo.2
        have hpq2 := hgo.1
        have hov' : ¬ (many : Int) < (all.length : Int) + ((t : Int) + 3) := by omega
        clear hO hgo h1 h2 HRR hnone hv16 hj hX
        go_upto_region 8 with (first
          | (refine st_load rfl (.tmp 3) rfl w.heap.size (by rfl) a o L.length ac ol oc _ m 0 (0, 0) OI.out.s0 ?_)
          | (go_at_call 58; refine HN.out.mono ?_; rintro x w3 ⟨rfl, hb3⟩; have O3 := hide (OI.out.stay hb3); have V3 := hide (VI.out.kept (Kept.of_below hb3) (fun g hg e => by have := (ownsRow_lt VI.out hg).2; omega)); have Q3 := hide (QI.out.stay hb3); have HB3 := hide hb3; clear hb3 OI HN VI QI)
          | (refine st_store rfl (.tmp 3) (.tmp 33) rfl w.heap.size (by rfl) a o L.length ac ol oc _ m 0 (by rfl) _ (by rfl) O3.out.s0 ?_; intro wz hgz hkz; have O4 := hide (O3.out.own hgz hkz); clear c4 zz zz0; have c4 := cells_of O4.out.s0 4; simp [sA] at c4; have zz := O4.out.size; have zz0 := Nat.lt_of_succ_lt zz; have SZ := hide (Nat.le_trans SW.out (Nat.le_trans (Below.size HB3.out) hkz.size)); have V4 := hide (V3.out.kept hkz (fun g hg e => ownsRow_apart_int V3.out O3.out.s0 (by rw [hg, e]))); have Q4 := hide (Q3.out.kept hkz (fun b cs t _ hb hs e => by subst e; rw [O3.out.s0] at hb; simp at hb; exact hs hb.2.symm)); clear hgz hkz O3))
        go_upto_region 17 with fail
        go_upto_region 18 with (first
          | (refine st_load rfl (.tmp 3) rfl w.heap.size (by rfl) a o L.length ac ol oc _ m 0 (0, 0) O4.out.s0 ?_)
          | (go_at_call 30; refine (HBt _ (HL.out.stay O4.out.below)).out.mono ?_; rintro x w5 ⟨rfl, hb5⟩; have O5 := hide (O4.out.stay hb5); have V5 := hide (V4.out.kept (Kept.of_below hb5) (fun g hg e => by have := (ownsRow_lt V4.out hg).2; omega)); have Q5 := hide (Q4.out.stay hb5); have S5 := hide (Nat.le_trans SZ.out hb5.size); clear hb5 O4 HBt V4 Q4)
          | (refine st_store rfl (.tmp 3) (.tmp 59) rfl w.heap.size (by rfl) a o L.length ac ol oc _ m 0 (by rfl) _ (by rfl) O5.out.s0 ?_; intro wz hgz hkz; have O6 := hide (O5.out.own hgz hkz); clear c4 zz zz0; have c4 := cells_of O6.out.s0 4; simp [sA] at c4; have zz := O6.out.size; have zz0 := Nat.lt_of_succ_lt zz; have V6 := hide (V5.out.kept hkz (fun g hg e => ownsRow_apart_int V5.out O5.out.s0 (by rw [hg, e]))); have Q6 := hide (Q5.out.kept hkz (fun b cs t _ hb hs e => by subst e; rw [O5.out.s0] at hb; simp at hb; exact hs hb.2.symm)); have S6 := hide (Nat.le_trans S5.out hkz.size); have cj := HCJ.out _ V6.out; clear hgz hkz O5))
        go_wp2_with fail
        go_loopg [8, 13] tm (fun g2 v8 v13 wx => ∃ (i : Nat) (a9 : Option Addr) (c9 : Nat), i + g2 = tm ∧ v13 = .int .i64 (i : Int) ∧ v8 = .slice a9 (all ++ List.replicate i X).length c9 ∧ BR ≤ wx.heap.size ∧ Hid (Owns wx BR (.slice a9 (all ++ List.replicate i X).length c9) (all ++ List.replicate i X)) ∧ Hid (Two w wx (sA a L.length ac (q2 : Int) o ol oc m 0) #[.slice none 0 0, .int .i64 0, .slice none 0 0, .int .i64 0, .int .i64 0]) ∧ Hid (RAt3 BR wx ra first))
        case atStart => exact ⟨0, (some ⟨gA, 0, none⟩), c8, by omega, rfl, by simp, S6.out, hide (by simpa using V6.out), O6.out, Q6.out⟩
        case round =>
          obtain ⟨i, a9, c9, hig, rfl, rfl, hSJ, VJ, OJ, QJ⟩ := hrel
          clear c4 zz zz0 O6 V6 Q6
          have c4' := cells_of OJ.out.s0 4
          simp [sA] at c4'
          have hy := OJ.out.size
          have hy0 := Nat.lt_of_succ_lt hy
          cases gk with
          | zero =>
            obtain rfl : i = tm := by omega
            have hle : ¬ (i : Int) < (t : Int) + 3 := by omega
            clear htm
            go_wp2_with fail
            go_roundg (L.length - q2)
            case measure => omega
            case rel => exact ⟨all ++ List.replicate i X, a9, c9, by simp, by simp; omega, hSJ, by simpa using VJ.out, .inl ⟨q2, by omega, HRE.out, OJ.out, QJ.out⟩⟩
          | succ g3 =>
            have hit : (i : Int) < (t : Int) + 3 := by omega
            obtain ⟨F, hF⟩ : ∃ F, F = all ++ List.replicate i X := ⟨_, rfl⟩
            have HFS : Hid (all ++ List.replicate (i + 1) X = F ++ [X]) := by rw [hF, List.replicate_succ', List.append_assoc]; exact rfl
            have hFl : F.length ≤ 2000 := by rw [hF]; simp; omega
            rw [← hF] at VJ ⊢
            clear hF htm
            go_wp2_with (at_builtin; refine wpList_append_own _ rfl _ _ 45 rfl BR 3 i0 (.int .i64 0) 1 8 Tryz.underlying45 hi0 hz0 hz1 hz2 rfl (by decide) _ F.length (F.map (Value.int .i64)) rfl (World.ownsRow.alloc VJ.out _) ⟨wr.heap.size, 0, none⟩ 1 1 [.int .i64 X] rfl rfl (one_int wr _) (by intro u hu; simp at hu; subst hu; rfl) (by unfold maxLen; omega) (by omega) (by simp; omega) ?_; intro v' w9 hown' hgrow hnil; obtain ⟨a4, c4, rfl⟩ := own_form hown'; have KG := hide (kg_of hgrow); have V9 := hide (Owns.push hown'); clear hown' hgrow hnil)
            go_roundg g3
            case measure => omega
            case rel =>
              refine ⟨i + 1, a4, c4, by omega, by go_num, ?_, Nat.le_trans hSJ KG.out.size, ?_, OJ.out.kept KG.out (fun i hi e => by have h1 := (ownsRow_lt VJ.out e.symm).1; omega), QJ.out.kept KG.out (fun b cs t hlt hb _ e => by have := (ownsRow_lt VJ.out e.symm).1; omega)⟩
              · rw [HFS.out]; simp
              · exact hide (by rw [HFS.out]; simpa using V9.out)
    · -- v = 17
      rcases h2 : iTk (lb L) L.length q1 3 with e | ⟨q2, t⟩
      · obtain rfl := iTk_e h2
        have HBt := fun w' (_ : Ints lo hi w' a L) => hide (rbits_bad (a := a) (o := o) (ac := ac) (ol := ol) (oc := oc) (m := m) (w := w') hqT (by decide) h2 3 rfl)
        have HRE := hide (HRR.out.trans (iLoop_err (iLen_badR h1 (by decide) hnone rfl h2)))
        clear h1 h2 HRR hnone hv16
        go_upto_region 8 with (first
          | (refine st_load rfl (.tmp 3) rfl w.heap.size (by rfl) a o L.length ac ol oc _ m 0 (0, 0) OI.out.s0 ?_)
          | (go_at_call 58; refine HN.out.mono ?_; rintro x w3 ⟨rfl, hb3⟩; have O3 := hide (OI.out.stay hb3); have V3 := hide (VI.out.kept (Kept.of_below hb3) (fun g hg e => by have := (ownsRow_lt VI.out hg).2; omega)); have Q3 := hide (QI.out.stay hb3); have HB3 := hide hb3; clear hb3 OI HN VI QI)
          | (refine st_store rfl (.tmp 3) (.tmp 33) rfl w.heap.size (by rfl) a o L.length ac ol oc _ m 0 (by rfl) _ (by rfl) O3.out.s0 ?_; intro wz hgz hkz; have O4 := hide (O3.out.own hgz hkz); clear c4 zz zz0; have c4 := cells_of O4.out.s0 4; simp [sA] at c4; have zz := O4.out.size; have zz0 := Nat.lt_of_succ_lt zz; have SZ := hide (Nat.le_trans SW.out (Nat.le_trans (Below.size HB3.out) hkz.size)); have V4 := hide (V3.out.kept hkz (fun g hg e => ownsRow_apart_int V3.out O3.out.s0 (by rw [hg, e]))); have Q4 := hide (Q3.out.kept hkz (fun b cs t _ hb hs e => by subst e; rw [O3.out.s0] at hb; simp at hb; exact hs hb.2.symm)); clear hgz hkz O3))
        go_upto_region 21 with fail
        go_upto_region 22 with (first
          | (refine st_load rfl (.tmp 3) rfl w.heap.size (by rfl) a o L.length ac ol oc _ m 0 (0, 0) O4.out.s0 ?_)
          | (go_at_call 30; refine (HBt _ (HL.out.stay O4.out.below)).out.mono ?_; rintro x w5 ⟨rfl, hb5⟩; have O5 := hide (O4.out.stay hb5); have V5 := hide (V4.out.kept (Kept.of_below hb5) (fun g hg e => by have := (ownsRow_lt V4.out hg).2; omega)); have Q5 := hide (Q4.out.stay hb5); have S5 := hide (Nat.le_trans SZ.out hb5.size); clear hb5 O4 HBt V4 Q4)
          | (refine st_store rfl (.tmp 3) (.tmp 74) rfl w.heap.size (by rfl) a o L.length ac ol oc _ m 60 (by rfl) _ (by rfl) O5.out.s0 ?_; intro wz hgz hkz; have O6 := hide (O5.out.own hgz hkz); clear c4 zz zz0; have c4 := cells_of O6.out.s0 4; simp [sA] at c4; have zz := O6.out.size; have zz0 := Nat.lt_of_succ_lt zz; have V6 := hide (V5.out.kept hkz (fun g hg e => ownsRow_apart_int V5.out O5.out.s0 (by rw [hg, e]))); have Q6 := hide (Q5.out.kept hkz (fun b cs t _ hb hs e => by subst e; rw [O5.out.s0] at hb; simp at hb; exact hs hb.2.symm)); have S6 := hide (Nat.le_trans S5.out hkz.size); clear hgz hkz O5))
        go_wp2_with fail
        go_loopg [8, 13] 0 (fun g2 v8 v13 wx => g2 = 0 ∧ v8 = .slice a8 all.length c8 ∧ v13 = .int .i64 0 ∧ Hid (Two w wx (sA a L.length ac (q1 : Int) o ol oc m 60) #[.slice none 0 0, .int .i64 0, .slice none 0 0, .int .i64 0, .int .i64 0]) ∧ Hid (Owns wx BR (.slice a8 all.length c8) all) ∧ BR ≤ wx.heap.size)
        case atStart => exact ⟨rfl, rfl, rfl, O6.out, V6.out, S6.out⟩
        case round =>
          obtain ⟨rfl, rfl, rfl, OJ, VJ, hSJ⟩ := hrel
          clear c4 zz zz0
          have c4' := cells_of OJ.out.s0 4
          simp [sA] at c4'
          have hy := OJ.out.size
          have hy0 := Nat.lt_of_succ_lt hy
          go_wp2_with fail
          go_roundg (0 : Nat)
          case measure => omega
          case rel => exact ⟨all, _, c8, rfl, hal, hSJ, VJ.out, .inr ⟨60, _, hlt, by decide, by decide, HRE.out, OJ.out⟩⟩
      have ht := iTk_lt (lb_le HB.out) h2
      have HBt := fun w' (hi' : Ints lo hi w' a L) => hide (rbits_got (o := o) (ac := ac) (ol := ol) (oc := oc) (m := m) hL HB.out hi' (by decide) h2 3 rfl)
      by_cases hov : many < all.length + (3 + t)
      · have HRE := hide (HRR.out.trans (iLoop_err (iLen_overR h1 (by decide) hnone rfl rfl h2 hov)))
        have hov' : (many : Int) < (all.length : Int) + ((t : Int) + 3) := by omega
        have HF := fun w' => hide (rfails_c a o L.length ac ol oc (q2 : Int) m 0 63 w')
        clear h1 h2 HRR hnone hv16 hov
        go_upto_region 8 with (first
          | (refine st_load rfl (.tmp 3) rfl w.heap.size (by rfl) a o L.length ac ol oc _ m 0 (0, 0) OI.out.s0 ?_)
          | (go_at_call 58; refine HN.out.mono ?_; rintro x w3 ⟨rfl, hb3⟩; have O3 := hide (OI.out.stay hb3); have V3 := hide (VI.out.kept (Kept.of_below hb3) (fun g hg e => by have := (ownsRow_lt VI.out hg).2; omega)); have Q3 := hide (QI.out.stay hb3); have HB3 := hide hb3; clear hb3 OI HN VI QI)
          | (refine st_store rfl (.tmp 3) (.tmp 33) rfl w.heap.size (by rfl) a o L.length ac ol oc _ m 0 (by rfl) _ (by rfl) O3.out.s0 ?_; intro wz hgz hkz; have O4 := hide (O3.out.own hgz hkz); clear c4 zz zz0; have c4 := cells_of O4.out.s0 4; simp [sA] at c4; have zz := O4.out.size; have zz0 := Nat.lt_of_succ_lt zz; have SZ := hide (Nat.le_trans SW.out (Nat.le_trans (Below.size HB3.out) hkz.size)); have V4 := hide (V3.out.kept hkz (fun g hg e => ownsRow_apart_int V3.out O3.out.s0 (by rw [hg, e]))); have Q4 := hide (Q3.out.kept hkz (fun b cs t _ hb hs e => by subst e; rw [O3.out.s0] at hb; simp at hb; exact hs hb.2.symm)); clear hgz hkz O3))
        go_upto_region 21 with fail
        go_upto_region 22 with (first
          | (refine st_load rfl (.tmp 3) rfl w.heap.size (by rfl) a o L.length ac ol oc _ m 0 (0, 0) O4.out.s0 ?_)
          | (go_at_call 30; refine (HBt _ (HL.out.stay O4.out.below)).out.mono ?_; rintro x w5 ⟨rfl, hb5⟩; have O5 := hide (O4.out.stay hb5); have V5 := hide (V4.out.kept (Kept.of_below hb5) (fun g hg e => by have := (ownsRow_lt V4.out hg).2; omega)); have Q5 := hide (Q4.out.stay hb5); have S5 := hide (Nat.le_trans SZ.out hb5.size); clear hb5 O4 HBt V4 Q4)
          | (refine st_store rfl (.tmp 3) (.tmp 74) rfl w.heap.size (by rfl) a o L.length ac ol oc _ m 0 (by rfl) _ (by rfl) O5.out.s0 ?_; intro wz hgz hkz; have O6 := hide (O5.out.own hgz hkz); clear c4 zz zz0; have c4 := cells_of O6.out.s0 4; simp [sA] at c4; have zz := O6.out.size; have zz0 := Nat.lt_of_succ_lt zz; have V6 := hide (V5.out.kept hkz (fun g hg e => ownsRow_apart_int V5.out O5.out.s0 (by rw [hg, e]))); have Q6 := hide (Q5.out.kept hkz (fun b cs t _ hb hs e => by subst e; rw [O5.out.s0] at hb; simp at hb; exact hs hb.2.symm)); have S6 := hide (Nat.le_trans S5.out hkz.size); clear hgz hkz O5))
        go_upto_region 28 with (first
          | (refine st_load rfl (.tmp 3) rfl w.heap.size (by rfl) a o L.length ac ol oc _ m 0 (0, 0) O6.out.s0 ?_)
          | (go_at_call 36; refine (HF _).out.mono ?_; rintro x w7 ⟨rfl, hb7⟩; have O7 := hide (O6.out.stay hb7); have V7 := hide (V6.out.kept (Kept.of_below hb7) (fun g hg e => by have := (ownsRow_lt V6.out hg).2; omega)); have S7 := hide (Nat.le_trans S6.out hb7.size); clear hb7 O6)
          | (refine st_store rfl (.tmp 3) (.tmp 99) rfl w.heap.size (by rfl) a o L.length ac ol oc _ m 63 (by rfl) _ (by rfl) O7.out.s0 ?_; intro wz hgz hkz; have O8 := hide (O7.out.own hgz hkz); clear c4 zz zz0; have c4 := cells_of O8.out.s0 4; simp [sA] at c4; have zz := O8.out.size; have zz0 := Nat.lt_of_succ_lt zz; have V8 := hide (V7.out.kept hkz (fun g hg e => ownsRow_apart_int V7.out O7.out.s0 (by rw [hg, e]))); have S8 := hide (Nat.le_trans S7.out hkz.size); clear hgz hkz O7))
        go_wp2_with fail
        go_loopg [8, 13] 0 (fun g2 v8 v13 wx => g2 = 0 ∧ v8 = .slice a8 all.length c8 ∧ v13 = .int .i64 0 ∧ Hid (Two w wx (sA a L.length ac (q2 : Int) o ol oc m 63) #[.slice none 0 0, .int .i64 0, .slice none 0 0, .int .i64 0, .int .i64 0]) ∧ Hid (Owns wx BR (.slice a8 all.length c8) all) ∧ BR ≤ wx.heap.size)
        case atStart => exact ⟨rfl, rfl, rfl, O8.out, V8.out, S8.out⟩
        case round =>
          obtain ⟨rfl, rfl, rfl, OJ, VJ, hSJ⟩ := hrel
          clear c4 zz zz0
          have c4' := cells_of OJ.out.s0 4
          simp [sA] at c4'
          have hy := OJ.out.size
          have hy0 := Nat.lt_of_succ_lt hy
          go_wp2_with fail
          go_roundg (0 : Nat)
          case measure => omega
          case rel => exact ⟨all, _, c8, rfl, hal, hSJ, VJ.out, .inr ⟨63, _, hlt, by decide, by decide, HRE.out, OJ.out⟩⟩
      · have hO := iLen_moreR (many := many) (k := 3) (L := (0 : Int)) h1 (by decide) hnone rfl rfl rfl h2 (by omega)
        have hgo := iGo_len first many (lb L) L.length p' all q2 _ hO
        obtain ⟨tm, htm⟩ : ∃ tm, tm = 3 + t := ⟨_, rfl⟩
        rw [← htm] at hov hO
        have htmB : tm ≤ 200 := by omega
        have HRE : Hid (R = if (all ++ List.replicate tm (0 : Int)).length < many then iLoop L.length (iLen first many (lb L) L.length) q2 (all ++ List.replicate tm (0 : Int)) else .ok (q2, all ++ List.replicate tm (0 : Int))) := hide (by
          have := HRR.out.trans (iLoop_stepR hO hgo.1 hgo.2)
          simpa using this)
        have hql := hgo.2
        have hpq2 := hgo.1
        have hov' : ¬ (many : Int) < (all.length : Int) + ((t : Int) + 3) := by omega
        clear hO hgo h1 h2 HRR hnone hv16
        go_upto_region 8 with (first
          | (refine st_load rfl (.tmp 3) rfl w.heap.size (by rfl) a o L.length ac ol oc _ m 0 (0, 0) OI.out.s0 ?_)
          | (go_at_call 58; refine HN.out.mono ?_; rintro x w3 ⟨rfl, hb3⟩; have O3 := hide (OI.out.stay hb3); have V3 := hide (VI.out.kept (Kept.of_below hb3) (fun g hg e => by have := (ownsRow_lt VI.out hg).2; omega)); have Q3 := hide (QI.out.stay hb3); have HB3 := hide hb3; clear hb3 OI HN VI QI)
          | (refine st_store rfl (.tmp 3) (.tmp 33) rfl w.heap.size (by rfl) a o L.length ac ol oc _ m 0 (by rfl) _ (by rfl) O3.out.s0 ?_; intro wz hgz hkz; have O4 := hide (O3.out.own hgz hkz); clear c4 zz zz0; have c4 := cells_of O4.out.s0 4; simp [sA] at c4; have zz := O4.out.size; have zz0 := Nat.lt_of_succ_lt zz; have SZ := hide (Nat.le_trans SW.out (Nat.le_trans (Below.size HB3.out) hkz.size)); have V4 := hide (V3.out.kept hkz (fun g hg e => ownsRow_apart_int V3.out O3.out.s0 (by rw [hg, e]))); have Q4 := hide (Q3.out.kept hkz (fun b cs t _ hb hs e => by subst e; rw [O3.out.s0] at hb; simp at hb; exact hs hb.2.symm)); clear hgz hkz O3))
        go_upto_region 21 with fail
        go_upto_region 22 with (first
          | (refine st_load rfl (.tmp 3) rfl w.heap.size (by rfl) a o L.length ac ol oc _ m 0 (0, 0) O4.out.s0 ?_)
          | (go_at_call 30; refine (HBt _ (HL.out.stay O4.out.below)).out.mono ?_; rintro x w5 ⟨rfl, hb5⟩; have O5 := hide (O4.out.stay hb5); have V5 := hide (V4.out.kept (Kept.of_below hb5) (fun g hg e => by have := (ownsRow_lt V4.out hg).2; omega)); have Q5 := hide (Q4.out.stay hb5); have S5 := hide (Nat.le_trans SZ.out hb5.size); clear hb5 O4 HBt V4 Q4)
          | (refine st_store rfl (.tmp 3) (.tmp 74) rfl w.heap.size (by rfl) a o L.length ac ol oc _ m 0 (by rfl) _ (by rfl) O5.out.s0 ?_; intro wz hgz hkz; have O6 := hide (O5.out.own hgz hkz); clear c4 zz zz0; have c4 := cells_of O6.out.s0 4; simp [sA] at c4; have zz := O6.out.size; have zz0 := Nat.lt_of_succ_lt zz; have V6 := hide (V5.out.kept hkz (fun g hg e => ownsRow_apart_int V5.out O5.out.s0 (by rw [hg, e]))); have Q6 := hide (Q5.out.kept hkz (fun b cs t _ hb hs e => by subst e; rw [O5.out.s0] at hb; simp at hb; exact hs hb.2.symm)); have S6 := hide (Nat.le_trans S5.out hkz.size); clear hgz hkz O5))
        go_wp2_with fail
        go_loopg [8, 13] tm (fun g2 v8 v13 wx => ∃ (i : Nat) (a9 : Option Addr) (c9 : Nat), i + g2 = tm ∧ v13 = .int .i64 (i : Int) ∧ v8 = .slice a9 (all ++ List.replicate i (0 : Int)).length c9 ∧ BR ≤ wx.heap.size ∧ Hid (Owns wx BR (.slice a9 (all ++ List.replicate i (0 : Int)).length c9) (all ++ List.replicate i (0 : Int))) ∧ Hid (Two w wx (sA a L.length ac (q2 : Int) o ol oc m 0) #[.slice none 0 0, .int .i64 0, .slice none 0 0, .int .i64 0, .int .i64 0]) ∧ Hid (RAt3 BR wx ra first))
        case atStart => exact ⟨0, a8, c8, by omega, rfl, by simp, S6.out, hide (by simpa using V6.out), O6.out, Q6.out⟩
        case round =>
          obtain ⟨i, a9, c9, hig, rfl, rfl, hSJ, VJ, OJ, QJ⟩ := hrel
          clear c4 zz zz0 O6 V6 Q6
          have c4' := cells_of OJ.out.s0 4
          simp [sA] at c4'
          have hy := OJ.out.size
          have hy0 := Nat.lt_of_succ_lt hy
          cases gk with
          | zero =>
            obtain rfl : i = tm := by omega
            have hle : ¬ (i : Int) < (t : Int) + 3 := by omega
            clear htm
            go_wp2_with fail
            go_roundg (L.length - q2)
            case measure => omega
            case rel => exact ⟨all ++ List.replicate i (0 : Int), a9, c9, by simp, by simp; omega, hSJ, by simpa using VJ.out, .inl ⟨q2, by omega, HRE.out, OJ.out, QJ.out⟩⟩
          | succ g3 =>
            have hit : (i : Int) < (t : Int) + 3 := by omega
            obtain ⟨F, hF⟩ : ∃ F, F = all ++ List.replicate i (0 : Int) := ⟨_, rfl⟩
            have HFS : Hid (all ++ List.replicate (i + 1) (0 : Int) = F ++ [(0 : Int)]) := by rw [hF, List.replicate_succ', List.append_assoc]; exact rfl
            have hFl : F.length ≤ 2000 := by rw [hF]; simp; omega
            rw [← hF] at VJ ⊢
            clear hF htm
            go_wp2_with (at_builtin; refine wpList_append_own _ rfl _ _ 45 rfl BR 3 i0 (.int .i64 0) 1 8 Tryz.underlying45 hi0 hz0 hz1 hz2 rfl (by decide) _ F.length (F.map (Value.int .i64)) rfl (World.ownsRow.alloc VJ.out _) ⟨wr.heap.size, 0, none⟩ 1 1 [.int .i64 (0 : Int)] rfl rfl (one_int wr _) (by intro u hu; simp at hu; subst hu; rfl) (by unfold maxLen; omega) (by omega) (by simp; omega) ?_; intro v' w9 hown' hgrow hnil; obtain ⟨a4, c4, rfl⟩ := own_form hown'; have KG := hide (kg_of hgrow); have V9 := hide (Owns.push hown'); clear hown' hgrow hnil)
            go_roundg g3
            case measure => omega
            case rel =>
              refine ⟨i + 1, a4, c4, by omega, by go_num, ?_, Nat.le_trans hSJ KG.out.size, ?_, OJ.out.kept KG.out (fun i hi e => by have h1 := (ownsRow_lt VJ.out e.symm).1; omega), QJ.out.kept KG.out (fun b cs t hlt hb _ e => by have := (ownsRow_lt VJ.out e.symm).1; omega)⟩
              · rw [HFS.out]; simp
              · exact hide (by rw [HFS.out]; simpa using V9.out)
    · -- v = 18
      rcases h2 : iTk (lb L) L.length q1 7 with e | ⟨q2, t⟩
      · obtain rfl := iTk_e h2
        have HBt := fun w' (_ : Ints lo hi w' a L) => hide (rbits_bad (a := a) (o := o) (ac := ac) (ol := ol) (oc := oc) (m := m) (w := w') hqT (by decide) h2 7 rfl)
        have HRE := hide (HRR.out.trans (iLoop_err (iLen_badR h1 (by decide) hnone rfl h2)))
        clear h1 h2 HRR hnone hv16
        go_upto_region 8 with (first
          | (refine st_load rfl (.tmp 3) rfl w.heap.size (by rfl) a o L.length ac ol oc _ m 0 (0, 0) OI.out.s0 ?_)
          | (go_at_call 58; refine HN.out.mono ?_; rintro x w3 ⟨rfl, hb3⟩; have O3 := hide (OI.out.stay hb3); have V3 := hide (VI.out.kept (Kept.of_below hb3) (fun g hg e => by have := (ownsRow_lt VI.out hg).2; omega)); have Q3 := hide (QI.out.stay hb3); have HB3 := hide hb3; clear hb3 OI HN VI QI)
          | (refine st_store rfl (.tmp 3) (.tmp 33) rfl w.heap.size (by rfl) a o L.length ac ol oc _ m 0 (by rfl) _ (by rfl) O3.out.s0 ?_; intro wz hgz hkz; have O4 := hide (O3.out.own hgz hkz); clear c4 zz zz0; have c4 := cells_of O4.out.s0 4; simp [sA] at c4; have zz := O4.out.size; have zz0 := Nat.lt_of_succ_lt zz; have SZ := hide (Nat.le_trans SW.out (Nat.le_trans (Below.size HB3.out) hkz.size)); have V4 := hide (V3.out.kept hkz (fun g hg e => ownsRow_apart_int V3.out O3.out.s0 (by rw [hg, e]))); have Q4 := hide (Q3.out.kept hkz (fun b cs t _ hb hs e => by subst e; rw [O3.out.s0] at hb; simp at hb; exact hs hb.2.symm)); clear hgz hkz O3))
        go_upto_region 24 with fail
        go_upto_region 25 with (first
          | (refine st_load rfl (.tmp 3) rfl w.heap.size (by rfl) a o L.length ac ol oc _ m 0 (0, 0) O4.out.s0 ?_)
          | (go_at_call 30; refine (HBt _ (HL.out.stay O4.out.below)).out.mono ?_; rintro x w5 ⟨rfl, hb5⟩; have O5 := hide (O4.out.stay hb5); have V5 := hide (V4.out.kept (Kept.of_below hb5) (fun g hg e => by have := (ownsRow_lt V4.out hg).2; omega)); have Q5 := hide (Q4.out.stay hb5); have S5 := hide (Nat.le_trans SZ.out hb5.size); clear hb5 O4 HBt V4 Q4)
          | (refine st_store rfl (.tmp 3) (.tmp 83) rfl w.heap.size (by rfl) a o L.length ac ol oc _ m 60 (by rfl) _ (by rfl) O5.out.s0 ?_; intro wz hgz hkz; have O6 := hide (O5.out.own hgz hkz); clear c4 zz zz0; have c4 := cells_of O6.out.s0 4; simp [sA] at c4; have zz := O6.out.size; have zz0 := Nat.lt_of_succ_lt zz; have V6 := hide (V5.out.kept hkz (fun g hg e => ownsRow_apart_int V5.out O5.out.s0 (by rw [hg, e]))); have Q6 := hide (Q5.out.kept hkz (fun b cs t _ hb hs e => by subst e; rw [O5.out.s0] at hb; simp at hb; exact hs hb.2.symm)); have S6 := hide (Nat.le_trans S5.out hkz.size); clear hgz hkz O5))
        go_wp2_with fail
        go_loopg [8, 13] 0 (fun g2 v8 v13 wx => g2 = 0 ∧ v8 = .slice a8 all.length c8 ∧ v13 = .int .i64 0 ∧ Hid (Two w wx (sA a L.length ac (q1 : Int) o ol oc m 60) #[.slice none 0 0, .int .i64 0, .slice none 0 0, .int .i64 0, .int .i64 0]) ∧ Hid (Owns wx BR (.slice a8 all.length c8) all) ∧ BR ≤ wx.heap.size)
        case atStart => exact ⟨rfl, rfl, rfl, O6.out, V6.out, S6.out⟩
        case round =>
          obtain ⟨rfl, rfl, rfl, OJ, VJ, hSJ⟩ := hrel
          clear c4 zz zz0
          have c4' := cells_of OJ.out.s0 4
          simp [sA] at c4'
          have hy := OJ.out.size
          have hy0 := Nat.lt_of_succ_lt hy
          go_wp2_with fail
          go_roundg (0 : Nat)
          case measure => omega
          case rel => exact ⟨all, _, c8, rfl, hal, hSJ, VJ.out, .inr ⟨60, _, hlt, by decide, by decide, HRE.out, OJ.out⟩⟩
      have ht := iTk_lt (lb_le HB.out) h2
      have HBt := fun w' (hi' : Ints lo hi w' a L) => hide (rbits_got (o := o) (ac := ac) (ol := ol) (oc := oc) (m := m) hL HB.out hi' (by decide) h2 7 rfl)
      by_cases hov : many < all.length + (11 + t)
      · have HRE := hide (HRR.out.trans (iLoop_err (iLen_overR h1 (by decide) hnone rfl rfl h2 hov)))
        have hov' : (many : Int) < (all.length : Int) + ((t : Int) + 11) := by omega
        have HF := fun w' => hide (rfails_c a o L.length ac ol oc (q2 : Int) m 0 63 w')
        clear h1 h2 HRR hnone hv16 hov
        go_upto_region 8 with (first
          | (refine st_load rfl (.tmp 3) rfl w.heap.size (by rfl) a o L.length ac ol oc _ m 0 (0, 0) OI.out.s0 ?_)
          | (go_at_call 58; refine HN.out.mono ?_; rintro x w3 ⟨rfl, hb3⟩; have O3 := hide (OI.out.stay hb3); have V3 := hide (VI.out.kept (Kept.of_below hb3) (fun g hg e => by have := (ownsRow_lt VI.out hg).2; omega)); have Q3 := hide (QI.out.stay hb3); have HB3 := hide hb3; clear hb3 OI HN VI QI)
          | (refine st_store rfl (.tmp 3) (.tmp 33) rfl w.heap.size (by rfl) a o L.length ac ol oc _ m 0 (by rfl) _ (by rfl) O3.out.s0 ?_; intro wz hgz hkz; have O4 := hide (O3.out.own hgz hkz); clear c4 zz zz0; have c4 := cells_of O4.out.s0 4; simp [sA] at c4; have zz := O4.out.size; have zz0 := Nat.lt_of_succ_lt zz; have SZ := hide (Nat.le_trans SW.out (Nat.le_trans (Below.size HB3.out) hkz.size)); have V4 := hide (V3.out.kept hkz (fun g hg e => ownsRow_apart_int V3.out O3.out.s0 (by rw [hg, e]))); have Q4 := hide (Q3.out.kept hkz (fun b cs t _ hb hs e => by subst e; rw [O3.out.s0] at hb; simp at hb; exact hs hb.2.symm)); clear hgz hkz O3))
        go_upto_region 24 with fail
        go_upto_region 25 with (first
          | (refine st_load rfl (.tmp 3) rfl w.heap.size (by rfl) a o L.length ac ol oc _ m 0 (0, 0) O4.out.s0 ?_)
          | (go_at_call 30; refine (HBt _ (HL.out.stay O4.out.below)).out.mono ?_; rintro x w5 ⟨rfl, hb5⟩; have O5 := hide (O4.out.stay hb5); have V5 := hide (V4.out.kept (Kept.of_below hb5) (fun g hg e => by have := (ownsRow_lt V4.out hg).2; omega)); have Q5 := hide (Q4.out.stay hb5); have S5 := hide (Nat.le_trans SZ.out hb5.size); clear hb5 O4 HBt V4 Q4)
          | (refine st_store rfl (.tmp 3) (.tmp 83) rfl w.heap.size (by rfl) a o L.length ac ol oc _ m 0 (by rfl) _ (by rfl) O5.out.s0 ?_; intro wz hgz hkz; have O6 := hide (O5.out.own hgz hkz); clear c4 zz zz0; have c4 := cells_of O6.out.s0 4; simp [sA] at c4; have zz := O6.out.size; have zz0 := Nat.lt_of_succ_lt zz; have V6 := hide (V5.out.kept hkz (fun g hg e => ownsRow_apart_int V5.out O5.out.s0 (by rw [hg, e]))); have Q6 := hide (Q5.out.kept hkz (fun b cs t _ hb hs e => by subst e; rw [O5.out.s0] at hb; simp at hb; exact hs hb.2.symm)); have S6 := hide (Nat.le_trans S5.out hkz.size); clear hgz hkz O5))
        go_upto_region 28 with (first
          | (refine st_load rfl (.tmp 3) rfl w.heap.size (by rfl) a o L.length ac ol oc _ m 0 (0, 0) O6.out.s0 ?_)
          | (go_at_call 36; refine (HF _).out.mono ?_; rintro x w7 ⟨rfl, hb7⟩; have O7 := hide (O6.out.stay hb7); have V7 := hide (V6.out.kept (Kept.of_below hb7) (fun g hg e => by have := (ownsRow_lt V6.out hg).2; omega)); have S7 := hide (Nat.le_trans S6.out hb7.size); clear hb7 O6)
          | (refine st_store rfl (.tmp 3) (.tmp 99) rfl w.heap.size (by rfl) a o L.length ac ol oc _ m 63 (by rfl) _ (by rfl) O7.out.s0 ?_; intro wz hgz hkz; have O8 := hide (O7.out.own hgz hkz); clear c4 zz zz0; have c4 := cells_of O8.out.s0 4; simp [sA] at c4; have zz := O8.out.size; have zz0 := Nat.lt_of_succ_lt zz; have V8 := hide (V7.out.kept hkz (fun g hg e => ownsRow_apart_int V7.out O7.out.s0 (by rw [hg, e]))); have S8 := hide (Nat.le_trans S7.out hkz.size); clear hgz hkz O7))
        go_wp2_with fail
        go_loopg [8, 13] 0 (fun g2 v8 v13 wx => g2 = 0 ∧ v8 = .slice a8 all.length c8 ∧ v13 = .int .i64 0 ∧ Hid (Two w wx (sA a L.length ac (q2 : Int) o ol oc m 63) #[.slice none 0 0, .int .i64 0, .slice none 0 0, .int .i64 0, .int .i64 0]) ∧ Hid (Owns wx BR (.slice a8 all.length c8) all) ∧ BR ≤ wx.heap.size)
        case atStart => exact ⟨rfl, rfl, rfl, O8.out, V8.out, S8.out⟩
        case round =>
          obtain ⟨rfl, rfl, rfl, OJ, VJ, hSJ⟩ := hrel
          clear c4 zz zz0
          have c4' := cells_of OJ.out.s0 4
          simp [sA] at c4'
          have hy := OJ.out.size
          have hy0 := Nat.lt_of_succ_lt hy
          go_wp2_with fail
          go_roundg (0 : Nat)
          case measure => omega
          case rel => exact ⟨all, _, c8, rfl, hal, hSJ, VJ.out, .inr ⟨63, _, hlt, by decide, by decide, HRE.out, OJ.out⟩⟩
      · have hO := iLen_moreR (many := many) (k := 11) (L := (0 : Int)) h1 (by decide) hnone rfl rfl rfl h2 (by omega)
        have hgo := iGo_len first many (lb L) L.length p' all q2 _ hO
        obtain ⟨tm, htm⟩ : ∃ tm, tm = 11 + t := ⟨_, rfl⟩
        rw [← htm] at hov hO
        have htmB : tm ≤ 200 := by omega
        have HRE : Hid (R = if (all ++ List.replicate tm (0 : Int)).length < many then iLoop L.length (iLen first many (lb L) L.length) q2 (all ++ List.replicate tm (0 : Int)) else .ok (q2, all ++ List.replicate tm (0 : Int))) := hide (by
          have := HRR.out.trans (iLoop_stepR hO hgo.1 hgo.2)
          simpa using this)
        have hql := hgo.2
        have hpq2 := hgo.1
        have hov' : ¬ (many : Int) < (all.length : Int) + ((t : Int) + 11) := by omega
        clear hO hgo h1 h2 HRR hnone hv16
        go_upto_region 8 with (first
          | (refine st_load rfl (.tmp 3) rfl w.heap.size (by rfl) a o L.length ac ol oc _ m 0 (0, 0) OI.out.s0 ?_)
          | (go_at_call 58; refine HN.out.mono ?_; rintro x w3 ⟨rfl, hb3⟩; have O3 := hide (OI.out.stay hb3); have V3 := hide (VI.out.kept (Kept.of_below hb3) (fun g hg e => by have := (ownsRow_lt VI.out hg).2; omega)); have Q3 := hide (QI.out.stay hb3); have HB3 := hide hb3; clear hb3 OI HN VI QI)
          | (refine st_store rfl (.tmp 3) (.tmp 33) rfl w.heap.size (by rfl) a o L.length ac ol oc _ m 0 (by rfl) _ (by rfl) O3.out.s0 ?_; intro wz hgz hkz; have O4 := hide (O3.out.own hgz hkz); clear c4 zz zz0; have c4 := cells_of O4.out.s0 4; simp [sA] at c4; have zz := O4.out.size; have zz0 := Nat.lt_of_succ_lt zz; have SZ := hide (Nat.le_trans SW.out (Nat.le_trans (Below.size HB3.out) hkz.size)); have V4 := hide (V3.out.kept hkz (fun g hg e => ownsRow_apart_int V3.out O3.out.s0 (by rw [hg, e]))); have Q4 := hide (Q3.out.kept hkz (fun b cs t _ hb hs e => by subst e; rw [O3.out.s0] at hb; simp at hb; exact hs hb.2.symm)); clear hgz hkz O3))
        go_upto_region 24 with fail
        go_upto_region 25 with (first
          | (refine st_load rfl (.tmp 3) rfl w.heap.size (by rfl) a o L.length ac ol oc _ m 0 (0, 0) O4.out.s0 ?_)
          | (go_at_call 30; refine (HBt _ (HL.out.stay O4.out.below)).out.mono ?_; rintro x w5 ⟨rfl, hb5⟩; have O5 := hide (O4.out.stay hb5); have V5 := hide (V4.out.kept (Kept.of_below hb5) (fun g hg e => by have := (ownsRow_lt V4.out hg).2; omega)); have Q5 := hide (Q4.out.stay hb5); have S5 := hide (Nat.le_trans SZ.out hb5.size); clear hb5 O4 HBt V4 Q4)
          | (refine st_store rfl (.tmp 3) (.tmp 83) rfl w.heap.size (by rfl) a o L.length ac ol oc _ m 0 (by rfl) _ (by rfl) O5.out.s0 ?_; intro wz hgz hkz; have O6 := hide (O5.out.own hgz hkz); clear c4 zz zz0; have c4 := cells_of O6.out.s0 4; simp [sA] at c4; have zz := O6.out.size; have zz0 := Nat.lt_of_succ_lt zz; have V6 := hide (V5.out.kept hkz (fun g hg e => ownsRow_apart_int V5.out O5.out.s0 (by rw [hg, e]))); have Q6 := hide (Q5.out.kept hkz (fun b cs t _ hb hs e => by subst e; rw [O5.out.s0] at hb; simp at hb; exact hs hb.2.symm)); have S6 := hide (Nat.le_trans S5.out hkz.size); clear hgz hkz O5))
        go_wp2_with fail
        go_loopg [8, 13] tm (fun g2 v8 v13 wx => ∃ (i : Nat) (a9 : Option Addr) (c9 : Nat), i + g2 = tm ∧ v13 = .int .i64 (i : Int) ∧ v8 = .slice a9 (all ++ List.replicate i (0 : Int)).length c9 ∧ BR ≤ wx.heap.size ∧ Hid (Owns wx BR (.slice a9 (all ++ List.replicate i (0 : Int)).length c9) (all ++ List.replicate i (0 : Int))) ∧ Hid (Two w wx (sA a L.length ac (q2 : Int) o ol oc m 0) #[.slice none 0 0, .int .i64 0, .slice none 0 0, .int .i64 0, .int .i64 0]) ∧ Hid (RAt3 BR wx ra first))
        case atStart => exact ⟨0, a8, c8, by omega, rfl, by simp, S6.out, hide (by simpa using V6.out), O6.out, Q6.out⟩
        case round =>
          obtain ⟨i, a9, c9, hig, rfl, rfl, hSJ, VJ, OJ, QJ⟩ := hrel
          clear c4 zz zz0 O6 V6 Q6
          have c4' := cells_of OJ.out.s0 4
          simp [sA] at c4'
          have hy := OJ.out.size
          have hy0 := Nat.lt_of_succ_lt hy
          cases gk with
          | zero =>
            obtain rfl : i = tm := by omega
            have hle : ¬ (i : Int) < (t : Int) + 11 := by omega
            clear htm
            go_wp2_with fail
            go_roundg (L.length - q2)
            case measure => omega
            case rel => exact ⟨all ++ List.replicate i (0 : Int), a9, c9, by simp, by simp; omega, hSJ, by simpa using VJ.out, .inl ⟨q2, by omega, HRE.out, OJ.out, QJ.out⟩⟩
          | succ g3 =>
            have hit : (i : Int) < (t : Int) + 11 := by omega
            obtain ⟨F, hF⟩ : ∃ F, F = all ++ List.replicate i (0 : Int) := ⟨_, rfl⟩
            have HFS : Hid (all ++ List.replicate (i + 1) (0 : Int) = F ++ [(0 : Int)]) := by rw [hF, List.replicate_succ', List.append_assoc]; exact rfl
            have hFl : F.length ≤ 2000 := by rw [hF]; simp; omega
            rw [← hF] at VJ ⊢
            clear hF htm
            go_wp2_with (at_builtin; refine wpList_append_own _ rfl _ _ 45 rfl BR 3 i0 (.int .i64 0) 1 8 Tryz.underlying45 hi0 hz0 hz1 hz2 rfl (by decide) _ F.length (F.map (Value.int .i64)) rfl (World.ownsRow.alloc VJ.out _) ⟨wr.heap.size, 0, none⟩ 1 1 [.int .i64 (0 : Int)] rfl rfl (one_int wr _) (by intro u hu; simp at hu; subst hu; rfl) (by unfold maxLen; omega) (by omega) (by simp; omega) ?_; intro v' w9 hown' hgrow hnil; obtain ⟨a4, c4, rfl⟩ := own_form hown'; have KG := hide (kg_of hgrow); have V9 := hide (Owns.push hown'); clear hown' hgrow hnil)
            go_roundg g3
            case measure => omega
            case rel =>
              refine ⟨i + 1, a4, c4, by omega, by go_num, ?_, Nat.le_trans hSJ KG.out.size, ?_, OJ.out.kept KG.out (fun i hi e => by have h1 := (ownsRow_lt VJ.out e.symm).1; omega), QJ.out.kept KG.out (fun b cs t hlt hb _ e => by have := (ownsRow_lt VJ.out e.symm).1; omega)⟩
              · rw [HFS.out]; simp
              · exact hide (by rw [HFS.out]; simpa using V9.out)
end Go.Proofs.YtlakgbckopjelabGreatDoor
