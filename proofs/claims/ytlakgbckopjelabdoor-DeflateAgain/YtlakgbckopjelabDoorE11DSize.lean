/- Several texts, laid together: DCutN, DShstN, DShstM, DSize. -/
import Derived.Test.YtlakgbckopjelabDoorE10DDef
import Derived.Deep.AppendLies
/- cut of tokens that make several rows, size of several blocks: contracts. -/
namespace Go.Proofs.YtlakgbckopjelabDoor
set_option maxRecDepth 100000
open Go Go.RowKit

/-- How many rows; how many tokens the j-th has; which ones. -/
def nR (n : Nat) : Nat := (n - 1) / 16384 + 1
def rL (n j : Nat) : Nat := min 16384 (n - j * 16384)
def tsJ (ts : List M.Tk) (j : Nat) : List M.Tk := (ts.drop (j * 16384)).take 16384
theorem tsJ_length (ts : List M.Tk) (j : Nat) : (tsJ ts j).length = rL ts.length j := by simp [tsJ, rL]
theorem tsJ_tk (ts : List M.Tk) (j : Nat) {i : Nat} (h : i < (tsJ ts j).length) : M.tk (tsJ ts j) i = M.tk ts (j * 16384 + i) := by
  rw [tsJ_length] at h
  unfold rL at h
  unfold M.tk tsJ
  simp only [List.getD]
  rw [List.getElem?_take_of_lt (by omega), List.getElem?_drop]
theorem tsJ_sub {ts : List M.Tk} {j : Nat} {t : M.Tk} (h : t ∈ tsJ ts j) : t ∈ ts := List.mem_of_mem_drop (List.mem_of_mem_take h)
theorem TkIn.row {w : World} {b off : Nat} {ts : List M.Tk} (h : TkIn w (some ⟨b, off, none⟩) ts) (j : Nat) : TkIn w (some ⟨b, off + j * 49152, none⟩) (tsJ ts j) := by
  have hb := h.b b off rfl
  refine ⟨?_, fun b' off' e => ?_, fun t ht => h.ok t (tsJ_sub ht), ?_⟩
  · by_cases h0 : (tsJ ts j).length = 0
    · exact .inl h0
    · rcases h.t with h1 | ⟨b', off', _, e, hc⟩
      · exfalso
        rw [tsJ_length] at h0
        unfold rL at h0
        omega
      · simp only [Option.some.injEq, Addr.mk.injEq, and_true] at e
        obtain ⟨rfl, rfl⟩ := e
        refine .inr ⟨b, off + j * 49152, hb, rfl, fun i hi => ?_⟩
        have hl := hi
        rw [tsJ_length] at hl
        unfold rL at hl
        rw [tsJ_tk ts j hi]
        have := hc (j * 16384 + i) (by omega)
        rw [show off + (j * 16384 + i) * 3 = off + j * 49152 + i * 3 by omega] at this
        exact this
  · simp only [Option.some.injEq, Addr.mk.injEq, and_true] at e
    omega
  · have := h.len
    rw [tsJ_length]
    unfold rL
    omega
theorem tsJ_all (ts : List M.Tk) : ∀ n, ts.length ≤ n * 16384 → (List.range n).flatMap (tsJ ts) = ts := by
  have key : ∀ n, (List.range n).flatMap (tsJ ts) = ts.take (n * 16384) := by
    intro n
    induction n with
    | zero => simp
    | succ n ih =>
      rw [List.range_succ, List.flatMap_append, ih]
      simp only [List.flatMap_cons, List.flatMap_nil, List.append_nil]
      unfold tsJ
      rw [show (n + 1) * 16384 = n * 16384 + 16384 by omega, List.take_add]
  intro n h
  rw [key, List.take_of_length_le h]
/-- Rows as they are told. -/
def rV (b off n j : Nat) : Value := .slice (some ⟨b, off + j * 49152, none⟩) (rL n j) (rL n j)
def rVs (b off n i : Nat) : List Value := (List.range i).map (rV b off n)
theorem rVs_succ (b off n i : Nat) : rVs b off n (i + 1) = rVs b off n i ++ [rV b off n i] := by simp [rVs, List.range_succ]
theorem rVs_length (b off n i : Nat) : (rVs b off n i).length = i := by simp [rVs]
def CutN (w : World) (b off n : Nat) (e : Ending) (w' : World) : Prop := ∃ g cap, e = .returned (.slice (some ⟨g, 0, none⟩) (nR n) cap) ∧ w.heap.size ≤ g ∧ (∀ j, j < nR n → w'.cell? ⟨g, j, none⟩ = some (rV b off n j)) ∧ Below w.heap.size w w'
theorem cutN_of {w w' : World} {b off n : Nat} {v : Value} (ho : w'.ownsRow w.heap.size 31 1 v (nR n) (rVs b off n (nR n))) (hb : Below w.heap.size w w') : ∃ a cap, v = .slice a (nR n) cap ∧ CutN w b off n (.returned (.slice a (nR n) cap)) w' := by
  rcases ho.2 with ⟨_, h2⟩ | ⟨g, cap, cur, rfl, hg1, hh, _, _, _, h4⟩
  · unfold nR at h2; omega
  · refine ⟨_, cap, rfl, g, cap, rfl, hg1, fun j hj => ?_, hb⟩
    rw [cells_of hh]
    have e : (cur.toList.take (nR n * 1))[j]? = (rVs b off n (nR n))[j]? := by rw [h4]
    rw [List.getElem?_take_of_lt (by omega), Array.getElem?_toList] at e
    rw [e]
    simp [rVs, hj]
theorem rV_one (b off n j : Nat) : ∀ u ∈ [rV b off n j], u.oneCell' = true := by intro u hu; simp at hu; subst hu; rfl
set_option maxHeartbeats 2000000 in
theorem cut_many (w : World) (b off ct n : Nat) (h : 16384 < n) (hn : n ≤ 1000000) (hc : n ≤ ct) :
    Calls Tryd.prog 21 #[.slice (some ⟨b, off, none⟩) n ct, .int .i64 16384] w (CutN w b off n) := by
  obtain ⟨i0, hi, hz0, hz1, hz2⟩ := info_parts Tryd.infoToks
  have hnR : nR n ≤ 62 := by unfold nR; omega
  go_enter Tryd.func21, Tryd.ntmps21
  go_wp2_with fail
  go_loopg [0, 5] (nR n - 1) (fun gk v0 v5 wx => ∃ (i m cc o : Nat) (V5 : Value), i + gk + 1 = nR n ∧ m + i * 16384 = n ∧ cc + i * 16384 = ct ∧ o = off + i * 49152 ∧ v0 = .slice (some ⟨b, o, none⟩) m cc ∧ V5 = v5 ∧ Hid (wx.ownsRow w.heap.size 31 1 V5 i (rVs b off n i) ∧ Below w.heap.size w wx))
  case atStart => exact ⟨0, n, ct, off, .slice none 0 0, by unfold nR; omega, by omega, by omega, by omega, rfl, rfl, World.ownsRow_nil _ _ _ _, Below.refl _ _⟩
  case round =>
    obtain ⟨i, m, cc, o, V5, hig, hm, hcc, ho, rfl, rfl, HO⟩ := hrel
    have hmc : m ≤ cc := by omega
    have hFW : Hid (∀ (x : Value) (v9 : Value) (w9 : World), (wr.alloc (.cells #[x] 31)).grownBy w9 V5.ownBlock → Below w.heap.size w w9) := fun x v9 w9 hg => by
      have hk := Kept.of_grown hg
      have hW : Below w.heap.size w (wr.alloc (.cells #[x] 31)) := HO.out.2.alloc HO.out.2.size _
      exact hW.trans (hk.below hW.size (fun y hy e => by have := (ownsRow_lt HO.out.1 e.symm).1; omega))
    have hoz := HO.out.2.size
    cases gk with
    | zero =>
      have hR : nR n = i + 1 := by omega
      have hml : m ≤ 16384 := by unfold nR at hR; omega
      have hge : ¬ (16384 : Int) < (m : Int) := by omega
      have hv : rV b off n i = .slice (some ⟨b, o, none⟩) m m := by
        have e : rL n i = m := by unfold rL; omega
        unfold rV; rw [e, ho]
      have HV := hide hv
      have hown : Hid (∀ x, (wr.alloc (.cells #[x] 31)).ownsRow w.heap.size 31 1 V5 i (rVs b off n i)) := fun x => World.ownsRow.alloc HO.out.1 _
      have hone := rV_one b off n i
      rw [hv] at hone
      have HF : Hid (∀ (v9 : Value) (w9 : World), (wr.alloc (.cells #[.slice (some ⟨b, o, none⟩) m m] 31)).grownBy w9 V5.ownBlock → w9.ownsRow w.heap.size 31 1 v9 (i + 1) (rVs b off n i ++ [.slice (some ⟨b, o, none⟩) m m]) → ∃ a cap, v9 = .slice a (nR n) cap ∧ CutN w b off n (.returned (.slice a (nR n) cap)) w9) := fun v9 w9 hg hw => by
        rw [← HV.out, ← rVs_succ, ← hR] at hw
        exact cutN_of hw (hFW.out _ v9 w9 hg)
      have hib : i ≤ 62 := by omega
      obtain ⟨R, hRR⟩ : ∃ R, nR n = R := ⟨_, rfl⟩
      rw [hRR] at HF
      clear HO hm ho hv hR hig hnR hRR hcc
      go_wp2_with (at_builtin; refine wpList_append_own _ rfl (.tmp 20) (.tmp 27) 49 rfl w.heap.size 31 i0 (.slice none 0 0) 1 24 Tryd.underlying49 hi hz0 hz1 hz2 rfl (by decide) V5 i (rVs b off n i) (by rfl) (hown.out _) ⟨wr.heap.size, 0, none⟩ 1 1 [.slice (some ⟨b, o, none⟩) m m] (by rfl) (by rfl) (World.news_of_block (heap_new wr _)) hone (by unfold maxLen; omega) (by omega) (by simp; omega) ?_; intro v9 w9 ow9 gr9 nl9; obtain ⟨a9, c9, rfl, hq⟩ := HF.out v9 w9 gr9 ow9; have HQ := hide hq; clear ow9 gr9 nl9 hq)
      go_ret
      exact HQ.out
    | succ g1 =>
      have hml : 16384 < m := by have : nR n = i + g1 + 2 := by omega
                                 unfold nR at this; omega
      have hgt : (16384 : Int) < (m : Int) := by omega
      have hcg : (16384 : Int) ≤ (cc : Int) := by omega
      have hv : rV b off n i = .slice (some ⟨b, o, none⟩) 16384 16384 := by
        have e : rL n i = 16384 := by unfold rL; omega
        unfold rV; rw [e, ho]
      have HV := hide hv
      have hown : Hid (∀ x, (wr.alloc (.cells #[x] 31)).ownsRow w.heap.size 31 1 V5 i (rVs b off n i)) := fun x => World.ownsRow.alloc HO.out.1 _
      have hone := rV_one b off n i
      rw [hv] at hone
      have HF : Hid (∀ (v9 : Value) (w9 : World), (wr.alloc (.cells #[.slice (some ⟨b, o, none⟩) 16384 16384] 31)).grownBy w9 V5.ownBlock → w9.ownsRow w.heap.size 31 1 v9 (i + 1) (rVs b off n i ++ [.slice (some ⟨b, o, none⟩) 16384 16384]) → w9.ownsRow w.heap.size 31 1 v9 (i + 1) (rVs b off n (i + 1)) ∧ Below w.heap.size w w9) := fun v9 w9 hg hw => by
        rw [← HV.out, ← rVs_succ] at hw
        exact ⟨hw, hFW.out _ v9 w9 hg⟩
      have HM := hide hm
      have HCC := hide hcc
      have HOO := hide ho
      clear HO hm ho hv hcc
      go_wp2_with (at_builtin; refine wpList_append_own _ rfl (.tmp 10) (.tmp 15) 49 rfl w.heap.size 31 i0 (.slice none 0 0) 1 24 Tryd.underlying49 hi hz0 hz1 hz2 rfl (by decide) V5 i (rVs b off n i) (by rfl) (hown.out _) ⟨wr.heap.size, 0, none⟩ 1 1 [.slice (some ⟨b, o, none⟩) 16384 16384] (by rfl) (by rfl) (World.news_of_block (heap_new wr _)) hone (by unfold maxLen; omega) (by omega) (by simp; omega) ?_; intro v9 w9 ow9 gr9 nl9; have HQ := hide (HF.out v9 w9 gr9 ow9); clear ow9 gr9 nl9)
      go_roundg g1
      case measure => omega
      case rel =>
        have e1 := HM.out
        have e2 := HCC.out
        have e3 := HOO.out
        exact ⟨i + 1, m - 16384, cc - 16384, o + 49152, v9, by omega, by omega, by omega, by omega, rfl, rfl, HQ.out.1, HQ.out.2⟩
end Go.Proofs.YtlakgbckopjelabDoor

/- size of several blocks, shortest of tokens that make several rows: contracts. -/
namespace Go.Proofs.YtlakgbckopjelabDoor
set_option maxRecDepth 100000
open Go Go.RowKit

def szS (qs : List Bq) : Int := (qs.map (·.sz)).sum
theorem szS_snoc (qs : List Bq) (q : Bq) : szS (qs ++ [q]) = szS qs + q.sz := by simp [szS]
theorem szS_take {qs : List Bq} {i : Nat} (h : i < qs.length) : szS (qs.take (i + 1)) = szS (qs.take i) + (qAt qs i).sz := by
  rw [List.take_succ_eq_append_getElem h, szS_snoc, qAt_in h]
theorem szS_bd {qs : List Bq} (h : ∀ q ∈ qs, 0 ≤ q.sz ∧ q.sz ≤ 1000000000) : 0 ≤ szS qs ∧ szS qs ≤ 1000000000 * qs.length := by
  induction qs with
  | nil => simp [szS]
  | cons q r ih =>
    have h1 := h q (by simp)
    have h2 := ih (fun x hx => h x (by simp [hx]))
    have e : szS (q :: r) = q.sz + szS r := by simp [szS]
    rw [e, List.length_cons]
    omega
set_option maxHeartbeats 1000000 in
theorem size_many (w : World) (b off cap : Nat) (qs : List Bq) (hq : Bqs w b off qs) (hs : ∀ q ∈ qs, 0 ≤ q.sz ∧ q.sz ≤ 1000000000) (hn : qs.length ≤ 1000) :
    Calls Tryd.prog 22 #[.slice (some ⟨b, off, none⟩) qs.length cap] w fun e w' => e = .returned (.int .i64 (szS qs)) ∧ Below w.heap.size w w' := by
  have HQ := hide hq
  have HS := hide hs
  clear hq hs
  go_enter Tryd.func22, Tryd.ntmps22
  go_wp2_with fail
  go_loopg [3, 8] qs.length (fun gk v3 v8 wx => ∃ i : Nat, i + gk = qs.length ∧ v8 = .int .i64 i ∧ v3 = .int .i64 (szS (qs.take i)) ∧ Hid (Below w.heap.size w wx))
  case atStart => exact ⟨0, by omega, rfl, by simp [szS], Below.refl _ _⟩
  case round =>
    obtain ⟨i, hig, rfl, rfl, HB⟩ := hrel
    cases gk with
    | zero =>
      have hge : ¬ (i : Int) < (qs.length : Int) := by omega
      obtain rfl : i = qs.length := by omega
      rw [List.take_length]
      obtain ⟨Z, hZ⟩ : ∃ Z, szS qs = Z := ⟨_, rfl⟩
      rw [hZ]
      have HZ := hide hZ
      clear hZ
      go_wp2_with fail
      go_ret
      exact ⟨by rw [HZ.out]; rfl, HB.out⟩
    | succ g1 =>
      have hlt : (i : Int) < (qs.length : Int) := by omega
      have hi : i < qs.length := by omega
      obtain ⟨c0, c1, c2, c3, c4⟩ := (HQ.out.below HB.out HQ.out.1).2 i hi
      have hbw : b < wr.heap.size := Nat.lt_of_lt_of_le HQ.out.1 HB.out.size
      have HT := hide (szS_take hi)
      have hb1 := szS_bd (qs := qs.take i) (fun q hq => HS.out q (List.mem_of_mem_take hq))
      rw [List.length_take] at hb1
      have hb2 := HS.out (qAt qs i) (by rw [qAt_in hi]; exact List.getElem_mem hi)
      generalize szS (qs.take i) = Z at HT hb1 ⊢
      generalize qAt qs i = q at c0 c1 c2 c3 c4 HT hb2
      obtain ⟨ta, ct, ts, k, sa, cs, da, cd, S, D, sz⟩ := q
      simp only at c0 c1 c2 c3 c4 HT hb2
      have hZ0 := hb1.1
      have hZ1 : Z ≤ 1000000000000 := by omega
      have hs0 := hb2.1
      have hs1 := hb2.2
      clear hb1 hb2 hi
      go_wp2_with fail
      go_roundg g1
      case measure => omega
      case rel => exact ⟨i + 1, by omega, by go_num, by rw [HT.out], HB.out.alloc HB.out.size _⟩

/-- A block among several. -/
structure QR (t : List M.Tk) (wx : World) (q : Bq) : Prop where
  inn : q.In wx.heap.size wx
  ts_ : q.ts = t
  hd : ∃ H, HdIs q.k q.S q.D H ∧ q.sz = szB q.k H q.S q.D t
  le : Chs t q.k q.S q.D q.sz
theorem QR.stay {t : List M.Tk} {wx wy : World} {q : Bq} (h : QR t wx q) (k : Below wx.heap.size wx wy) : QR t wy q := ⟨(h.inn.below k).wide k.size, h.ts_, h.hd, h.le⟩
theorem QR.bd {t : List M.Tk} {wx : World} {q : Bq} (h : QR t wx q) : 0 ≤ q.sz ∧ q.sz ≤ 1000000000 := by
  obtain ⟨H, h1, h2⟩ := h.hd
  have h3 := h.inn.ok
  rw [h.ts_] at h3
  rw [h2]; exact sz_bd h3 h1
/-- Its parts lie elsewhere. -/
structure QN (g : Option Nat) (q : Bq) : Prop where
  t : ∀ x o, q.ta = some ⟨x, o, none⟩ → ¬ some x = g
  s : ∀ x o, q.sa = some ⟨x, o, none⟩ → ¬ some x = g
  d : ∀ x o, q.da = some ⟨x, o, none⟩ → ¬ some x = g
theorem ints_keptA {lo hi : Nat} {M : Nat → Prop} {w w' : World} {a : Option Addr} {ls : List Int} (h : Ints lo hi w a ls) (k : Kept M w w') (hn : ∀ x o, a = some ⟨x, o, none⟩ → ¬ M x) : Ints lo hi w' a ls := by
  rcases h with h | ⟨b, off, h1, h2, h3, rfl, hc⟩
  · exact .inl h
  · refine .inr ⟨b, off, h1, h2, Nat.lt_of_lt_of_le h3 k.size, rfl, fun i hi => ?_⟩
    rw [k.cell (p := ⟨b, off + i, none⟩) h3 (hn b off rfl)]
    exact hc i hi
theorem QR.kept {t : List M.Tk} {wx wy : World} {q : Bq} {g : Option Nat} (h : QR t wx q) (k : Kept (fun x => some x = g) wx wy) (hn : QN g q) : QR t wy q := by
  refine ⟨⟨h.inn.ok, ⟨h.inn.at_.t.kept k (fun b off e => hn.t b off e), fun b off e => Nat.lt_of_lt_of_le (h.inn.at_.tb b off e) k.size, ?_, ?_⟩⟩, h.ts_, h.hd, h.le⟩
  · exact (ints_keptA h.inn.at_.s k hn.s).wide (Nat.le_refl _) k.size
  · exact (ints_keptA h.inn.at_.d k hn.d).wide (Nat.le_refl _) k.size
theorem BkOk.sl {k : Nat} {ts : List M.Tk} {S D : List Int} (h : BkOk k ts S D) : 0 < S.length ∧ 0 < D.length := by
  rcases h.kind with ⟨_, rfl, rfl⟩ | ⟨_, h⟩
  · rw [iFix_length, iFive_length]; decide
  · have := h.s0; have := h.d0; omega
theorem ints_blk {lo hi : Nat} {w : World} {a : Option Addr} {ls : List Int} (h : Ints lo hi w a ls) (hl : 0 < ls.length) {x o : Nat} (e : a = some ⟨x, o, none⟩) : lo ≤ x ∧ x < hi := by
  rcases h with h | ⟨b, off, h1, h2, h3, rfl, hc⟩
  · omega
  · simp only [Option.some.injEq, Addr.mk.injEq, and_true] at e
    omega
/-- Behind all that is there. -/
theorem QR.far {t : List M.Tk} {wx : World} {q : Bq} (h : QR t wx q) {g : Nat} (hg : wx.heap.size ≤ g) : QN (some g) q := by
  have hl := h.inn.ok.sl
  refine ⟨fun x o e e2 => ?_, fun x o e e2 => ?_, fun x o e e2 => ?_⟩
  · have := h.inn.at_.tb x o e; cases e2; omega
  · have := ints_blk h.inn.at_.s hl.1 e; cases e2; omega
  · have := ints_blk h.inn.at_.d hl.2 e; cases e2; omega
/-- A block's cells; those of several. -/
def qc (q : Bq) : List Value := [.slice q.ta q.ts.length q.ct, .int .i64 (q.k : Int), .slice q.sa q.S.length q.cs, .slice q.da q.D.length q.cd, .int .i64 q.sz]
def qcs (qs : List Bq) : List Value := qs.flatMap qc
theorem qcs_snoc (qs : List Bq) (q : Bq) : qcs (qs ++ [q]) = qcs qs ++ qc q := by simp [qcs]
theorem qcs_cons (q : Bq) (qs : List Bq) : qcs (q :: qs) = qc q ++ qcs qs := by simp [qcs]
theorem qcs_at : ∀ (qs : List Bq) (i j : Nat), i < qs.length → j < 5 → (qcs qs)[i * 5 + j]? = (qc (qAt qs i))[j]?
  | [], i, j, h, _ => by simp at h
  | q :: r, 0, j, _, hj => by
    rw [qcs_cons, List.getElem?_append_left (by simp [qc]; omega)]
    simp [qAt]
  | q :: r, i + 1, j, h, hj => by
    have ih := qcs_at r i j (by simpa using h) hj
    rw [qcs_cons, List.getElem?_append_right (by simp [qc]; omega)]
    have e : (i + 1) * 5 + j - (qc q).length = i * 5 + j := by simp [qc]; omega
    rw [e, ih]
    simp [qAt]
theorem qcs_len (qs : List Bq) : (qcs qs).length = qs.length * 5 := by
  induction qs with
  | nil => rfl
  | cons q r ih => rw [qcs_cons, List.length_append, ih, List.length_cons]; simp [qc]; omega
/-- Several blocks, in a row of one's own. -/
structure SvS (ts : List M.Tk) (base : Nat) (wx : World) (v : Value) (qs : List Bq) : Prop where
  own : wx.ownsRow base 43 5 v qs.length (qcs qs)
  all : ∀ j, j < qs.length → QR (tsJ ts j) wx (qAt qs j)
  apart : ∀ j, j < qs.length → QN v.ownBlock (qAt qs j)
theorem SvS.stay {ts : List M.Tk} {base : Nat} {wx wy : World} {v : Value} {qs : List Bq} (h : SvS ts base wx v qs) (k : Below wx.heap.size wx wy) : SvS ts base wy v qs :=
  ⟨ownsRow_kept h.own (Kept.of_below k) (fun g hg e => by have := (ownsRow_lt h.own hg).2; omega), fun j hj => (h.all j hj).stay k, h.apart⟩
theorem SvS.bqs {ts : List M.Tk} {base : Nat} {wx : World} {v : Value} {qs : List Bq} (h : SvS ts base wx v qs) (h0 : 0 < qs.length) : ∃ g cap, v = .slice (some ⟨g, 0, none⟩) qs.length cap ∧ Bqs wx g 0 qs := by
  rcases h.own.2 with ⟨_, h2⟩ | ⟨g, cap, cur, rfl, hg1, hh, _, _, _, h4⟩
  · omega
  · refine ⟨g, cap, rfl, lt_of_block hh, fun i hi => ?_⟩
    have key : ∀ j, j < 5 → wx.cell? ⟨g, 0 + i * 5 + j, none⟩ = (qc (qAt qs i))[j]? := fun j hj => by
      rw [cells_of hh, Nat.zero_add]
      have e : (cur.toList.take (qs.length * 5))[i * 5 + j]? = (qcs qs)[i * 5 + j]? := by rw [h4]
      rw [List.getElem?_take_of_lt (by omega), Array.getElem?_toList, qcs_at qs i j hi hj] at e
      exact e
    exact ⟨key 0 (by omega), key 1 (by omega), key 2 (by omega), key 3 (by omega), key 4 (by omega)⟩
theorem qAt_left {qs : List Bq} {q : Bq} {j : Nat} (h : j < qs.length) : qAt (qs ++ [q]) j = qAt qs j := by
  unfold qAt; simp only [List.getD]; rw [List.getElem?_append_left h]
theorem qAt_last {qs : List Bq} {q : Bq} : qAt (qs ++ [q]) qs.length = q := by
  unfold qAt; simp [List.getD]
/-- One more block. -/
theorem SvS.push {ts : List M.Tk} {base g cap : Nat} {wr w3 w9 : World} {v : Value} {qs : List Bq} {q : Bq} {ob : Obj} (h : SvS ts base wr v qs) (hb : Below wr.heap.size wr w3) (hq : QR (tsJ ts qs.length) w3 q) (hfa : Ints wr.heap.size w3.heap.size w3 q.sa q.S ∧ Ints wr.heap.size w3.heap.size w3 q.da q.D) (hta : ∀ x o, q.ta = some ⟨x, o, none⟩ → x < base)
    (ho : w9.ownsRow base 43 5 (.slice (some ⟨g, 0, none⟩) (qs.length + 1) cap) (qs.length + 1) (qcs qs ++ qc q)) (hg : (w3.alloc ob).grownBy w9 v.ownBlock) (hgg : v.ownBlock = some g ∨ g = w3.heap.size + 1) :
    SvS ts base w9 (.slice (some ⟨g, 0, none⟩) (qs.length + 1) cap) (qs ++ [q]) := by
  have hl := hq.inn.ok.sl
  have hb4 : Below w3.heap.size w3 (w3.alloc ob) := (Below.refl _ w3).alloc (Nat.le_refl _) _
  have hk := Kept.of_grown hg
  have h4 := (h.stay hb).stay hb4
  have hq4 := hq.stay hb4
  have hs3 := hb.size
  have hs4 : (w3.alloc ob).heap.size = w3.heap.size + 1 := by simp
  have hqn : QN v.ownBlock q := by
    refine ⟨fun x o e e2 => ?_, fun x o e e2 => ?_, fun x o e e2 => ?_⟩
    · have h1 := hta x o e; have h2 := (ownsRow_lt h.own e2.symm).1; omega
    · have h1 := ints_blk hfa.1 hl.1 e; have h2 := (ownsRow_lt h.own e2.symm).2; omega
    · have h1 := ints_blk hfa.2 hl.2 e; have h2 := (ownsRow_lt h.own e2.symm).2; omega
  have hown : (Value.slice (some ⟨g, 0, none⟩) (qs.length + 1) cap).ownBlock = some g := rfl
  refine ⟨by rw [List.length_append, List.length_singleton, qcs_snoc]; exact ho, fun j hj => ?_, fun j hj => ?_⟩
  · rw [List.length_append, List.length_singleton] at hj
    by_cases e : j < qs.length
    · rw [qAt_left e]; exact (h4.all j e).kept hk (h.apart j e)
    · obtain rfl : j = qs.length := by omega
      rw [qAt_last]; exact hq4.kept hk hqn
  · rw [List.length_append, List.length_singleton] at hj
    rw [hown]
    by_cases e : j < qs.length
    · rw [qAt_left e]
      rcases hgg with hgg | hgg
      · rw [← hgg]; exact h.apart j e
      · exact (h4.all j e).far (by omega)
    · obtain rfl : j = qs.length := by omega
      rw [qAt_last]
      rcases hgg with hgg | hgg
      · rw [← hgg]; exact hqn
      · exact hq4.far (by omega)
/-- A block that is chosen for tokens. -/
structure Chq (t : List M.Tk) (q : Bq) : Prop where
  ok : BkOk q.k t q.S q.D
  ts_ : q.ts = t
  hd : ∃ H, HdIs q.k q.S q.D H ∧ q.sz = szB q.k H q.S q.D t
  ch : Chs t q.k q.S q.D q.sz
/-- What of a block is laid. -/
def tup (q : Bq) : Nat × List Int × List Int × List M.Tk × Int := (q.k, q.S, q.D, q.ts, q.sz)
theorem Chq.uniq {t : List M.Tk} {q p : Bq} (h : Chq t q) (g : Chq t p) : tup q = tup p := by
  obtain ⟨qa, qc, qt, qk, qsa, qcs, qda, qcd, qS, qD, qz⟩ := q
  obtain ⟨pa, pc, pt, pk, psa, pcs, pda, pcd, pS, pD, pz⟩ := p
  obtain ⟨h1, h2, ⟨H, h3, h4⟩, h5, h6⟩ := h
  obtain ⟨g1, g2, ⟨G, g3, g4⟩, g5, g6⟩ := g
  simp only at h1 h2 h3 h4 h5 h6 g1 g2 g3 g4 g5 g6
  subst h2 g2
  unfold tup
  simp only
  rcases h6 with ⟨rfl, hn⟩ | ⟨rfl, hd, hx⟩
  · obtain ⟨rfl, rfl, rfl⟩ := kind_one h1 h3
    rcases g6 with ⟨rfl, gn⟩ | ⟨rfl, gd, gx⟩
    · obtain ⟨rfl, rfl, rfl⟩ := kind_one g1 g3
      rw [h4, g4]
    · have := hn _ _ _ gd g3
      omega
  · rcases g6 with ⟨rfl, gn⟩ | ⟨rfl, gd, gx⟩
    · have := gn _ _ _ hd h3
      omega
    · obtain ⟨rfl, rfl⟩ := hd.uniq gd
      obtain rfl := h3.uniq g3
      rw [h4, g4]
/-- A block for each row. -/
def Rws (ts : List M.Tk) (qs : List Bq) : Prop := qs.length = nR ts.length ∧ ∀ j, j < qs.length → Chq (tsJ ts j) (qAt qs j)
theorem Rws.uniq {ts : List M.Tk} {qs rs : List Bq} (h : Rws ts qs) (g : Rws ts rs) : qs.map tup = rs.map tup := by
  apply List.ext_getElem
  · rw [List.length_map, List.length_map, h.1, g.1]
  · intro i h1 h2
    rw [List.length_map] at h1 h2
    have := (h.2 i h1).uniq (g.2 i h2)
    rw [qAt_in h1, qAt_in h2] at this
    rw [List.getElem_map, List.getElem_map, this]
theorem szS_tup {qs rs : List Bq} (h : qs.map tup = rs.map tup) : szS qs = szS rs := by
  have e : ∀ l : List Bq, l.map (·.sz) = (l.map tup).map (·.2.2.2.2) := fun l => by rw [List.map_map]; rfl
  unfold szS
  rw [e, e, h]
/-- Which blocks are chosen. -/
def MCh (ts : List M.Tk) (qs : List Bq) : Prop := szS qs ≤ szB 1 [] iFix iFive ts ∧ ((∃ q, qs = [q] ∧ Chq ts q ∧ ∀ rs, Rws ts rs → q.sz ≤ szS rs) ∨ (Rws ts qs ∧ ∀ q, Chq ts q → szS qs < q.sz))
theorem MCh.uniq {ts : List M.Tk} {qs rs : List Bq} (h : MCh ts qs) (g : MCh ts rs) : qs.map tup = rs.map tup := by
  rcases h.2 with ⟨q, rfl, h1, h2⟩ | ⟨h1, h2⟩
  · rcases g.2 with ⟨p, rfl, g1, g2⟩ | ⟨g1, g2⟩
    · rw [List.map_singleton, List.map_singleton, h1.uniq g1]
    · have a := h2 _ g1
      have b := g2 _ h1
      omega
  · rcases g.2 with ⟨p, rfl, g1, g2⟩ | ⟨g1, g2⟩
    · have a := g2 _ h1
      have b := h2 _ g1
      omega
    · exact h1.uniq g1
theorem QF.chq {ts : List M.Tk} {wx : World} {b : Nat} {q : Bq} (h : QF ts wx b q) : Chq ts q := ⟨by have := h.inn.ok; rwa [h.ts_] at this, h.ts_, h.hd, h.le⟩
theorem QR.chq {t : List M.Tk} {wx : World} {q : Bq} (h : QR t wx q) : Chq t q := ⟨by have := h.inn.ok; rwa [h.ts_] at this, h.ts_, h.hd, h.le⟩
/-- Blocks, told in a row. -/
def ManyQ (w : World) (ts : List M.Tk) (e : Ending) (w' : World) : Prop := ∃ b off cap qs, e = .returned (.slice (some ⟨b, off, none⟩) qs.length cap) ∧ Bqs w' b off qs ∧ (0 < qs.length ∧ qs.length ≤ 1000) ∧ (∀ q ∈ qs, q.In w'.heap.size w') ∧ qs.flatMap (·.ts) = ts ∧ (∀ q ∈ qs, ∃ H, HdIs q.k q.S q.D H ∧ q.sz = szB q.k H q.S q.D q.ts) ∧ MCh ts qs ∧ few qs ∧ Below w.heap.size w w'
theorem QF.many {w w' : World} {ts : List M.Tk} {b cap : Nat} {q : Bq} (h : QF ts w' b q) (hl : ts.length ≤ 1000000) (hr : ∀ rs, Rws ts rs → q.sz ≤ szS rs) (hb : Below w.heap.size w w') : ManyQ w ts (.returned (.slice (some ⟨b, 0, none⟩) 1 cap)) w' := by
  obtain ⟨H, h4, h5⟩ := h.hd
  refine ⟨b, 0, cap, [q], rfl, h.row, by simp, fun x hx => by rw [List.mem_singleton.1 hx]; exact h.inn, by simp [h.ts_], fun x hx => ?_, ⟨by simpa [szS] using h.le.1, .inl ⟨q, rfl, h.chq, hr⟩⟩, ?_, hb⟩
  · rw [List.mem_singleton.1 hx]; exact ⟨H, h4, by rw [h.ts_]; exact h5⟩
  · unfold few; simp [h.ts_]; omega
theorem rws_one {ts : List M.Tk} {q : Bq} (h : Chq ts q) (hl : ts.length ≤ 16384) : ∀ rs, Rws ts rs → q.sz ≤ szS rs := by
  intro rs hr
  have h1 : rs.length = 1 := by rw [hr.1]; unfold nR; omega
  obtain ⟨p, rfl⟩ := List.length_eq_one_iff.1 h1
  have hp := hr.2 0 (by simp)
  have e : tsJ ts 0 = ts := by unfold tsJ; rw [Nat.zero_mul, List.drop_zero, List.take_of_length_le hl]
  rw [e] at hp
  have := h.uniq hp
  have e2 : qAt [p] 0 = p := rfl
  rw [e2] at this
  have e3 : q.sz = p.sz := congrArg (·.2.2.2.2) this
  simp [szS, e3]
theorem OneQ.many {w w' : World} {ts : List M.Tk} {e : Ending} (h : OneQ w ts e w') (hl : ts.length ≤ 16384) : ManyQ w ts e w' := by
  obtain ⟨b, off, cap, q, he, _, h1, h2, h3, ⟨H, h4, h5⟩, h6, h7⟩ := h
  have hc : Chq ts q := ⟨by have := h2.ok; rwa [h3] at this, h3, ⟨H, h4, h5⟩, h6⟩
  refine ⟨b, off, cap, [q], he, h1, by simp, fun x hx => by rw [List.mem_singleton.1 hx]; exact h2, by simp [h3], fun x hx => ?_, ⟨by simpa [szS] using h6.1, .inl ⟨q, rfl, hc, rws_one hc hl⟩⟩, ?_, h7⟩
  · rw [List.mem_singleton.1 hx]; exact ⟨H, h4, by rw [h3]; exact h5⟩
  · unfold few; simp [h3]; omega
end Go.Proofs.YtlakgbckopjelabDoor

/- shortest of tokens that make several rows: contract. -/
namespace Go.Proofs.YtlakgbckopjelabDoor
set_option maxRecDepth 100000
open Go Go.RowKit

theorem shorter_row (w : World) (hT : Tab w) (h0 : 0 < w.heap.size) (b off : Nat) (ts : List M.Tk) (hI : TkIn w (some ⟨b, off, none⟩) ts) (j : Nat) :
    Calls Tryd.prog 20 #[.slice (some ⟨b, off + j * 49152, none⟩) (rL ts.length j) (rL ts.length j)] w (SRet w (some ⟨b, off + j * 49152, none⟩) (rL ts.length j) (tsJ ts j)) := by
  have := shorter_c w hT h0 (some ⟨b, off + j * 49152, none⟩) (rL ts.length j) (tsJ ts j) (hI.row j)
  rwa [tsJ_length] at this
theorem few_rows {qs : List Bq} (h : ∀ q ∈ qs, q.ts.length ≤ 16384) (hn : qs.length ≤ 62) : few qs := by
  have key : ∀ l : List Bq, (∀ q ∈ l, q.ts.length ≤ 16384) → (l.map fun q => 60 * q.ts.length + 200000).sum ≤ 1183040 * l.length := by
    intro l
    induction l with
    | nil => intro _; simp
    | cons q r ih =>
      intro hq
      have h1 := hq q (by simp)
      have h2 := ih (fun x hx => hq x (by simp [hx]))
      rw [List.map_cons, List.sum_cons, List.length_cons]
      omega
  have := key qs h
  unfold few
  omega
theorem flat_rows {ts : List M.Tk} {qs : List Bq} (h : ∀ j, j < qs.length → (qAt qs j).ts = tsJ ts j) (hl : ts.length ≤ qs.length * 16384) : qs.flatMap (·.ts) = ts := by
  have e : qs.map (·.ts) = (List.range qs.length).map (tsJ ts) := by
    apply List.ext_getElem
    · simp
    · intro i h1 h2
      rw [List.length_map] at h1
      have := h i h1
      rw [qAt_in h1] at this
      simp [this]
  have e2 : qs.flatMap (·.ts) = (qs.map (·.ts)).flatten := by simp [List.flatMap]
  rw [e2, e]
  have := tsJ_all ts qs.length hl
  simpa [List.flatMap] using this
/-- What is told of several blocks that are shorter. -/
theorem SvS.told {ts : List M.Tk} {base : Nat} {w wr w6 : World} {v : Value} {qs : List Bq} {X : Int} (h : SvS ts base wr v qs) (hn : qs.length = nR ts.length) (hl : ts.length ≤ 1000000) (hb : Below wr.heap.size wr w6) (hw : Below w.heap.size w wr) (hlt : szS qs < X) (hX : X ≤ szB 1 [] iFix iFive ts) (hq1 : ∀ q, Chq ts q → q.sz = X) : ManyQ w ts (.returned v) w6 := by
  have hR : qs.length ≤ 62 ∧ 0 < qs.length ∧ ts.length ≤ qs.length * 16384 := by rw [hn]; unfold nR; omega
  have h6 := h.stay hb
  obtain ⟨g, cap, rfl, hq⟩ := h6.bqs hR.2.1
  have mem : ∀ q ∈ qs, ∃ j, j < qs.length ∧ qAt qs j = q := fun q hq => by
    obtain ⟨j, hj, rfl⟩ := List.getElem_of_mem hq
    exact ⟨j, hj, qAt_in hj⟩
  refine ⟨g, 0, cap, qs, rfl, hq, ⟨hR.2.1, by omega⟩, fun q hq => ?_, flat_rows (fun j hj => (h6.all j hj).ts_) hR.2.2, fun q hq => ?_, ⟨by omega, .inr ⟨⟨hn, fun j hj => (h6.all j hj).chq⟩, fun q hq => by rw [hq1 q hq]; exact hlt⟩⟩, few_rows (fun q hq => ?_) hR.1, hw.trans (hb.mono hw.size)⟩
  · obtain ⟨j, hj, rfl⟩ := mem q hq; exact (h6.all j hj).inn
  · obtain ⟨j, hj, rfl⟩ := mem q hq
    have a := h6.all j hj
    obtain ⟨H, h1, h2⟩ := a.hd
    exact ⟨H, h1, by rw [a.ts_]; exact h2⟩
  · obtain ⟨j, hj, rfl⟩ := mem q hq
    rw [(h6.all j hj).ts_, tsJ_length]; unfold rL; omega
theorem bA_five (ta : Option Addr) (tn ct : Nat) (k : Int) (sa : Option Addr) (sn cs : Nat) (da : Option Addr) (dn cd : Nat) (sz : Int) : ∀ u ∈ ([.slice ta tn ct, .int .i64 k, .slice sa sn cs, .slice da dn cd, .int .i64 sz] : List Value), u.oneCell' = true := by
  intro u hu; simp at hu; rcases hu with rfl | rfl | rfl | rfl | rfl <;> rfl
set_option maxHeartbeats 8000000 in
theorem shortest_many (w : World) (hT : Tab w) (h0 : 0 < w.heap.size) (b off ct : Nat) (ts : List M.Tk) (hI : TkIn w (some ⟨b, off, none⟩) ts) (hn : 16384 < ts.length) (hc : ts.length ≤ ct) :
    Calls Tryd.prog 10 #[.slice (some ⟨b, off, none⟩) ts.length ct] w (ManyQ w ts) := by
  obtain ⟨i0, hi0, hz0, hz1, hz2⟩ := info_parts Tryd.infoBlk
  have hlen := hI.len
  have hbw := hI.b b off rfl
  have HS1 := hide (shorter_c w hT h0 (some ⟨b, off, none⟩) ct ts hI)
  have HS2 : Hid (∀ W j, Below w.heap.size w W → Calls Tryd.prog 20 #[.slice (some ⟨b, off + j * 49152, none⟩) (rL ts.length j) (rL ts.length j)] W (SRet W (some ⟨b, off + j * 49152, none⟩) (rL ts.length j) (tsJ ts j))) := fun W j hb => shorter_row W (hT.below hb h0) (Nat.lt_of_lt_of_le h0 hb.size) b off ts (hI.stay hb) j
  have HCU := fun W => hide (cut_many W b off ct ts.length hn (by omega) hc)
  obtain ⟨R, hR⟩ : ∃ R, nR ts.length = R := ⟨_, rfl⟩
  have hR62 : R ≤ 62 ∧ 1 ≤ R := by rw [← hR]; unfold nR; omega
  have HR := hide hR
  clear hT hI hR
  go_enter Tryd.func10, Tryd.ntmps10
  go_upto_region 4 with (first
    | (go_at_call 20; refine HS1.out.mono ?_; rintro e w1 ⟨k1, sa1, cs1, da1, cd1, S1, D1, H1, hk1, hb1, hd1, hh1, hl1, rfl, ha1, -, bl1⟩; have A1 := hide ha1; have G1 := hide hb1; have HH1 := hide hh1; have L1 := hide hl1; have B1 := hide bl1; clear hk1 hb1 hd1 hh1 hl1 ha1 bl1 HS1)
    | (go_at_call 21; refine (HCU _).out.mono ?_; rintro e w2 ⟨g2, c2, rfl, hg2, hc2, bl2⟩; have HG2 := hide hg2; have C2 := hide hc2; have B2 := hide bl2; clear hg2 hc2 bl2 HCU))
  obtain ⟨X1, hX1⟩ : ∃ X1, szB k1 H1 S1 D1 ts = X1 := ⟨_, rfl⟩
  rw [hX1]
  have HX1 := hide hX1
  obtain ⟨w1b, hw1b⟩ : ∃ w1b, w1b = w1.alloc (.cells (bA (some ⟨b, off, none⟩) ts.length ct k1 sa1 S1.length cs1 da1 D1.length cd1 X1) 43) := ⟨_, rfl⟩
  rw [hX1] at B2 HG2
  have B2' : Hid (Below w1b.heap.size w1b w2) := hide (by rw [hw1b]; exact B2.out)
  have hb1b : Below w1.heap.size w1 w1b := by rw [hw1b]; exact (Below.refl _ _).alloc (Nat.le_refl _) _
  have hq1 : QF ts w1b w1.heap.size ⟨some ⟨b, off, none⟩, ct, ts, k1, sa1, cs1, da1, cd1, S1, D1, X1⟩ := by
    have hblk : w1b.heap[w1.heap.size]? = some (.cells (bA (some ⟨b, off, none⟩) ts.length ct k1 sa1 S1.length cs1 da1 D1.length cd1 X1) 43 (0, 0)) := by rw [hw1b]; exact heap_new w1 _
    refine QF.mk' (H := H1) (lt_of_block hblk) (fun j u hj => ?_) G1.out ((A1.out.below hb1b).wide hb1b.size) HH1.out HX1.out.symm (by rw [← HX1.out]; exact L1.out)
    rw [cells_of hblk]
    rw [← hj]; simp [bA]
  have Q1 := hide (hq1.stay B2'.out)
  have BW2 : Hid (Below w.heap.size w w2) := B1.out.trans ((hb1b.trans (B2'.out.mono hb1b.size)).mono B1.out.size)
  have hg2w : g2 < w2.heap.size := by
    have := C2.out 0 (by unfold nR; omega)
    exact lt_of_cell this
  have HB2b : Hid (b < w2.heap.size) := Nat.lt_of_lt_of_le hbw BW2.out.size
  obtain ⟨p1, hp1⟩ : ∃ p1, w1.heap.size = p1 := ⟨_, rfl⟩
  rw [hp1] at Q1 ⊢
  obtain ⟨q1, hq1e⟩ : ∃ q1 : Bq, q1 = ⟨some ⟨b, off, none⟩, ct, ts, k1, sa1, cs1, da1, cd1, S1, D1, X1⟩ := ⟨_, rfl⟩
  rw [← hq1e] at Q1
  rw [HR.out] at C2 ⊢
  clear hX1 hw1b hb1b hq1 B2 B2' A1 G1 HH1 L1 B1 HG2 hp1 hq1e HX1
  go_loopg [4, 13] R (fun gk v4 v13 wx => ∃ (i : Nat) (V4 : Value), i + gk = R ∧ v13 = .int .i64 i ∧ V4 = v4 ∧ Hid (∃ qs, qs.length = i ∧ SvS ts w2.heap.size wx V4 qs ∧ Below w2.heap.size w2 wx))
  case atStart => exact ⟨0, .slice none 0 0, by omega, rfl, rfl, [], rfl, ⟨World.ownsRow_nil _ _ _ _, fun j hj => by simp at hj, fun j hj => by simp at hj⟩, Below.refl _ _⟩
  case round =>
    obtain ⟨i, V4, hig, rfl, rfl, HI⟩ := hrel
    cases gk with
    | zero =>
      have hge : ¬ (i : Int) < (R : Int) := by omega
      obtain rfl : i = R := by omega
      obtain ⟨qs, hql, hSv, hBw⟩ := HI.out
      have hBW : Below w.heap.size w wr := BW2.out.trans (hBw.mono BW2.out.size)
      have hbd : ∀ q ∈ qs, 0 ≤ q.sz ∧ q.sz ≤ 1000000000 := fun q hq => by
        obtain ⟨j, hj, rfl⟩ := List.getElem_of_mem hq
        have := (hSv.all j hj).bd
        rwa [qAt_in hj] at this
      obtain ⟨g4, c4, hv4, hbq⟩ := hSv.bqs (by omega)
      subst hv4
      have hz1' := size_many wr g4 0 c4 qs hbq hbd (by omega)
      have hqr : qs.length = nR ts.length := by rw [hql, HR.out]
      have HZ2 : Hid (∀ w5, Below wr.heap.size wr w5 → Calls Tryd.prog 22 #[.slice (some ⟨p1, 0, none⟩) 1 1] w5 fun e w' => e = .returned (.int .i64 q1.sz) ∧ Below w5.heap.size w5 w') := fun w5 h5 => size_one w5 p1 0 1 q1 ((Q1.out.stay hBw).stay h5).row Q1.out.bd
      have HO2 : Hid (∀ w6, Below wr.heap.size wr w6 → szS qs < q1.sz → ManyQ w ts (.returned (.slice (some ⟨g4, 0, none⟩) qs.length c4)) w6) := fun w6 h6 hlt => hSv.told hqr (by omega) h6 hBW hlt Q1.out.le.1 (fun q hq => congrArg (·.2.2.2.2) (hq.uniq Q1.out.chq))
      have HO1 : Hid (∀ w6, Below wr.heap.size wr w6 → q1.sz ≤ szS qs → ManyQ w ts (.returned (.slice (some ⟨p1, 0, none⟩) 1 1)) w6) := fun w6 h6 hle => by
        have hq := (Q1.out.stay hBw).stay h6
        have hrw : Rws ts qs := ⟨hqr, fun j hj => (hSv.all j hj).chq⟩
        exact hq.many (by omega) (fun rs hr => by rw [szS_tup (hr.uniq hrw)]; exact hle) (hBW.trans (h6.mono hBW.size))
      rw [hql] at hz1' HO2 ⊢
      have HZ1 := hide hz1'
      generalize szS qs = Y2 at HZ1 HO2 HO1
      generalize q1.sz = Y1 at HZ2 HO2 HO1
      clear hz1' hql hSv hBw hBW hbd hbq hqr HI Q1 BW2 HS2 C2 HR
      by_cases hlt : Y2 < Y1
      case pos =>
        have HO3 := hide (fun w6 h6 => HO2.out w6 h6 hlt)
        clear HO2 HO1
        go_wp2_with (first
          | (go_at_call 22; refine HZ1.out.mono ?_; rintro e w5 ⟨rfl, b5⟩; have H5 := hide (HZ2.out w5 b5); have B5 := hide b5; clear b5 HZ1 HZ2)
          | (go_at_call 22; refine H5.out.mono ?_; rintro e w6 ⟨rfl, b6⟩; have B6 := hide (B5.out.trans (b6.mono B5.out.size)); clear b6 H5))
        go_ret
        exact HO3.out w6 B6.out
      case neg =>
        have HO3 := hide (fun w6 h6 => HO1.out w6 h6 (Int.not_lt.1 hlt))
        clear HO2 HO1
        go_wp2_with (first
          | (go_at_call 22; refine HZ1.out.mono ?_; rintro e w5 ⟨rfl, b5⟩; have H5 := hide (HZ2.out w5 b5); have B5 := hide b5; clear b5 HZ1 HZ2)
          | (go_at_call 22; refine H5.out.mono ?_; rintro e w6 ⟨rfl, b6⟩; have B6 := hide (B5.out.trans (b6.mono B5.out.size)); clear b6 H5))
        go_ret
        exact HO3.out w6 B6.out
    | succ g1 =>
      have hlt : (i : Int) < (R : Int) := by omega
      obtain ⟨qs, hql, hSv, hBw⟩ := HI.out
      have hBW : Below w.heap.size w wr := BW2.out.trans (hBw.mono BW2.out.size)
      have HSX := hide (HS2.out wr i hBW)
      have cc : wr.cell? ⟨g2, i, none⟩ = some (rV b off ts.length i) := (hBw.cell (p := ⟨g2, i, none⟩) hg2w).trans (C2.out i (by omega))
      unfold rV at cc
      have hgw : g2 < wr.heap.size := Nat.lt_of_lt_of_le hg2w hBw.size
      have HOW : Hid (∀ (w3 : World) (ob : Obj), Below wr.heap.size wr w3 → (w3.alloc ob).ownsRow w2.heap.size 43 5 V4 i (qcs qs)) := fun w3 ob hb => by
        have := ((hSv.stay hb).stay ((Below.refl _ w3).alloc (Nat.le_refl _) ob)).own
        rwa [hql] at this
      have HPU : Hid (∀ (w3 : World) (k sa cs da cd) (S D H : List Int) (g9 c9 : Nat) (w9 : World) (ob : Obj), Below wr.heap.size wr w3 → BkOk k (tsJ ts i) S D → HdIs k S D H → Chs (tsJ ts i) k S D (szB k H S D (tsJ ts i)) → BkAt w3.heap.size w3 (some ⟨b, off + i * 49152, none⟩) sa da (tsJ ts i) S D → (Ints wr.heap.size w3.heap.size w3 sa S ∧ Ints wr.heap.size w3.heap.size w3 da D) → w9.ownsRow w2.heap.size 43 5 (.slice (some ⟨g9, 0, none⟩) (i + 1) c9) (i + 1) (qcs qs ++ [.slice (some ⟨b, off + i * 49152, none⟩) (tsJ ts i).length (rL ts.length i), .int .i64 (k : Int), .slice sa S.length cs, .slice da D.length cd, .int .i64 (szB k H S D (tsJ ts i))]) → (w3.alloc ob).grownBy w9 V4.ownBlock → (V4.ownBlock = some g9 ∨ g9 = w3.heap.size + 1) → ∃ qs, qs.length = i + 1 ∧ SvS ts w2.heap.size w9 (.slice (some ⟨g9, 0, none⟩) (i + 1) c9) qs ∧ Below w2.heap.size w2 w9) := fun w3 k sa cs da cd S D H g9 c9 w9 ob hb3 hbk hH hle hat hfa ho hg hgg => by
        have hb4 : Below w3.heap.size w3 (w3.alloc ob) := (Below.refl _ w3).alloc (Nat.le_refl _) _
        have hbw4 : Below w2.heap.size w2 (w3.alloc ob) := (hBw.trans (hb3.mono hBw.size)).trans (hb4.mono (by have := hBw.size; have := hb3.size; omega))
        have hb9 : Below w2.heap.size w2 w9 := hbw4.trans ((Kept.of_grown hg).below hbw4.size (fun x hx e => by have := (ownsRow_lt hSv.own e.symm).1; omega))
        subst hql
        have := hSv.push (q := ⟨some ⟨b, off + qs.length * 49152, none⟩, rL ts.length qs.length, tsJ ts qs.length, k, sa, cs, da, cd, S, D, szB k H S D (tsJ ts qs.length)⟩) hb3 ⟨⟨hbk, hat⟩, rfl, ⟨H, hH, rfl⟩, hle⟩ hfa (fun x o e => by simp only [Option.some.injEq, Addr.mk.injEq, and_true] at e; have := HB2b.out; omega) ho hg hgg
        exact ⟨_, by simp, this, hb9⟩
      have hsz2 := hBw.size
      generalize rL ts.length i = L at HSX cc HPU
      generalize tsJ ts i = T at HSX HPU
      generalize off + i * 49152 = o at HSX cc HPU
      generalize qcs qs = QC at HOW HPU
      clear hql hSv hBw hBW HI HS2 C2
      go_wp2_with (first
        | (go_at_call 20; refine HSX.out.mono ?_; rintro e w3 ⟨k3, sa3, cs3, da3, cd3, S3, D3, H3, hk3, hb3, hd3, hh3, hl3, rfl, ha3, hf3, bl3⟩; have HP3 := hide (fun g9 c9 w9 ob => HPU.out w3 k3 sa3 cs3 da3 cd3 S3 D3 H3 g9 c9 w9 ob bl3 hb3 hh3 hl3 ha3 hf3); have HO3 := hide (fun ob => HOW.out w3 ob bl3); have hs3 := bl3.size; clear hk3 hb3 hd3 hh3 hl3 ha3 hf3 bl3 HSX HPU HOW)
        | (at_builtin; refine wpList_append_lies _ rfl (.tmp 17) (.tmp 20) 33 rfl w2.heap.size 43 i0 (.agg bZ) 5 88 Tryd.underlying33 hi0 hz0 hz1 hz2 rfl (by decide) V4 i QC (by rfl) (HO3.out _) ⟨w3.heap.size, 0, none⟩ 1 1 [.slice (some ⟨b, o, none⟩) T.length L, .int .i64 (k3 : Int), .slice sa3 S3.length cs3, .slice da3 D3.length cd3, .int .i64 (szB k3 H3 S3 D3 T)] (by rfl) (by rfl) (World.news_of_block (heap_new w3 _)) (bA_five _ _ _ _ _ _ _ _ _ _ _) (by decide) (by unfold maxLen; omega) (by omega) (by simp; omega) (w3.heap.size + 1) (by simp) ?_; intro g9 c9 w9 ow9 gr9 at9 lt9; have HQ9 := hide (HP3.out g9 c9 w9 _ ow9 gr9 at9); clear ow9 gr9 at9 lt9 HP3 HO3))
      go_roundg g1
      case measure => omega
      case rel => exact ⟨i + 1, _, by omega, by go_num, rfl, HQ9.out⟩
end Go.Proofs.YtlakgbckopjelabDoor

/- A dynamic block's head is as long whenever it is laid; how long a block is. -/
namespace Go.Proofs.YtlakgbckopjelabDoor
set_option maxRecDepth 100000
open Go Go.RowKit

/-- The cost of best lengths is one. -/
theorem cst_same {ls F F' : List Int} {n : Nat} (h : L.LGoodR ls n F) (h' : L.LGoodR ls n F') : L.cst (L.zOf ls F (L.occ ls ls.length)) = L.cst (L.zOf ls F' (L.occ ls ls.length)) := by
  rcases Nat.lt_or_ge (L.occ ls ls.length).length 2 with h2 | h2
  · have e : L.zOf ls F (L.occ ls ls.length) = L.zOf ls F' (L.occ ls ls.length) := by
      unfold L.zOf
      apply List.map_congr_left
      intro x hx
      obtain ⟨i, rfl, hi, h0⟩ := (L.occ_mem ls ls.length x).1 hx
      have h1 : (L.occ ls ls.length).length = 1 := by have := List.length_pos_of_mem hx; omega
      simp only [L.keyOf, Int.toNat_natCast]
      rw [h.one h1 i hi h0, h'.one h1 i hi h0]
    rw [e]
  · rw [(h.best h2).cost, (h'.best h2).cost, L.zOf_fst, L.zOf_fst]
theorem mks_len {F : List Int} (hF : Fit F) (ms : List Mk) : ((ms.flatMap (mkB F)).length : Int) = mco false F (ms.map fun m => (false, m)) + ((ms.map fun m => m.2.2).sum : Nat) := by
  induction ms with
  | nil => simp [mco]
  | cons m r ih =>
    have h1 := ln_fit hF m.1
    have e : mco false F ((m :: r).map fun m => (false, m)) = ln F m.1 + mco false F (r.map fun m => (false, m)) := by simp [mco]
    rw [List.flatMap_cons, List.length_append, mkB_length, e, List.map_cons, List.sum_cons]
    omega
theorem LLOk.mco {S D F : List Int} {many : Nat} (h : LLOk S D F many) (hl : (inN (S ++ D)).length ≤ 1000) : mco false F ((inN (S ++ D)).map fun m => (false, m)) = ((L.cst (L.zOf (tlm (inN (S ++ D))) F (L.occ (tlm (inN (S ++ D))) (tlm (inN (S ++ D))).length)) : Nat) : Int) := by
  have hlen : ((inN (S ++ D)).map fun m => (false, m)).length ≤ 1000 := by rw [List.length_map]; exact hl
  have hA : L.Alw (tlm (inN (S ++ D))) 7 := ⟨by rw [tlm_length]; decide, by decide, by decide, fun i _ => by
    have := tly_le false 19 ((inN (S ++ D)).map fun m => (false, m)) i
    exact ⟨this.1, Int.le_trans this.2 (by omega)⟩⟩
  have h1 := cost_tly false F 19 ((inN (S ++ D)).map fun m => (false, m)) (check_good h.inn.chk).fit (by omega) (fun x hx _ => by
    obtain ⟨m, hm, rfl⟩ := List.mem_map.1 hx
    have := (h.inn.has m hm).1
    rw [h.inn.len] at this
    exact ⟨this, by rw [h.inn.len]; exact this⟩)
  rw [← h1]
  exact h.good.cost hA
theorem LLOk.zero {S D F F' : List Int} {many many' : Nat} (h : LLOk S D F many) (h' : LLOk S D F' many') (hl : (inN (S ++ D)).length ≤ 1000) (i : Nat) (hi : i < 19) : ln F i = 0 ↔ ln F' i = 0 := by
  have hA : L.AlwTo (tlm (inN (S ++ D))) (tlm (inN (S ++ D))).length := fun i _ => by
    have := tly_le false 19 ((inN (S ++ D)).map fun m => (false, m)) i
    rw [List.length_map] at this
    exact ⟨this.1, Int.le_trans this.2 (by omega)⟩
  have v := h.good.valid hA (by decide) i (by rw [tlm_length]; exact hi)
  have v' := h'.good.valid hA (by decide) i (by rw [tlm_length]; exact hi)
  have e1 : L.ln F i = ln F i := rfl
  have e2 : L.ln F' i = ln F' i := rfl
  rw [e1] at v
  rw [e2] at v'
  omega
theorem LLOk.many_le {S D F F' : List Int} {many many' : Nat} (h : LLOk S D F many) (h' : LLOk S D F' many') (hl : (inN (S ++ D)).length ≤ 1000) : many' ≤ many := by
  rcases Nat.lt_or_ge many many' with hlt | hge
  · have a := h.m0
    have b := h'.m1
    rcases h'.ml with e | e
    · omega
    · have z := h.mz (many' - 1) (by omega) (by omega)
      have o := (ord_lt ⟨many' - 1, by omega⟩).1
      exact absurd ((h.zero h' hl _ o).1 z) e
  · exact hge
theorem hd_same {k : Nat} {S D H H' : List Int} (h : HdIs k S D H) (h' : HdIs k S D H') : H.length = H'.length := by
  rcases h with ⟨rfl, rfl⟩ | ⟨rfl, hsd, F, many, hll, rfl⟩
  · rcases h' with ⟨_, rfl⟩ | ⟨h, _⟩
    · rfl
    · omega
  · rcases h' with ⟨h, _⟩ | ⟨_, _, F', many', hll', rfl⟩
    · omega
    · have hs1 := hsd.s1
      have hd1 := hsd.d1
      have hil := inN_len _ (S ++ D) rfl
      rw [List.length_append] at hil
      have hl : (inN (S ++ D)).length ≤ 1000 := by omega
      have hm : many = many' := Nat.le_antisymm (hll'.many_le hll hl) (hll.many_le hll' hl)
      subst hm
      have m1 := mks_len (check_good hll.inn.chk).fit (inN (S ++ D))
      have m2 := mks_len (check_good hll'.inn.chk).fit (inN (S ++ D))
      rw [hll.mco hl] at m1
      rw [hll'.mco hl, ← cst_same hll.good hll'.good] at m2
      unfold hdB
      simp only [List.length_append, bitsN_length, innB_length]
      omega
theorem bl_size {k : Nat} {last : Bool} {H S D : List Int} {ts : List M.Tk} (hS : Fit S) (hD : Fit D) : ((blB k last H S D ts).length : Int) = szB k H S D ts + (fur (emk ts) : Nat) := by
  have := eB_len hS hD (emk ts)
  unfold blB szB
  rw [List.length_append, List.length_append, knd_length, ← eB_dat]
  omega
end Go.Proofs.YtlakgbckopjelabDoor
