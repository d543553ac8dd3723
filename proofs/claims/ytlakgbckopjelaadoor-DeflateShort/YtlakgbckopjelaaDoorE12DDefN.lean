/- Several texts, laid together: DShstN, DShstM, DSize, DDefN. -/
import Derived.Test.YtlakgbckopjelaaDoorE11DCutN
import Derived.Deep.AppendLies
import Derived.Test.YtlakgbckopjelaaDoorE10DDef
/- size of several blocks, shortest of tokens that make several rows: contracts. -/
namespace Go.Proofs.YtlakgbckopjelaaDoor
set_option maxRecDepth 100000
open Go Go.RowKit

def szS (qs : List Bq) : Int := (qs.map (·.sz)).sum
theorem szS_snoc (qs : List Bq) (q : Bq) : szS (qs ++ [q]) = szS qs + q.sz := by simp [szS]
theorem szS_take {qs : List Bq} {i : Nat} (h : i < qs.length) : szS (qs.take (i + 1)) = szS (qs.take i) + (qAt qs i).sz := by
  rw [List.take_succ_eq_append_getElem h, szS_snoc, qAt_in h]
theorem szS_bd {qs : List Bq} (h : ∀ q ∈ qs, 0 ≤ q.sz ∧ q.sz ≤ 1000000000) : 0 ≤ szS qs ∧ szS qs ≤ 1000000000 * qs.length := by
  induction qs with
  | nil => simp [szS]
  | cons q r ih =>
    have h1 := h q (by simp)
    have h2 := ih (fun x hx => h x (by simp [hx]))
    have e : szS (q :: r) = q.sz + szS r := by simp [szS]
    rw [e, List.length_cons]
    omega
set_option maxHeartbeats 1000000 in
theorem size_many (w : World) (b off cap : Nat) (qs : List Bq) (hq : Bqs w b off qs) (hs : ∀ q ∈ qs, 0 ≤ q.sz ∧ q.sz ≤ 1000000000) (hn : qs.length ≤ 1000) :
    Calls Tryd.prog 27 #[.slice (some ⟨b, off, none⟩) qs.length cap] w fun e w' => e = .returned (.int .i64 (szS qs)) ∧ Below w.heap.size w w' := by
  have HQ := hide hq
  have HS := hide hs
  clear hq hs
  go_enter Tryd.func27, Tryd.ntmps27
  go_wp2_with fail
  go_loopg [3, 8] qs.length (fun gk v3 v8 wx => ∃ i : Nat, i + gk = qs.length ∧ v8 = .int .i64 i ∧ v3 = .int .i64 (szS (qs.take i)) ∧ Hid (Below w.heap.size w wx))
  case atStart => exact ⟨0, by omega, rfl, by simp [szS], Below.refl _ _⟩
  case round =>
    obtain ⟨i, hig, rfl, rfl, HB⟩ := hrel
    cases gk with
    | zero =>
      have hge : ¬ (i : Int) < (qs.length : Int) := by omega
      obtain rfl : i = qs.length := by omega
      rw [List.take_length]
      obtain ⟨Z, hZ⟩ : ∃ Z, szS qs = Z := ⟨_, rfl⟩
      rw [hZ]
      have HZ := hide hZ
      clear hZ
      go_wp2_with fail
      go_ret
      exact ⟨by rw [HZ.out]; rfl, HB.out⟩
    | succ g1 =>
      have hlt : (i : Int) < (qs.length : Int) := by omega
      have hi : i < qs.length := by omega
      obtain ⟨c0, c1, c2, c3, c4⟩ := (HQ.out.below HB.out HQ.out.1).2 i hi
      have hbw : b < wr.heap.size := Nat.lt_of_lt_of_le HQ.out.1 HB.out.size
      have HT := hide (szS_take hi)
      have hb1 := szS_bd (qs := qs.take i) (fun q hq => HS.out q (List.mem_of_mem_take hq))
      rw [List.length_take] at hb1
      have hb2 := HS.out (qAt qs i) (by rw [qAt_in hi]; exact List.getElem_mem hi)
      generalize szS (qs.take i) = Z at HT hb1 ⊢
      generalize qAt qs i = q at c0 c1 c2 c3 c4 HT hb2
      obtain ⟨ta, ct, ts, k, sa, cs, da, cd, S, D, sz⟩ := q
      simp only at c0 c1 c2 c3 c4 HT hb2
      have hZ0 := hb1.1
      have hZ1 : Z ≤ 1000000000000 := by omega
      have hs0 := hb2.1
      have hs1 := hb2.2
      clear hb1 hb2 hi
      go_wp2_with fail
      go_roundg g1
      case measure => omega
      case rel => exact ⟨i + 1, by omega, by go_num, by rw [HT.out], HB.out.alloc HB.out.size _⟩

/-- A block among several. -/
structure QR (t : List M.Tk) (wx : World) (q : Bq) : Prop where
  inn : q.In wx.heap.size wx
  ts_ : q.ts = t
  hd : ∃ H, HdIs q.k q.S q.D H ∧ q.sz = szB q.k H q.S q.D t
  le : q.sz ≤ szB 1 [] iFix iFive t
theorem QR.stay {t : List M.Tk} {wx wy : World} {q : Bq} (h : QR t wx q) (k : Below wx.heap.size wx wy) : QR t wy q := ⟨(h.inn.below k).wide k.size, h.ts_, h.hd, h.le⟩
theorem QR.bd {t : List M.Tk} {wx : World} {q : Bq} (h : QR t wx q) : 0 ≤ q.sz ∧ q.sz ≤ 1000000000 := by
  obtain ⟨H, h1, h2⟩ := h.hd
  have h3 := h.inn.ok
  rw [h.ts_] at h3
  rw [h2]; exact sz_bd h3 h1
/-- Its parts lie elsewhere. -/
structure QN (g : Option Nat) (q : Bq) : Prop where
  t : ∀ x o, q.ta = some ⟨x, o, none⟩ → ¬ some x = g
  s : ∀ x o, q.sa = some ⟨x, o, none⟩ → ¬ some x = g
  d : ∀ x o, q.da = some ⟨x, o, none⟩ → ¬ some x = g
theorem ints_keptA {lo hi : Nat} {M : Nat → Prop} {w w' : World} {a : Option Addr} {ls : List Int} (h : Ints lo hi w a ls) (k : Kept M w w') (hn : ∀ x o, a = some ⟨x, o, none⟩ → ¬ M x) : Ints lo hi w' a ls := by
  rcases h with h | ⟨b, off, h1, h2, h3, rfl, hc⟩
  · exact .inl h
  · refine .inr ⟨b, off, h1, h2, Nat.lt_of_lt_of_le h3 k.size, rfl, fun i hi => ?_⟩
    rw [k.cell (p := ⟨b, off + i, none⟩) h3 (hn b off rfl)]
    exact hc i hi
theorem QR.kept {t : List M.Tk} {wx wy : World} {q : Bq} {g : Option Nat} (h : QR t wx q) (k : Kept (fun x => some x = g) wx wy) (hn : QN g q) : QR t wy q := by
  refine ⟨⟨h.inn.ok, ⟨h.inn.at_.t.kept k (fun b off e => hn.t b off e), fun b off e => Nat.lt_of_lt_of_le (h.inn.at_.tb b off e) k.size, ?_, ?_⟩⟩, h.ts_, h.hd, h.le⟩
  · exact (ints_keptA h.inn.at_.s k hn.s).wide (Nat.le_refl _) k.size
  · exact (ints_keptA h.inn.at_.d k hn.d).wide (Nat.le_refl _) k.size
theorem BkOk.sl {k : Nat} {ts : List M.Tk} {S D : List Int} (h : BkOk k ts S D) : 0 < S.length ∧ 0 < D.length := by
  rcases h.kind with ⟨_, rfl, rfl⟩ | ⟨_, h⟩
  · rw [iFix_length, iFive_length]; decide
  · have := h.s0; have := h.d0; omega
theorem ints_blk {lo hi : Nat} {w : World} {a : Option Addr} {ls : List Int} (h : Ints lo hi w a ls) (hl : 0 < ls.length) {x o : Nat} (e : a = some ⟨x, o, none⟩) : lo ≤ x ∧ x < hi := by
  rcases h with h | ⟨b, off, h1, h2, h3, rfl, hc⟩
  · omega
  · simp only [Option.some.injEq, Addr.mk.injEq, and_true] at e
    omega
/-- Behind all that is there. -/
theorem QR.far {t : List M.Tk} {wx : World} {q : Bq} (h : QR t wx q) {g : Nat} (hg : wx.heap.size ≤ g) : QN (some g) q := by
  have hl := h.inn.ok.sl
  refine ⟨fun x o e e2 => ?_, fun x o e e2 => ?_, fun x o e e2 => ?_⟩
  · have := h.inn.at_.tb x o e; cases e2; omega
  · have := ints_blk h.inn.at_.s hl.1 e; cases e2; omega
  · have := ints_blk h.inn.at_.d hl.2 e; cases e2; omega
/-- A block's cells; those of several. -/
def qc (q : Bq) : List Value := [.slice q.ta q.ts.length q.ct, .int .i64 (q.k : Int), .slice q.sa q.S.length q.cs, .slice q.da q.D.length q.cd, .int .i64 q.sz]
def qcs (qs : List Bq) : List Value := qs.flatMap qc
theorem qcs_snoc (qs : List Bq) (q : Bq) : qcs (qs ++ [q]) = qcs qs ++ qc q := by simp [qcs]
theorem qcs_cons (q : Bq) (qs : List Bq) : qcs (q :: qs) = qc q ++ qcs qs := by simp [qcs]
theorem qcs_at : ∀ (qs : List Bq) (i j : Nat), i < qs.length → j < 5 → (qcs qs)[i * 5 + j]? = (qc (qAt qs i))[j]?
  | [], i, j, h, _ => by simp at h
  | q :: r, 0, j, _, hj => by
    rw [qcs_cons, List.getElem?_append_left (by simp [qc]; omega)]
    simp [qAt]
  | q :: r, i + 1, j, h, hj => by
    have ih := qcs_at r i j (by simpa using h) hj
    rw [qcs_cons, List.getElem?_append_right (by simp [qc]; omega)]
    have e : (i + 1) * 5 + j - (qc q).length = i * 5 + j := by simp [qc]; omega
    rw [e, ih]
    simp [qAt]
theorem qcs_len (qs : List Bq) : (qcs qs).length = qs.length * 5 := by
  induction qs with
  | nil => rfl
  | cons q r ih => rw [qcs_cons, List.length_append, ih, List.length_cons]; simp [qc]; omega
/-- Several blocks, in a row of one's own. -/
structure SvS (ts : List M.Tk) (base : Nat) (wx : World) (v : Value) (qs : List Bq) : Prop where
  own : wx.ownsRow base 39 5 v qs.length (qcs qs)
  all : ∀ j, j < qs.length → QR (tsJ ts j) wx (qAt qs j)
  apart : ∀ j, j < qs.length → QN v.ownBlock (qAt qs j)
theorem SvS.stay {ts : List M.Tk} {base : Nat} {wx wy : World} {v : Value} {qs : List Bq} (h : SvS ts base wx v qs) (k : Below wx.heap.size wx wy) : SvS ts base wy v qs :=
  ⟨ownsRow_kept h.own (Kept.of_below k) (fun g hg e => by have := (ownsRow_lt h.own hg).2; omega), fun j hj => (h.all j hj).stay k, h.apart⟩
theorem SvS.bqs {ts : List M.Tk} {base : Nat} {wx : World} {v : Value} {qs : List Bq} (h : SvS ts base wx v qs) (h0 : 0 < qs.length) : ∃ g cap, v = .slice (some ⟨g, 0, none⟩) qs.length cap ∧ Bqs wx g 0 qs := by
  rcases h.own.2 with ⟨_, h2⟩ | ⟨g, cap, cur, rfl, hg1, hh, _, _, _, h4⟩
  · omega
  · refine ⟨g, cap, rfl, lt_of_block hh, fun i hi => ?_⟩
    have key : ∀ j, j < 5 → wx.cell? ⟨g, 0 + i * 5 + j, none⟩ = (qc (qAt qs i))[j]? := fun j hj => by
      rw [cells_of hh, Nat.zero_add]
      have e : (cur.toList.take (qs.length * 5))[i * 5 + j]? = (qcs qs)[i * 5 + j]? := by rw [h4]
      rw [List.getElem?_take_of_lt (by omega), Array.getElem?_toList, qcs_at qs i j hi hj] at e
      exact e
    exact ⟨key 0 (by omega), key 1 (by omega), key 2 (by omega), key 3 (by omega), key 4 (by omega)⟩
theorem qAt_left {qs : List Bq} {q : Bq} {j : Nat} (h : j < qs.length) : qAt (qs ++ [q]) j = qAt qs j := by
  unfold qAt; simp only [List.getD]; rw [List.getElem?_append_left h]
theorem qAt_last {qs : List Bq} {q : Bq} : qAt (qs ++ [q]) qs.length = q := by
  unfold qAt; simp [List.getD]
/-- One more block. -/
theorem SvS.push {ts : List M.Tk} {base g cap : Nat} {wr w3 w9 : World} {v : Value} {qs : List Bq} {q : Bq} {ob : Obj} (h : SvS ts base wr v qs) (hb : Below wr.heap.size wr w3) (hq : QR (tsJ ts qs.length) w3 q) (hfa : Ints wr.heap.size w3.heap.size w3 q.sa q.S ∧ Ints wr.heap.size w3.heap.size w3 q.da q.D) (hta : ∀ x o, q.ta = some ⟨x, o, none⟩ → x < base)
    (ho : w9.ownsRow base 39 5 (.slice (some ⟨g, 0, none⟩) (qs.length + 1) cap) (qs.length + 1) (qcs qs ++ qc q)) (hg : (w3.alloc ob).grownBy w9 v.ownBlock) (hgg : v.ownBlock = some g ∨ g = w3.heap.size + 1) :
    SvS ts base w9 (.slice (some ⟨g, 0, none⟩) (qs.length + 1) cap) (qs ++ [q]) := by
  have hl := hq.inn.ok.sl
  have hb4 : Below w3.heap.size w3 (w3.alloc ob) := (Below.refl _ w3).alloc (Nat.le_refl _) _
  have hk := Kept.of_grown hg
  have h4 := (h.stay hb).stay hb4
  have hq4 := hq.stay hb4
  have hs3 := hb.size
  have hs4 : (w3.alloc ob).heap.size = w3.heap.size + 1 := by simp
  have hqn : QN v.ownBlock q := by
    refine ⟨fun x o e e2 => ?_, fun x o e e2 => ?_, fun x o e e2 => ?_⟩
    · have h1 := hta x o e; have h2 := (ownsRow_lt h.own e2.symm).1; omega
    · have h1 := ints_blk hfa.1 hl.1 e; have h2 := (ownsRow_lt h.own e2.symm).2; omega
    · have h1 := ints_blk hfa.2 hl.2 e; have h2 := (ownsRow_lt h.own e2.symm).2; omega
  have hown : (Value.slice (some ⟨g, 0, none⟩) (qs.length + 1) cap).ownBlock = some g := rfl
  refine ⟨by rw [List.length_append, List.length_singleton, qcs_snoc]; exact ho, fun j hj => ?_, fun j hj => ?_⟩
  · rw [List.length_append, List.length_singleton] at hj
    by_cases e : j < qs.length
    · rw [qAt_left e]; exact (h4.all j e).kept hk (h.apart j e)
    · obtain rfl : j = qs.length := by omega
      rw [qAt_last]; exact hq4.kept hk hqn
  · rw [List.length_append, List.length_singleton] at hj
    rw [hown]
    by_cases e : j < qs.length
    · rw [qAt_left e]
      rcases hgg with hgg | hgg
      · rw [← hgg]; exact h.apart j e
      · exact (h4.all j e).far (by omega)
    · obtain rfl : j = qs.length := by omega
      rw [qAt_last]
      rcases hgg with hgg | hgg
      · rw [← hgg]; exact hqn
      · exact hq4.far (by omega)
/-- Blocks, told in a row. -/
def ManyQ (w : World) (ts : List M.Tk) (e : Ending) (w' : World) : Prop := ∃ b off cap qs, e = .returned (.slice (some ⟨b, off, none⟩) qs.length cap) ∧ Bqs w' b off qs ∧ (0 < qs.length ∧ qs.length ≤ 1000) ∧ (∀ q ∈ qs, q.In w'.heap.size w') ∧ qs.flatMap (·.ts) = ts ∧ (∀ q ∈ qs, ∃ H, HdIs q.k q.S q.D H ∧ q.sz = szB q.k H q.S q.D q.ts) ∧ szS qs ≤ szB 1 [] iFix iFive ts ∧ few qs ∧ Below w.heap.size w w'
theorem OneQ.many {w w' : World} {ts : List M.Tk} {e : Ending} (h : OneQ w ts e w') (hl : ts.length ≤ 1000000) : ManyQ w ts e w' := by
  obtain ⟨b, off, cap, q, he, _, h1, h2, h3, ⟨H, h4, h5⟩, h6, h7⟩ := h
  refine ⟨b, off, cap, [q], he, h1, by simp, fun x hx => by rw [List.mem_singleton.1 hx]; exact h2, by simp [h3], fun x hx => ?_, by simpa [szS] using h6, ?_, h7⟩
  · rw [List.mem_singleton.1 hx]; exact ⟨H, h4, by rw [h3]; exact h5⟩
  · unfold few; simp [h3]; omega
end Go.Proofs.YtlakgbckopjelaaDoor

/- shortest of tokens that make several rows: contract. -/
namespace Go.Proofs.YtlakgbckopjelaaDoor
set_option maxRecDepth 100000
open Go Go.RowKit

theorem shorter_row (w : World) (hT : Tab w) (h0 : 0 < w.heap.size) (b off : Nat) (ts : List M.Tk) (hI : TkIn w (some ⟨b, off, none⟩) ts) (j : Nat) :
    Calls Tryd.prog 25 #[.slice (some ⟨b, off + j * 49152, none⟩) (rL ts.length j) (rL ts.length j)] w (SRet w (some ⟨b, off + j * 49152, none⟩) (rL ts.length j) (tsJ ts j)) := by
  have := shorter_c w hT h0 (some ⟨b, off + j * 49152, none⟩) (rL ts.length j) (tsJ ts j) (hI.row j)
  rwa [tsJ_length] at this
theorem few_rows {qs : List Bq} (h : ∀ q ∈ qs, q.ts.length ≤ 16384) (hn : qs.length ≤ 62) : few qs := by
  have key : ∀ l : List Bq, (∀ q ∈ l, q.ts.length ≤ 16384) → (l.map fun q => 60 * q.ts.length + 200000).sum ≤ 1183040 * l.length := by
    intro l
    induction l with
    | nil => intro _; simp
    | cons q r ih =>
      intro hq
      have h1 := hq q (by simp)
      have h2 := ih (fun x hx => hq x (by simp [hx]))
      rw [List.map_cons, List.sum_cons, List.length_cons]
      omega
  have := key qs h
  unfold few
  omega
theorem flat_rows {ts : List M.Tk} {qs : List Bq} (h : ∀ j, j < qs.length → (qAt qs j).ts = tsJ ts j) (hl : ts.length ≤ qs.length * 16384) : qs.flatMap (·.ts) = ts := by
  have e : qs.map (·.ts) = (List.range qs.length).map (tsJ ts) := by
    apply List.ext_getElem
    · simp
    · intro i h1 h2
      rw [List.length_map] at h1
      have := h i h1
      rw [qAt_in h1] at this
      simp [this]
  have e2 : qs.flatMap (·.ts) = (qs.map (·.ts)).flatten := by simp [List.flatMap]
  rw [e2, e]
  have := tsJ_all ts qs.length hl
  simpa [List.flatMap] using this
/-- What is told of several blocks that are shorter. -/
theorem SvS.told {ts : List M.Tk} {base : Nat} {w wr w6 : World} {v : Value} {qs : List Bq} {X : Int} (h : SvS ts base wr v qs) (hn : qs.length = nR ts.length) (hl : ts.length ≤ 1000000) (hb : Below wr.heap.size wr w6) (hw : Below w.heap.size w wr) (hlt : szS qs < X) (hX : X ≤ szB 1 [] iFix iFive ts) : ManyQ w ts (.returned v) w6 := by
  have hR : qs.length ≤ 62 ∧ 0 < qs.length ∧ ts.length ≤ qs.length * 16384 := by rw [hn]; unfold nR; omega
  have h6 := h.stay hb
  obtain ⟨g, cap, rfl, hq⟩ := h6.bqs hR.2.1
  have mem : ∀ q ∈ qs, ∃ j, j < qs.length ∧ qAt qs j = q := fun q hq => by
    obtain ⟨j, hj, rfl⟩ := List.getElem_of_mem hq
    exact ⟨j, hj, qAt_in hj⟩
  refine ⟨g, 0, cap, qs, rfl, hq, ⟨hR.2.1, by omega⟩, fun q hq => ?_, flat_rows (fun j hj => (h6.all j hj).ts_) hR.2.2, fun q hq => ?_, by omega, few_rows (fun q hq => ?_) hR.1, hw.trans (hb.mono hw.size)⟩
  · obtain ⟨j, hj, rfl⟩ := mem q hq; exact (h6.all j hj).inn
  · obtain ⟨j, hj, rfl⟩ := mem q hq
    have a := h6.all j hj
    obtain ⟨H, h1, h2⟩ := a.hd
    exact ⟨H, h1, by rw [a.ts_]; exact h2⟩
  · obtain ⟨j, hj, rfl⟩ := mem q hq
    rw [(h6.all j hj).ts_, tsJ_length]; unfold rL; omega
theorem bA_five (ta : Option Addr) (tn ct : Nat) (k : Int) (sa : Option Addr) (sn cs : Nat) (da : Option Addr) (dn cd : Nat) (sz : Int) : ∀ u ∈ ([.slice ta tn ct, .int .i64 k, .slice sa sn cs, .slice da dn cd, .int .i64 sz] : List Value), u.oneCell' = true := by
  intro u hu; simp at hu; rcases hu with rfl | rfl | rfl | rfl | rfl <;> rfl
set_option maxHeartbeats 8000000 in
theorem shortest_many (w : World) (hT : Tab w) (h0 : 0 < w.heap.size) (b off ct : Nat) (ts : List M.Tk) (hI : TkIn w (some ⟨b, off, none⟩) ts) (hn : 16384 < ts.length) (hc : ts.length ≤ ct) :
    Calls Tryd.prog 12 #[.slice (some ⟨b, off, none⟩) ts.length ct] w (ManyQ w ts) := by
  obtain ⟨i0, hi0, hz0, hz1, hz2⟩ := info_parts Tryd.infoBlk
  have hlen := hI.len
  have hbw := hI.b b off rfl
  have HS1 := hide (shorter_c w hT h0 (some ⟨b, off, none⟩) ct ts hI)
  have HS2 : Hid (∀ W j, Below w.heap.size w W → Calls Tryd.prog 25 #[.slice (some ⟨b, off + j * 49152, none⟩) (rL ts.length j) (rL ts.length j)] W (SRet W (some ⟨b, off + j * 49152, none⟩) (rL ts.length j) (tsJ ts j))) := fun W j hb => shorter_row W (hT.below hb h0) (Nat.lt_of_lt_of_le h0 hb.size) b off ts (hI.stay hb) j
  have HCU := fun W => hide (cut_many W b off ct ts.length hn (by omega) hc)
  obtain ⟨R, hR⟩ : ∃ R, nR ts.length = R := ⟨_, rfl⟩
  have hR62 : R ≤ 62 ∧ 1 ≤ R := by rw [← hR]; unfold nR; omega
  have HR := hide hR
  clear hT hI hR
  go_enter Tryd.func12, Tryd.ntmps12
  go_upto_region 4 with (first
    | (go_at_call 25; refine HS1.out.mono ?_; rintro e w1 ⟨k1, sa1, cs1, da1, cd1, S1, D1, H1, hk1, hb1, hd1, hh1, hl1, rfl, ha1, -, bl1⟩; have A1 := hide ha1; have G1 := hide hb1; have HH1 := hide hh1; have L1 := hide hl1; have B1 := hide bl1; clear hk1 hb1 hd1 hh1 hl1 ha1 bl1 HS1)
    | (go_at_call 26; refine (HCU _).out.mono ?_; rintro e w2 ⟨g2, c2, rfl, hg2, hc2, bl2⟩; have HG2 := hide hg2; have C2 := hide hc2; have B2 := hide bl2; clear hg2 hc2 bl2 HCU))
  obtain ⟨X1, hX1⟩ : ∃ X1, szB k1 H1 S1 D1 ts = X1 := ⟨_, rfl⟩
  rw [hX1]
  have HX1 := hide hX1
  obtain ⟨w1b, hw1b⟩ : ∃ w1b, w1b = w1.alloc (.cells (bA (some ⟨b, off, none⟩) ts.length ct k1 sa1 S1.length cs1 da1 D1.length cd1 X1) 39) := ⟨_, rfl⟩
  rw [hX1] at B2 HG2
  have B2' : Hid (Below w1b.heap.size w1b w2) := hide (by rw [hw1b]; exact B2.out)
  have hb1b : Below w1.heap.size w1 w1b := by rw [hw1b]; exact (Below.refl _ _).alloc (Nat.le_refl _) _
  have hq1 : QF ts w1b w1.heap.size ⟨some ⟨b, off, none⟩, ct, ts, k1, sa1, cs1, da1, cd1, S1, D1, X1⟩ := by
    have hblk : w1b.heap[w1.heap.size]? = some (.cells (bA (some ⟨b, off, none⟩) ts.length ct k1 sa1 S1.length cs1 da1 D1.length cd1 X1) 39 (0, 0)) := by rw [hw1b]; exact heap_new w1 _
    refine QF.mk' (H := H1) (lt_of_block hblk) (fun j u hj => ?_) G1.out ((A1.out.below hb1b).wide hb1b.size) HH1.out HX1.out.symm (by rw [← HX1.out]; exact L1.out)
    rw [cells_of hblk]
    rw [← hj]; simp [bA]
  have Q1 := hide (hq1.stay B2'.out)
  have BW2 : Hid (Below w.heap.size w w2) := B1.out.trans ((hb1b.trans (B2'.out.mono hb1b.size)).mono B1.out.size)
  have hg2w : g2 < w2.heap.size := by
    have := C2.out 0 (by unfold nR; omega)
    exact lt_of_cell this
  have HB2b : Hid (b < w2.heap.size) := Nat.lt_of_lt_of_le hbw BW2.out.size
  obtain ⟨p1, hp1⟩ : ∃ p1, w1.heap.size = p1 := ⟨_, rfl⟩
  rw [hp1] at Q1 ⊢
  obtain ⟨q1, hq1e⟩ : ∃ q1 : Bq, q1 = ⟨some ⟨b, off, none⟩, ct, ts, k1, sa1, cs1, da1, cd1, S1, D1, X1⟩ := ⟨_, rfl⟩
  rw [← hq1e] at Q1
  rw [HR.out] at C2 ⊢
  clear hX1 hw1b hb1b hq1 B2 B2' A1 G1 HH1 L1 B1 HG2 hp1 hq1e HX1
  go_loopg [4, 13] R (fun gk v4 v13 wx => ∃ (i : Nat) (V4 : Value), i + gk = R ∧ v13 = .int .i64 i ∧ V4 = v4 ∧ Hid (∃ qs, qs.length = i ∧ SvS ts w2.heap.size wx V4 qs ∧ Below w2.heap.size w2 wx))
  case atStart => exact ⟨0, .slice none 0 0, by omega, rfl, rfl, [], rfl, ⟨World.ownsRow_nil _ _ _ _, fun j hj => by simp at hj, fun j hj => by simp at hj⟩, Below.refl _ _⟩
  case round =>
    obtain ⟨i, V4, hig, rfl, rfl, HI⟩ := hrel
    cases gk with
    | zero =>
      have hge : ¬ (i : Int) < (R : Int) := by omega
      obtain rfl : i = R := by omega
      obtain ⟨qs, hql, hSv, hBw⟩ := HI.out
      have hBW : Below w.heap.size w wr := BW2.out.trans (hBw.mono BW2.out.size)
      have hbd : ∀ q ∈ qs, 0 ≤ q.sz ∧ q.sz ≤ 1000000000 := fun q hq => by
        obtain ⟨j, hj, rfl⟩ := List.getElem_of_mem hq
        have := (hSv.all j hj).bd
        rwa [qAt_in hj] at this
      obtain ⟨g4, c4, hv4, hbq⟩ := hSv.bqs (by omega)
      subst hv4
      have hz1' := size_many wr g4 0 c4 qs hbq hbd (by omega)
      have hqr : qs.length = nR ts.length := by rw [hql, HR.out]
      have HZ2 : Hid (∀ w5, Below wr.heap.size wr w5 → Calls Tryd.prog 27 #[.slice (some ⟨p1, 0, none⟩) 1 1] w5 fun e w' => e = .returned (.int .i64 q1.sz) ∧ Below w5.heap.size w5 w') := fun w5 h5 => size_one w5 p1 0 1 q1 ((Q1.out.stay hBw).stay h5).row Q1.out.bd
      have HO2 : Hid (∀ w6, Below wr.heap.size wr w6 → szS qs < q1.sz → ManyQ w ts (.returned (.slice (some ⟨g4, 0, none⟩) qs.length c4)) w6) := fun w6 h6 hlt => hSv.told hqr (by omega) h6 hBW hlt Q1.out.le
      have HO1 : Hid (∀ w6, Below wr.heap.size wr w6 → ManyQ w ts (.returned (.slice (some ⟨p1, 0, none⟩) 1 1)) w6) := fun w6 h6 => by
        have hq := (Q1.out.stay hBw).stay h6
        exact OneQ.many ⟨p1, 0, 1, q1, rfl, hq.lt, hq.row, hq.inn, hq.ts_, hq.hd, hq.le, hBW.trans (h6.mono hBW.size)⟩ (by omega)
      rw [hql] at hz1' HO2 ⊢
      have HZ1 := hide hz1'
      generalize szS qs = Y2 at HZ1 HO2
      generalize q1.sz = Y1 at HZ2 HO2
      clear hz1' hql hSv hBw hBW hbd hbq hqr HI Q1 BW2 HS2 C2 HR
      by_cases hlt : Y2 < Y1
      case pos =>
        have HO3 := hide (fun w6 h6 => HO2.out w6 h6 hlt)
        clear HO2 HO1
        go_wp2_with (first
          | (go_at_call 27; refine HZ1.out.mono ?_; rintro e w5 ⟨rfl, b5⟩; have H5 := hide (HZ2.out w5 b5); have B5 := hide b5; clear b5 HZ1 HZ2)
          | (go_at_call 27; refine H5.out.mono ?_; rintro e w6 ⟨rfl, b6⟩; have B6 := hide (B5.out.trans (b6.mono B5.out.size)); clear b6 H5))
        go_ret
        exact HO3.out w6 B6.out
      case neg =>
        clear HO2
        go_wp2_with (first
          | (go_at_call 27; refine HZ1.out.mono ?_; rintro e w5 ⟨rfl, b5⟩; have H5 := hide (HZ2.out w5 b5); have B5 := hide b5; clear b5 HZ1 HZ2)
          | (go_at_call 27; refine H5.out.mono ?_; rintro e w6 ⟨rfl, b6⟩; have B6 := hide (B5.out.trans (b6.mono B5.out.size)); clear b6 H5))
        go_ret
        exact HO1.out w6 B6.out
    | succ g1 =>
      have hlt : (i : Int) < (R : Int) := by omega
      obtain ⟨qs, hql, hSv, hBw⟩ := HI.out
      have hBW : Below w.heap.size w wr := BW2.out.trans (hBw.mono BW2.out.size)
      have HSX := hide (HS2.out wr i hBW)
      have cc : wr.cell? ⟨g2, i, none⟩ = some (rV b off ts.length i) := (hBw.cell (p := ⟨g2, i, none⟩) hg2w).trans (C2.out i (by omega))
      unfold rV at cc
      have hgw : g2 < wr.heap.size := Nat.lt_of_lt_of_le hg2w hBw.size
      have HOW : Hid (∀ (w3 : World) (ob : Obj), Below wr.heap.size wr w3 → (w3.alloc ob).ownsRow w2.heap.size 39 5 V4 i (qcs qs)) := fun w3 ob hb => by
        have := ((hSv.stay hb).stay ((Below.refl _ w3).alloc (Nat.le_refl _) ob)).own
        rwa [hql] at this
      have HPU : Hid (∀ (w3 : World) (k sa cs da cd) (S D H : List Int) (g9 c9 : Nat) (w9 : World) (ob : Obj), Below wr.heap.size wr w3 → BkOk k (tsJ ts i) S D → HdIs k S D H → szB k H S D (tsJ ts i) ≤ szB 1 [] iFix iFive (tsJ ts i) → BkAt w3.heap.size w3 (some ⟨b, off + i * 49152, none⟩) sa da (tsJ ts i) S D → (Ints wr.heap.size w3.heap.size w3 sa S ∧ Ints wr.heap.size w3.heap.size w3 da D) → w9.ownsRow w2.heap.size 39 5 (.slice (some ⟨g9, 0, none⟩) (i + 1) c9) (i + 1) (qcs qs ++ [.slice (some ⟨b, off + i * 49152, none⟩) (tsJ ts i).length (rL ts.length i), .int .i64 (k : Int), .slice sa S.length cs, .slice da D.length cd, .int .i64 (szB k H S D (tsJ ts i))]) → (w3.alloc ob).grownBy w9 V4.ownBlock → (V4.ownBlock = some g9 ∨ g9 = w3.heap.size + 1) → ∃ qs, qs.length = i + 1 ∧ SvS ts w2.heap.size w9 (.slice (some ⟨g9, 0, none⟩) (i + 1) c9) qs ∧ Below w2.heap.size w2 w9) := fun w3 k sa cs da cd S D H g9 c9 w9 ob hb3 hbk hH hle hat hfa ho hg hgg => by
        have hb4 : Below w3.heap.size w3 (w3.alloc ob) := (Below.refl _ w3).alloc (Nat.le_refl _) _
        have hbw4 : Below w2.heap.size w2 (w3.alloc ob) := (hBw.trans (hb3.mono hBw.size)).trans (hb4.mono (by have := hBw.size; have := hb3.size; omega))
        have hb9 : Below w2.heap.size w2 w9 := hbw4.trans ((Kept.of_grown hg).below hbw4.size (fun x hx e => by have := (ownsRow_lt hSv.own e.symm).1; omega))
        subst hql
        have := hSv.push (q := ⟨some ⟨b, off + qs.length * 49152, none⟩, rL ts.length qs.length, tsJ ts qs.length, k, sa, cs, da, cd, S, D, szB k H S D (tsJ ts qs.length)⟩) hb3 ⟨⟨hbk, hat⟩, rfl, ⟨H, hH, rfl⟩, hle⟩ hfa (fun x o e => by simp only [Option.some.injEq, Addr.mk.injEq, and_true] at e; have := HB2b.out; omega) ho hg hgg
        exact ⟨_, by simp, this, hb9⟩
      have hsz2 := hBw.size
      generalize rL ts.length i = L at HSX cc HPU
      generalize tsJ ts i = T at HSX HPU
      generalize off + i * 49152 = o at HSX cc HPU
      generalize qcs qs = QC at HOW HPU
      clear hql hSv hBw hBW HI HS2 C2
      go_wp2_with (first
        | (go_at_call 25; refine HSX.out.mono ?_; rintro e w3 ⟨k3, sa3, cs3, da3, cd3, S3, D3, H3, hk3, hb3, hd3, hh3, hl3, rfl, ha3, hf3, bl3⟩; have HP3 := hide (fun g9 c9 w9 ob => HPU.out w3 k3 sa3 cs3 da3 cd3 S3 D3 H3 g9 c9 w9 ob bl3 hb3 hh3 hl3 ha3 hf3); have HO3 := hide (fun ob => HOW.out w3 ob bl3); have hs3 := bl3.size; clear hk3 hb3 hd3 hh3 hl3 ha3 hf3 bl3 HSX HPU HOW)
        | (at_builtin; refine wpList_append_lies _ rfl (.tmp 17) (.tmp 20) 34 rfl w2.heap.size 39 i0 (.agg bZ) 5 88 Tryd.underlying34 hi0 hz0 hz1 hz2 rfl (by decide) V4 i QC (by rfl) (HO3.out _) ⟨w3.heap.size, 0, none⟩ 1 1 [.slice (some ⟨b, o, none⟩) T.length L, .int .i64 (k3 : Int), .slice sa3 S3.length cs3, .slice da3 D3.length cd3, .int .i64 (szB k3 H3 S3 D3 T)] (by rfl) (by rfl) (World.news_of_block (heap_new w3 _)) (bA_five _ _ _ _ _ _ _ _ _ _ _) (by decide) (by unfold maxLen; omega) (by omega) (by simp; omega) (w3.heap.size + 1) (by simp) ?_; intro g9 c9 w9 ow9 gr9 at9 lt9; have HQ9 := hide (HP3.out g9 c9 w9 _ ow9 gr9 at9); clear ow9 gr9 at9 lt9 HP3 HO3))
      go_roundg g1
      case measure => omega
      case rel => exact ⟨i + 1, _, by omega, by go_num, rfl, HQ9.out⟩
end Go.Proofs.YtlakgbckopjelaaDoor

/- A dynamic block's head is as long whenever it is laid; how long a block is. -/
namespace Go.Proofs.YtlakgbckopjelaaDoor
set_option maxRecDepth 100000
open Go Go.RowKit

/-- The cost of best lengths is one. -/
theorem cst_same {ls F F' : List Int} {n : Nat} (h : L.LGoodR ls n F) (h' : L.LGoodR ls n F') : L.cst (L.zOf ls F (L.occ ls ls.length)) = L.cst (L.zOf ls F' (L.occ ls ls.length)) := by
  rcases Nat.lt_or_ge (L.occ ls ls.length).length 2 with h2 | h2
  · have e : L.zOf ls F (L.occ ls ls.length) = L.zOf ls F' (L.occ ls ls.length) := by
      unfold L.zOf
      apply List.map_congr_left
      intro x hx
      obtain ⟨i, rfl, hi, h0⟩ := (L.occ_mem ls ls.length x).1 hx
      have h1 : (L.occ ls ls.length).length = 1 := by have := List.length_pos_of_mem hx; omega
      simp only [L.keyOf, Int.toNat_natCast]
      rw [h.one h1 i hi h0, h'.one h1 i hi h0]
    rw [e]
  · rw [(h.best h2).cost, (h'.best h2).cost, L.zOf_fst, L.zOf_fst]
theorem mks_len {F : List Int} (hF : Fit F) (ms : List Mk) : ((ms.flatMap (mkB F)).length : Int) = mco false F (ms.map fun m => (false, m)) + ((ms.map fun m => m.2.2).sum : Nat) := by
  induction ms with
  | nil => simp [mco]
  | cons m r ih =>
    have h1 := ln_fit hF m.1
    have e : mco false F ((m :: r).map fun m => (false, m)) = ln F m.1 + mco false F (r.map fun m => (false, m)) := by simp [mco]
    rw [List.flatMap_cons, List.length_append, mkB_length, e, List.map_cons, List.sum_cons]
    omega
theorem LLOk.mco {S D F : List Int} {many : Nat} (h : LLOk S D F many) (hl : (inN (S ++ D)).length ≤ 1000) : mco false F ((inN (S ++ D)).map fun m => (false, m)) = ((L.cst (L.zOf (tlm (inN (S ++ D))) F (L.occ (tlm (inN (S ++ D))) (tlm (inN (S ++ D))).length)) : Nat) : Int) := by
  have hlen : ((inN (S ++ D)).map fun m => (false, m)).length ≤ 1000 := by rw [List.length_map]; exact hl
  have hA : L.Alw (tlm (inN (S ++ D))) 7 := ⟨by rw [tlm_length]; decide, by decide, by decide, fun i _ => by
    have := tly_le false 19 ((inN (S ++ D)).map fun m => (false, m)) i
    exact ⟨this.1, Int.le_trans this.2 (by omega)⟩⟩
  have h1 := cost_tly false F 19 ((inN (S ++ D)).map fun m => (false, m)) (check_good h.inn.chk).fit (by omega) (fun x hx _ => by
    obtain ⟨m, hm, rfl⟩ := List.mem_map.1 hx
    have := (h.inn.has m hm).1
    rw [h.inn.len] at this
    exact ⟨this, by rw [h.inn.len]; exact this⟩)
  rw [← h1]
  exact h.good.cost hA
theorem LLOk.zero {S D F F' : List Int} {many many' : Nat} (h : LLOk S D F many) (h' : LLOk S D F' many') (hl : (inN (S ++ D)).length ≤ 1000) (i : Nat) (hi : i < 19) : ln F i = 0 ↔ ln F' i = 0 := by
  have hA : L.AlwTo (tlm (inN (S ++ D))) (tlm (inN (S ++ D))).length := fun i _ => by
    have := tly_le false 19 ((inN (S ++ D)).map fun m => (false, m)) i
    rw [List.length_map] at this
    exact ⟨this.1, Int.le_trans this.2 (by omega)⟩
  have v := h.good.valid hA (by decide) i (by rw [tlm_length]; exact hi)
  have v' := h'.good.valid hA (by decide) i (by rw [tlm_length]; exact hi)
  have e1 : L.ln F i = ln F i := rfl
  have e2 : L.ln F' i = ln F' i := rfl
  rw [e1] at v
  rw [e2] at v'
  omega
theorem LLOk.many_le {S D F F' : List Int} {many many' : Nat} (h : LLOk S D F many) (h' : LLOk S D F' many') (hl : (inN (S ++ D)).length ≤ 1000) : many' ≤ many := by
  rcases Nat.lt_or_ge many many' with hlt | hge
  · have a := h.m0
    have b := h'.m1
    rcases h'.ml with e | e
    · omega
    · have z := h.mz (many' - 1) (by omega) (by omega)
      have o := (ord_lt ⟨many' - 1, by omega⟩).1
      exact absurd ((h.zero h' hl _ o).1 z) e
  · exact hge
theorem hd_same {k : Nat} {S D H H' : List Int} (h : HdIs k S D H) (h' : HdIs k S D H') : H.length = H'.length := by
  rcases h with ⟨rfl, rfl⟩ | ⟨rfl, hsd, F, many, hll, rfl⟩
  · rcases h' with ⟨_, rfl⟩ | ⟨h, _⟩
    · rfl
    · omega
  · rcases h' with ⟨h, _⟩ | ⟨_, _, F', many', hll', rfl⟩
    · omega
    · have hs1 := hsd.s1
      have hd1 := hsd.d1
      have hil := inN_len _ (S ++ D) rfl
      rw [List.length_append] at hil
      have hl : (inN (S ++ D)).length ≤ 1000 := by omega
      have hm : many = many' := Nat.le_antisymm (hll'.many_le hll hl) (hll.many_le hll' hl)
      subst hm
      have m1 := mks_len (check_good hll.inn.chk).fit (inN (S ++ D))
      have m2 := mks_len (check_good hll'.inn.chk).fit (inN (S ++ D))
      rw [hll.mco hl] at m1
      rw [hll'.mco hl, ← cst_same hll.good hll'.good] at m2
      unfold hdB
      simp only [List.length_append, bitsN_length, innB_length]
      omega
theorem bl_size {k : Nat} {last : Bool} {H S D : List Int} {ts : List M.Tk} (hS : Fit S) (hD : Fit D) : ((blB k last H S D ts).length : Int) = szB k H S D ts + (fur (emk ts) : Nat) := by
  have := eB_len hS hD (emk ts)
  unfold blB szB
  rw [List.length_append, List.length_append, knd_length, ← eB_dat]
  omega
end Go.Proofs.YtlakgbckopjelaaDoor

/- Deflate of any data: contract. -/
namespace Go.Proofs.YtlakgbckopjelaaDoor
set_option maxRecDepth 100000
open Go Go.RowKit

theorem shortest_any (w : World) (hT : Tab w) (h0 : 0 < w.heap.size) (ta : Option Addr) (ct : Nat) (ts : List M.Tk) (hI : TkIn w ta ts) (hc : ts.length ≤ ct) (hnil : ta = none → ct = 0) :
    Calls Tryd.prog 12 #[.slice ta ts.length ct] w (ManyQ w ts) := by
  have hl := hI.len
  by_cases hn : ts.length ≤ 16384
  · exact (shortest_c w hT h0 ta ct ts hI hn hc hnil).mono fun e w' h => h.many (by omega)
  · rcases hI.t with h | ⟨b, off, _, rfl, _⟩
    · omega
    · exact shortest_many w hT h0 b off ct ts hI (by omega) hc
theorem fur_app (x y : List (Bool × Mk)) : fur (x ++ y) = fur x + fur y := by simp [fur]
theorem fur_emk (ts : List M.Tk) : fur (emk ts) = fur (tms ts) := by simp [emk, fur]
theorem tms_app (x y : List M.Tk) : tms (x ++ y) = tms x ++ tms y := by simp [tms]
theorem fur_all (l : List (List M.Tk)) : fur (tms l.flatten) = (l.map fun t => fur (emk t)).sum := by
  induction l with
  | nil => rfl
  | cons t r ih => rw [List.flatten_cons, tms_app, fur_app, ih, List.map_cons, List.sum_cons, fur_emk]
/-- How long several blocks are. -/
theorem strN_size (n : Nat) : ∀ (m : Nat) (xs : List (Bq × List Int)), xs.length = m → (∀ x ∈ xs, Fit x.1.S ∧ Fit x.1.D) → ((strN n xs).length : Int) = (xs.map fun x => szB x.1.k x.2 x.1.S x.1.D x.1.ts).sum + ((xs.map fun x => fur (emk x.1.ts)).sum : Nat) := by
  intro m
  induction m with
  | zero => intro xs h _; obtain rfl := List.eq_nil_of_length_eq_zero h; rfl
  | succ m ih =>
    intro xs h hf
    obtain ⟨r, x, rfl⟩ : ∃ r x, xs = r ++ [x] := ⟨xs.dropLast, xs.getLast (by intro e; rw [e] at h; simp at h), (List.dropLast_concat_getLast _).symm⟩
    have h1 := ih r (by simpa using h) (fun y hy => hf y (by simp [hy]))
    have h2 := hf x (by simp)
    have h3 := bl_size (k := x.1.k) (last := decide (r.length + 1 = n)) (H := x.2) (ts := x.1.ts) h2.1 h2.2
    rw [strN_snoc, List.length_append, List.map_append, List.sum_append, List.map_append, List.sum_append]
    simp only [List.map_cons, List.map_nil, List.sum_cons, List.sum_nil]
    omega
/-- Blocks that tokens are written as. -/
structure BlX (ts : List M.Tk) (xs : List (Bq × List Int)) : Prop where
  pos : 0 < xs.length
  ok : ∀ x ∈ xs, BkOk x.1.k x.1.ts x.1.S x.1.D ∧ HdIs x.1.k x.1.S x.1.D x.2
  all : xs.flatMap (·.1.ts) = ts
  len : (strN xs.length xs).length ≤ (blB 1 true [] iFix iFive ts).length
theorem blX_of {ts : List M.Tk} {qs : List Bq} {xs : List (Bq × List Int)} (h : Heads qs xs) (hn : 0 < qs.length ∧ qs.length ≤ 1000) (hok : ∀ q ∈ qs, BkOk q.k q.ts q.S q.D) (ht : qs.flatMap (·.ts) = ts) (hd : ∀ q ∈ qs, ∃ H, HdIs q.k q.S q.D H ∧ q.sz = szB q.k H q.S q.D q.ts) (hle : szS qs ≤ szB 1 [] iFix iFive ts) : BlX ts xs := by
  obtain ⟨h1, h2⟩ := h
  have mem : ∀ x ∈ xs, x.1 ∈ qs := fun x hx => by rw [← h1]; exact List.mem_map_of_mem hx
  have hl : xs.length = qs.length := by rw [← h1, List.length_map]
  have hall : xs.flatMap (·.1.ts) = ts := by
    rw [← ht, ← h1]
    simp [List.flatMap_map]
  refine ⟨by omega, fun x hx => ⟨hok _ (mem x hx), h2 x hx⟩, hall, ?_⟩
  have s := strN_size xs.length xs.length xs rfl (fun x hx => ⟨(check_good (hok _ (mem x hx)).cs).fit, (check_good (hok _ (mem x hx)).cd).fit⟩)
  have e1 : (xs.map fun x => szB x.1.k x.2 x.1.S x.1.D x.1.ts) = qs.map (·.sz) := by
    rw [← h1, List.map_map]
    apply List.map_congr_left
    intro x hx
    obtain ⟨H, a1, a2⟩ := hd _ (mem x hx)
    have := hd_same (h2 x hx) a1
    simp only [Function.comp]
    rw [a2]
    unfold szB
    rw [this]
  have e2 : (xs.map fun x => fur (emk x.1.ts)).sum = fur (emk ts) := by
    rw [fur_emk, ← hall]
    have := fur_all (xs.map (·.1.ts))
    rw [List.map_map] at this
    rw [show xs.flatMap (·.1.ts) = (xs.map (·.1.ts)).flatten from by simp [List.flatMap], this]
    rfl
  have f := bl_size (k := 1) (last := true) (H := []) (ts := ts) iFix_good.fit iFive_good.fit
  rw [e1, e2] at s
  have : (qs.map (·.sz)).sum = szS qs := rfl
  omega
/-- What Deflate makes of data. -/
def DefIsN (zs : List Int) (lv : Int) (X : List Int) : Prop := (lv < 1 → X = stB zs) ∧ (1 ≤ lv → ∃ ts xs, M.Rt ts ∧ M.Bt ts ∧ M.tel ts = zs ∧ ts.length ≤ zs.length ∧ (M.FdTo zs zs.length ts ∧ M.FndAll zs lv ts) ∧ BlX ts xs ∧
  ((X = dataL (strN xs.length xs) ∧ X.length ≤ (stB zs).length) ∨ (X = stB zs ∧ (stB zs).length < (dataL (strN xs.length xs)).length)))
def DefRetN (w : World) (zs : List Int) (lv : Int) (e : Ending) (w' : World) : Prop := ∃ g cap X, e = .returned (.slice (some ⟨g, 0, none⟩) X.length cap) ∧ OwnsB w' w.heap.size (.slice (some ⟨g, 0, none⟩) X.length cap) X ∧ DefIsN zs lv X ∧ Below w.heap.size w w'
set_option maxHeartbeats 8000000 in
theorem deflate_big (w : World) (hT : Tab w) (h0 : 0 < w.heap.size) (a : Option Addr) (cap : Nat) (zs : List Int) (lv : Int) (ht : Text w.heap.size w a zs.length zs) (hnil : a = none → zs.length = 0 ∧ cap = 0) (hcap : zs.length ≤ cap) (hcm : cap ≤ 9223372036854775807) (hl : zs.length ≤ 1000000) :
    Calls Tryd.prog 5 #[.slice a zs.length cap, .int .i64 lv] w (DefRetN w zs lv) := by
  have HSO := hide (stored_c w a cap zs ht hnil hcap (by omega))
  have hz : ∀ i, 0 ≤ M.ln zs i ∧ M.ln zs i ≤ 255 := fun i => ht.2.1 i
  have HT := hide hT
  have HTX := hide ht
  by_cases hlv : lv < 1
  · have HQ : Hid (∀ e w', StoRet w zs e w' → ∃ g c, e = .returned (.slice (some ⟨g, 0, none⟩) (stB zs).length c) ∧ DefRetN w zs lv (.returned (.slice (some ⟨g, 0, none⟩) (stB zs).length c)) w') := fun e w' h => by
      obtain ⟨g, c, rfl, h1, h2⟩ := h
      exact ⟨g, c, rfl, g, c, stB zs, rfl, h1, ⟨fun _ => rfl, fun h => by omega⟩, h2⟩
    generalize stB zs = ST at HQ
    clear hT ht hnil hz HT HTX
    go_enter Tryd.func5, Tryd.ntmps5
    go_wp2_with (go_at_call 9; refine HSO.out.mono ?_; intro e w1 h1; obtain ⟨g, c, rfl, hq⟩ := HQ.out _ _ h1; have HR := hide hq; clear h1 hq HSO HQ)
    go_ret
    exact HR.out
  · have HFI : Hid (∀ w1, Below w.heap.size w w1 → Calls Tryd.prog 8 #[.slice a zs.length cap, .int .i64 lv] w1 (M.FindOk zs lv w1)) := fun w1 hb => M.find_c a cap zs lv w1 (text_bys (B := w.heap.size) (HTX.out.kept (Kept.of_below hb) (fun b hb' e => by omega)) hb.size) (by omega) hcap hcm
    have hlv' : 1 ≤ lv := by omega
    clear hT ht hnil
    go_enter Tryd.func5, Tryd.ntmps5
    go_upto_region 4 with (go_at_call 9; refine HSO.out.mono ?_; rintro e w1 ⟨g1, c1, rfl, o1, b1⟩; have HF1 := hide (HFI.out w1 b1); have O1 := hide o1; have B1 := hide b1; clear o1 b1 HSO HFI)
    have HSH : Hid (∀ w2 e, M.FindOk zs lv w1 e w2 → ∃ ta ct ts, e = .returned (.slice ta ts.length ct) ∧ M.Rt ts ∧ M.Bt ts ∧ M.tel ts = zs ∧ ts.length ≤ zs.length ∧ (M.FdTo zs zs.length ts ∧ M.FndAll zs lv ts) ∧ Below w1.heap.size w1 w2 ∧ Calls Tryd.prog 12 #[.slice ta ts.length ct] w2 (ManyQ w2 ts)) := fun w2 e h => by
      obtain ⟨ta, ct, ts, rfl, ht, hb, hr, hbt, htel, hm, hfd, how⟩ := h.all hz
      obtain ⟨a', c', hv, htk, hblk, hnl, hcl⟩ := how.form
      simp only [Value.slice.injEq] at hv
      obtain ⟨rfl, _, rfl⟩ := hv
      have hb2 : Below w.heap.size w w2 := B1.out.trans (hb.mono B1.out.size)
      refine ⟨ta, ct, ts, rfl, hr, hbt, htel, hm, hfd hlv', hb, shortest_any w2 (HT.out.below hb2 h0) (Nat.lt_of_lt_of_le h0 hb2.size) ta ct ts ⟨htk, fun b off e => (hblk b off e).2, TOk.of hr hbt, by omega⟩ hcl (fun e => (hnl e).2)⟩
    go_upto_region 5 with (first
      | (go_at_call 8; refine HF1.out.mono ?_; intro e w2 hf; obtain ⟨ta, ct, ts, rfl, f1, f2, f3, f4, f5, f6, f7⟩ := HSH.out w2 e hf; have F1 := hide f1; have F2 := hide f2; have F3 := hide f3; have F4 := hide f4; have F5 := hide f5; have B2 := hide (B1.out.trans (f6.mono B1.out.size)); have O2 := hide (o_below O1.out f6); have HS2 := hide f7; clear hf f1 f2 f3 f4 f5 f6 f7 HF1 HSH)
      | (go_at_call 12; refine HS2.out.mono ?_; rintro e w3 ⟨b3, off3, c3, qs, rfl, r3, n3, i3, t3, hd3, le3, fw3, bl3⟩; have HST := hide (stream_c w3 (HT.out.below (B2.out.trans (bl3.mono B2.out.size)) h0) (by have := B2.out.size; have := bl3.size; omega) b3 off3 c3 qs r3 ⟨n3.1, by omega⟩ i3 fw3); have N3 := hide n3; have I3 := hide i3; have T3 := hide t3; have HD3 := hide hd3; have LE3 := hide le3; have B3 := hide (B2.out.trans (bl3.mono B2.out.size)); have O3 := hide (o_below O2.out bl3); clear r3 n3 i3 t3 hd3 le3 fw3 bl3 HS2)
      | (go_at_call 11; refine HST.out.mono ?_; rintro e w4 ⟨xs, g4, c4, hh4, rfl, o4, bl4⟩; have HH4 := hide hh4; have O4 := hide o4; have B4 := hide (B3.out.trans (bl4.mono B3.out.size)); have O3b := hide (o_below O3.out bl4); have BS := hide B3.out.size; clear hh4 o4 bl4 HST))
    have HOUT : Hid (∀ X g c, OwnsB w4 w.heap.size (.slice (some ⟨g, 0, none⟩) X.length c) X → ((X = dataL (strN qs.length xs) ∧ X.length ≤ (stB zs).length) ∨ (X = stB zs ∧ (stB zs).length < (dataL (strN qs.length xs)).length)) → DefRetN w zs lv (.returned (.slice (some ⟨g, 0, none⟩) X.length c)) w4) := fun X g c ho hX => by
      have hh := HH4.out
      have hql : xs.length = qs.length := by rw [← hh.1, List.length_map]
      rw [← hql] at hX
      have hbx : BlX ts xs := blX_of hh N3.out (fun q hq => (I3.out q hq).ok) T3.out HD3.out LE3.out
      exact ⟨g, c, X, rfl, ho, ⟨fun h => by omega, fun _ => ⟨ts, xs, F1.out, F2.out, F3.out, F4.out, F5.out, hbx, hX⟩⟩, B4.out⟩
    have O4' := hide (OwnsB.low O4.out BS.out)
    generalize dataL (strN qs.length xs) = Y at O4' HOUT ⊢
    generalize stB zs = ST at O3b HOUT ⊢
    clear HH4 N3 O4 O1 O2 O3 HD3 T3 LE3 I3 F1 F2 F3 F4 F5 B1 B2 B3 B4 BS HT HTX hz
    by_cases hle : Y.length ≤ ST.length
    case pos =>
      have hle' : (Y.length : Int) ≤ (ST.length : Int) := by omega
      have HR := hide (HOUT.out Y g4 c4 O4'.out (.inl ⟨rfl, hle⟩))
      clear HOUT
      go_wp2_with fail
      go_ret
      exact HR.out
    case neg =>
      have hle' : ¬ (Y.length : Int) ≤ (ST.length : Int) := by omega
      have HR := hide (HOUT.out ST g1 c1 O3b.out (.inr ⟨rfl, by omega⟩))
      clear HOUT
      go_wp2_with fail
      go_ret
      exact HR.out
end Go.Proofs.YtlakgbckopjelaaDoor
