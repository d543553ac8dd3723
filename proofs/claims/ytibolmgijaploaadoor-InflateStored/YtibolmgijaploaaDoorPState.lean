/- The program's stream as it lies in memory, and what its methods answer. -/
import Derived.Test.YtibolmgijaploaaDoorILens
import Derived.Test.YtibolmgijaploaaDoorHNext
import Derived.Test.YtibolmgijaploaaDoorRefBytes
import Derived.Handy
namespace Go.Proofs.YtibolmgijaploaaDoor
set_option maxRecDepth 100000
open Go Go.RowKit

theorem hide {p : Prop} (h : p) : Hid p := h
/-- A stream's cells; a reader's. -/
def fA (br : Nat) (o : Option Addr) (ol oc : Nat) (m : Int) (fc : Value) : Array Value := #[.pointer (some ⟨br, 0, none⟩), .slice o ol oc, .int .i64 m, fc]
def rA (a : Option Addr) (len cap p : Nat) : Array Value := #[.slice a len cap, .int .i64 (p : Int)]
theorem bz_ib (zs : List Int) (p : Nat) : bz zs p = fun i => ib zs (p + i) := rfl
theorem bits_num (zs : List Int) (p n : Nat) : bitsVal zs p n = (iNum (ib zs) p n : Int) := by
  induction n with
  | zero => rfl
  | succ n ih =>
    have h := bitAt_bd zs (p + n)
    have e : (ib zs (p + n) : Int) = bitAt zs (p + n) := by
      show ((bitAt zs (p + n)).toNat : Int) = _
      omega
    rw [bitsVal, iNum, ih, ← e]
    push_cast
    rfl

/-- The stream lies at bs, its reader at br, at place p; it has told out; what it owns lies from B on, the text ahead of B. -/
structure SS (B bs br : Nat) (a : Option Addr) (len cap : Nat) (zs : List Int) (m : Nat) (w : World) (p : Nat) (o : Option Addr) (oc : Nat) (fc : Value) (out : List Int) : Prop where
  s0 : w.heap[bs]? = some (.cells (fA br o out.length oc m fc) 39 (0, 0))
  rd : w.heap[br]? = some (.cells (rA a len cap p) 54 (0, 0))
  tx : Text B w a len zs
  owns : OwnsB w B (.slice o out.length oc) out
  inb : B ≤ bs ∧ B ≤ br
  pl : p ≤ len * 8

section
variable {B bs br : Nat} {a : Option Addr} {len cap : Nat} {zs : List Int} {m : Nat} {w w' : World} {p : Nat} {o : Option Addr} {oc : Nat} {fc : Value} {out : List Int}
theorem SS.c0 (h : SS B bs br a len cap zs m w p o oc fc out) : w.cell? ⟨bs, 0, none⟩ = some (.pointer (some ⟨br, 0, none⟩)) := by rw [cells_of h.s0]; rfl
theorem SS.c1 (h : SS B bs br a len cap zs m w p o oc fc out) : w.cell? ⟨bs, 1, none⟩ = some (.slice o out.length oc) := by rw [cells_of h.s0]; rfl
theorem SS.c2 (h : SS B bs br a len cap zs m w p o oc fc out) : w.cell? ⟨bs, 2, none⟩ = some (.int .i64 m) := by rw [cells_of h.s0]; rfl
theorem SS.c3 (h : SS B bs br a len cap zs m w p o oc fc out) : w.cell? ⟨bs, 3, none⟩ = some fc := by rw [cells_of h.s0]; rfl
theorem SS.ne (h : SS B bs br a len cap zs m w p o oc fc out) : bs ≠ br := fun e => by
  have h1 := h.s0; rw [e, h.rd] at h1; simp at h1
theorem SS.ns (h : SS B bs br a len cap zs m w p o oc fc out) : (Value.slice o out.length oc).ownBlock ≠ some bs := ownsRow_apart h.owns h.s0 (by decide)
theorem SS.nr (h : SS B bs br a len cap zs m w p o oc fc out) : (Value.slice o out.length oc).ownBlock ≠ some br := ownsRow_apart h.owns h.rd (by decide)
/-- The reader moved on, nothing else was written. -/
theorem SS.move (h : SS B bs br a len cap zs m w p o oc fc out) (k : Kept (fun b => b = br) w w') {q : Nat} (hr : w'.heap[br]? = some (.cells (rA a len cap q) 54 (0, 0))) (hq : q ≤ len * 8) : SS B bs br a len cap zs m w' q o oc fc out :=
  ⟨k.heap h.s0 h.ne, hr, h.tx.kept k (fun b hb e => by have := h.inb; omega), ownsRow_kept h.owns k (fun g hg e => h.nr (by rw [hg, e])), h.inb, hq⟩
/-- Nothing elder was written. -/
theorem SS.stay (h : SS B bs br a len cap zs m w p o oc fc out) (k : Below w.heap.size w w') : SS B bs br a len cap zs m w' p o oc fc out := by
  have hb := lt_of_block h.s0
  have hr := lt_of_block h.rd
  exact ⟨(k.block _ hb).trans h.s0, (k.block _ hr).trans h.rd, h.tx.kept (Kept.of_below k) (fun b hb' e => by have := h.inb; omega), ownsRow_kept h.owns (Kept.of_below k) (fun g hg e => by have := (ownsRow_lt h.owns hg).2; omega), h.inb, h.pl⟩

/-- What a call may write that hands the stream on: the stream, its reader, and the row of what was told. -/
def Mv (bs br : Nat) (ov : Value) (b : Nat) : Prop := b = bs ∨ b = br ∨ ov.ownBlock = some b
theorem Mv.rd {bs br : Nat} {ov : Value} {w w' : World} (k : Kept (fun b => b = br) w w') : Kept (Mv bs br ov) w w' := k.mono fun _ _ e => .inr (.inl e)
theorem Mv.below {bs br : Nat} {ov : Value} {w w' : World} (k : Below w.heap.size w w') : Kept (Mv bs br ov) w w' := (Kept.of_below k).mono fun i hi e => by omega

/-- A number, or an error: what a call answers that only reads on. -/
def NOk (br : Nat) (a : Option Addr) (len cap : Nat) (w : World) (r : Except Int (Nat × Nat)) (x : Ending) (w' : World) : Prop :=
  Kept (fun b => b = br) w w' ∧ ((∃ q v, r = .ok (q, v) ∧ x = .returned (.tuple #[.int .i64 (v : Int), .int .i64 0]) ∧ w'.heap[br]? = some (.cells (rA a len cap q) 54 (0, 0)) ∧ q ≤ len * 8) ∨ (∃ e, 60 ≤ e ∧ e ≤ 65 ∧ r = .error e ∧ x = .returned (.tuple #[.int .i64 0, .int .i64 e])))
def NGot (br : Nat) (a : Option Addr) (len cap : Nat) (w : World) (q v : Nat) (x : Ending) (w' : World) : Prop :=
  x = .returned (.tuple #[.int .i64 (v : Int), .int .i64 0]) ∧ Kept (fun b => b = br) w w' ∧ w'.heap[br]? = some (.cells (rA a len cap q) 54 (0, 0)) ∧ q ≤ len * 8
def NBad (br : Nat) (w : World) (e : Int) (x : Ending) (w' : World) : Prop := x = .returned (.tuple #[.int .i64 0, .int .i64 e]) ∧ Kept (fun b => b = br) w w' ∧ 60 ≤ e ∧ e ≤ 65
theorem NOk.got {r : Except Int (Nat × Nat)} {x : Ending} {q v : Nat} (hr : r = .ok (q, v)) (h : NOk br a len cap w r x w') : NGot br a len cap w q v x w' := by
  subst hr
  obtain ⟨k, ⟨q', v', e, rfl, h1, h2⟩ | ⟨e, _, _, h', _⟩⟩ := h
  · cases e; exact ⟨rfl, k, h1, h2⟩
  · cases h'
theorem NOk.bad {r : Except Int (Nat × Nat)} {x : Ending} {e : Int} (hr : r = .error e) (h : NOk br a len cap w r x w') : NBad br w e x w' := by
  subst hr
  obtain ⟨k, ⟨q', v', e, rfl, h1, h2⟩ | ⟨e, h1, h2, h', rfl⟩⟩ := h
  · cases e
  · cases h'; exact ⟨rfl, k, h1, h2⟩
theorem NGot.ok {r : Except Int (Nat × Nat)} {x : Ending} {q v : Nat} (hr : r = .ok (q, v)) (h : NGot br a len cap w q v x w') : NOk br a len cap w r x w' := ⟨h.2.1, .inl ⟨q, v, hr, h.1, h.2.2.1, h.2.2.2⟩⟩
theorem NBad.ok {r : Except Int (Nat × Nat)} {x : Ending} {e : Int} (hr : r = .error e) (h : NBad br w e x w') : NOk br a len cap w r x w' := ⟨h.2.1, .inr ⟨e, h.2.2.1, h.2.2.2, hr, h.1⟩⟩

/-- What a call answers that tells bytes. -/
def DOk (B bs br : Nat) (a : Option Addr) (len cap : Nat) (zs : List Int) (m : Nat) (fc : Value) (w : World) (ov : Value) (r : Except Int (Nat × List Int)) (x : Ending) (w' : World) : Prop :=
  Kept (Mv bs br ov) w w' ∧ ((∃ q out o oc, r = .ok (q, out) ∧ x = .returned (.int .i64 0) ∧ SS B bs br a len cap zs m w' q o oc fc out ∧ (∀ g, (Value.slice o out.length oc).ownBlock = some g → g < w.heap.size → ov.ownBlock = some g)) ∨ (∃ e, 60 ≤ e ∧ e ≤ 65 ∧ r = .error e ∧ x = .returned (.int .i64 e)))
def DGot (B bs br : Nat) (a : Option Addr) (len cap : Nat) (zs : List Int) (m : Nat) (fc : Value) (w : World) (ov : Value) (q : Nat) (out : List Int) (x : Ending) (w' : World) : Prop :=
  x = .returned (.int .i64 0) ∧ Kept (Mv bs br ov) w w' ∧ ∃ o oc, SS B bs br a len cap zs m w' q o oc fc out ∧ (∀ g, (Value.slice o out.length oc).ownBlock = some g → g < w.heap.size → ov.ownBlock = some g)
def DBad (bs br : Nat) (w : World) (ov : Value) (e : Int) (x : Ending) (w' : World) : Prop := x = .returned (.int .i64 e) ∧ Kept (Mv bs br ov) w w' ∧ 60 ≤ e ∧ e ≤ 65
theorem DOk.got {r : Except Int (Nat × List Int)} {x : Ending} {ov : Value} {q : Nat} (hr : r = .ok (q, out)) (h : DOk B bs br a len cap zs m fc w ov r x w') : DGot B bs br a len cap zs m fc w ov q out x w' := by
  subst hr
  obtain ⟨k, ⟨q', v', o, oc, e, rfl, h1, h2⟩ | ⟨e, _, _, h', _⟩⟩ := h
  · cases e; exact ⟨rfl, k, o, oc, h1, h2⟩
  · cases h'
theorem DOk.bad {r : Except Int (Nat × List Int)} {x : Ending} {ov : Value} {e : Int} (hr : r = .error e) (h : DOk B bs br a len cap zs m fc w ov r x w') : DBad bs br w ov e x w' := by
  subst hr
  obtain ⟨k, ⟨q', v', o, oc, e, rfl, h1, h2⟩ | ⟨e, h1, h2, h', rfl⟩⟩ := h
  · cases e
  · cases h'; exact ⟨rfl, k, h1, h2⟩
theorem DGot.ok {r : Except Int (Nat × List Int)} {x : Ending} {ov : Value} {q : Nat} (hr : r = .ok (q, out)) (h : DGot B bs br a len cap zs m fc w ov q out x w') : DOk B bs br a len cap zs m fc w ov r x w' := by
  obtain ⟨h1, h2, o, oc, h3, h4⟩ := h
  exact ⟨h2, .inl ⟨q, out, o, oc, hr, h1, h3, h4⟩⟩
theorem DBad.ok {r : Except Int (Nat × List Int)} {x : Ending} {ov : Value} {e : Int} (hr : r = .error e) (h : DBad bs br w ov e x w') : DOk B bs br a len cap zs m fc w ov r x w' := ⟨h.2.1, .inr ⟨e, h.2.2.1, h.2.2.2, hr, h.1⟩⟩
end

/-- A call's world wx, begun in w where the stream had told ov: what was told since may lie in ov's row or in a new one. -/
structure SW (B bs br : Nat) (a : Option Addr) (len cap : Nat) (zs : List Int) (m : Nat) (fc : Value) (w : World) (ov : Value) (wx : World) (p : Nat) (o : Option Addr) (oc : Nat) (out : List Int) : Prop where
  ss : SS B bs br a len cap zs m wx p o oc fc out
  kept : Kept (Mv bs br ov) w wx
  old : ∀ g, (Value.slice o out.length oc).ownBlock = some g → g < w.heap.size → ov.ownBlock = some g
section
variable {B bs br : Nat} {a : Option Addr} {len cap : Nat} {zs : List Int} {m : Nat} {fc ov : Value} {w wx wy : World} {p : Nat} {o : Option Addr} {oc : Nat} {out : List Int}
theorem SW.new (h : SS B bs br a len cap zs m w p o oc fc out) : SW B bs br a len cap zs m fc w (.slice o out.length oc) w p o oc out := ⟨h, Kept.refl _ _, fun _ h _ => h⟩
theorem SW.move (h : SW B bs br a len cap zs m fc w ov wx p o oc out) {q : Nat} (k : Kept (fun b => b = br) wx wy) (hr : wy.heap[br]? = some (.cells (rA a len cap q) 54 (0, 0))) (hq : q ≤ len * 8) : SW B bs br a len cap zs m fc w ov wy q o oc out :=
  ⟨h.ss.move k hr hq, h.kept.trans k (fun _ _ e => .inr (.inl e)), h.old⟩
theorem SW.stay (h : SW B bs br a len cap zs m fc w ov wx p o oc out) (k : Below wx.heap.size wx wy) : SW B bs br a len cap zs m fc w ov wy p o oc out :=
  ⟨h.ss.stay k, h.kept.trans (Kept.of_below k) (fun i hi e => by have := h.kept.size; omega), h.old⟩
/-- Another such call in between. -/
theorem SW.on {p' : Nat} {o' : Option Addr} {oc' : Nat} {out' : List Int} (h : SW B bs br a len cap zs m fc w ov wx p o oc out) (k : SW B bs br a len cap zs m fc wx (.slice o out.length oc) wy p' o' oc' out') : SW B bs br a len cap zs m fc w ov wy p' o' oc' out' := by
  have hz := h.kept.size
  refine ⟨k.ss, h.kept.trans k.kept (fun i hi e => ?_), fun g hg hlt => ?_⟩
  · rcases e with e | e | e
    · exact .inl e
    · exact .inr (.inl e)
    · exact .inr (.inr (h.old i e hi))
  · exact h.old g (k.old g hg (by omega)) hlt
theorem SW.bad (h : SW B bs br a len cap zs m fc w ov wx p o oc out) (k : Kept (Mv bs br (.slice o out.length oc)) wx wy) : Kept (Mv bs br ov) w wy :=
  h.kept.trans k (fun i hi e => by
    rcases e with e | e | e
    · exact .inl e
    · exact .inr (.inl e)
    · exact .inr (.inr (h.old i e hi)))
theorem SW.got (h : SW B bs br a len cap zs m fc w ov wx p o oc out) : DGot B bs br a len cap zs m fc w ov p out (.returned (.int .i64 0)) wx := ⟨rfl, h.kept, o, oc, h.ss, h.old⟩
theorem DGot.sw {q : Nat} {x : Ending} (h : DGot B bs br a len cap zs m fc w ov q out x wx) : ∃ o oc, SW B bs br a len cap zs m fc w ov wx q o oc out := by
  obtain ⟨_, h2, o, oc, h3, h4⟩ := h
  exact ⟨o, oc, h3, h2, h4⟩
/-- What is told is put in its place. -/
theorem SW.put {w4 : World} {o4 : Option Addr} {c4 : Nat} {out4 : List Int} (h : SW B bs br a len cap zs m fc w ov wx p o oc out) (hown : OwnsB w4 B (.slice o4 out4.length c4) out4) (hk : Kept (fun b => (Value.slice o out.length oc).ownBlock = some b) wx w4)
    (hat : ∀ g, (Value.slice o4 out4.length c4).ownBlock = some g → g < wx.heap.size → (Value.slice o out.length oc).ownBlock = some g) : SW B bs br a len cap zs m fc w ov (w4.setCell ⟨bs, 1, none⟩ (.slice o4 out4.length c4)) p o4 c4 out4 := by
  have q0 := hk.heap h.ss.s0 h.ss.ns
  have q1 := hk.heap h.ss.rd h.ss.nr
  have hz := h.kept.size
  have hz2 := hk.size
  have hlt := lt_of_block h.ss.s0
  have hset : Kept (fun b => b = bs) w4 (w4.setCell ⟨bs, 1, none⟩ (.slice o4 out4.length c4)) := Kept.setCell (M := fun b => b = bs) (Kept.refl _ w4) (fun _ => rfl) _
  have hne : (Value.slice o4 out4.length c4).ownBlock ≠ some bs := fun e => h.ss.ns (hat bs e hlt)
  refine ⟨⟨?_, ?_, ?_, ?_, h.ss.inb, h.ss.pl⟩, ?_, ?_⟩
  · rw [set_of q0 1]; rfl
  · rw [set_other (fun e => h.ss.ne e.symm)]; exact q1
  · refine (h.ss.tx.kept hk (fun b hb e => ?_)).kept hset (fun b hb e => ?_)
    · have := (ownsRow_lt h.ss.owns e).1; omega
    · have := h.ss.inb; omega
  · exact ownsRow_kept hown hset (fun g hg e => hne (by rw [hg, e]))
  · refine Kept.setCell (h.kept.trans hk fun i hi e => .inr (.inr (h.old i e hi))) (fun _ => .inl rfl) _
  · intro g hg hlt'
    exact h.old g (hat g hg (by omega)) hlt'
/-- A byte is told. -/
theorem SW.push {w4 : World} {g c4 : Nat} {x : Int} {ob : Obj} (h : SW B bs br a len cap zs m fc w ov wx p o oc out)
    (hown : w4.ownsRow B 5 1 (.slice (some ⟨g, 0, none⟩) (out.length + 1) c4) (out.length + 1) (out.map (Value.int .u8) ++ [.int .u8 x])) (hgrow : (wx.alloc ob).grownBy w4 (Value.slice o out.length oc).ownBlock)
    (hat : (Value.slice o out.length oc).ownBlock = some g ∨ g = wx.heap.size + 1) : SW B bs br a len cap zs m fc w ov (w4.setCell ⟨bs, 1, none⟩ (.slice (some ⟨g, 0, none⟩) (out.length + 1) c4)) p (some ⟨g, 0, none⟩) c4 (out ++ [x]) := by
  have hl : (out ++ [x]).length = out.length + 1 := by simp
  have hk := Kept.of_grown hgrow
  have hk2 : Kept (fun b => (Value.slice o out.length oc).ownBlock = some b) wx w4 := (Kept.trans (M' := fun b => some b = (Value.slice o out.length oc).ownBlock) (b := wx.alloc ob) (Kept.alloc _ (Kept.refl _ wx) _) hk (fun _ _ h => h)).mono (fun _ _ e => e.symm)
  have := h.put (o4 := some ⟨g, 0, none⟩) (c4 := c4) (out4 := out ++ [x]) (by unfold OwnsB; rw [hl]; simpa using hown) hk2 (fun g' hg' hlt => by
    simp [Value.ownBlock] at hg'
    subst hg'
    rcases hat with hat | hat
    · exact hat
    · omega)
  rw [hl] at this
  exact this
theorem SW.after {w4 : World} {ob : Obj} (h : SW B bs br a len cap zs m fc w ov wx p o oc out) (hgrow : (wx.alloc ob).grownBy w4 (Value.slice o out.length oc).ownBlock) : w4.heap[bs]? = some (.cells (fA br o out.length oc m fc) 39 (0, 0)) := by
  have hk := Kept.of_grown hgrow
  have hk2 : Kept (fun b => some b = (Value.slice o out.length oc).ownBlock) wx w4 := Kept.trans (M' := fun b => some b = (Value.slice o out.length oc).ownBlock) (b := wx.alloc ob) (Kept.alloc _ (Kept.refl _ wx) _) hk (fun _ _ h => h)
  exact hk2.heap h.ss.s0 (fun e => h.ss.ns e.symm)
end

/-- The codes of a block's data, in blocks from lo up to hi. -/
structure Cds (lo hi : Nat) (w : World) (bk : Nat) (bc gl gc : Nat) (vo : Value) (N : Nat) (bc' gl' gc' : Nat) (vo' : Value) (N' : Nat) (S D : List Int) : Prop where
  block : w.heap[bk]? = some (.cells #[.pointer (some ⟨bc, 0, none⟩), .pointer (some ⟨bc', 0, none⟩)] 91 (0, 0))
  sym : CodeAt lo hi w bc gl gc vo N S
  back : CodeAt lo hi w bc' gl' gc' vo' N' D
  inb : lo ≤ bk ∧ bk < hi
theorem Cds.kept {lo hi : Nat} {w w' : World} {bk bc gl gc : Nat} {vo : Value} {N bc' gl' gc' : Nat} {vo' : Value} {N' : Nat} {S D : List Int} {M : Nat → Prop} (h : Cds lo hi w bk bc gl gc vo N bc' gl' gc' vo' N' S D) (k : Kept M w w') (hn : ∀ b, lo ≤ b → b < hi → ¬ M b) : Cds lo hi w' bk bc gl gc vo N bc' gl' gc' vo' N' S D :=
  ⟨k.heap h.block (hn _ h.inb.1 h.inb.2), h.sym.kept k hn, h.back.kept k hn, h.inb⟩
/-- The stream's blocks are none of those from lo up to hi. -/
def Aw (lo hi bs br : Nat) (ov : Value) : Prop := ∀ b, lo ≤ b → b < hi → ¬ Mv bs br ov b
end Go.Proofs.YtibolmgijaploaaDoor
