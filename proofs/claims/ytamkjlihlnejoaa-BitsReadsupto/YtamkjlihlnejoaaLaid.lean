/- The law's 'laid': a writer, and the reference's bits, behind the same calls. -/
import Derived.Test.YtamkjlihlnejoaaOps
namespace Go.Proofs.Ytamkjlihlnejoaa
open Go.RowKit

/-- The bits that one call lays behind others. -/
def stepL (L : List Int) (d : OpD) : List Int :=
  if d.kind = 0 then (if 0 ≤ d.n ∧ d.n ≤ 24 then L ++ bitsN d.v d.n.toNat else L)
  else if d.kind = 1 then L ++ bitsN 0 (pad L.length)
  else if d.kind = 2 then L ++ bitsN 0 (pad L.length) ++ rowOf d.zs
  else L

/-- The bits behind the first k calls. -/
def rowAt (os : Nat → OpD) : Nat → List Int
  | 0 => []
  | k + 1 => stepL (rowAt os k) (os k)

theorem pad_le (n : Nat) : pad n ≤ 7 := by unfold pad; omega

theorem stepL_len (L : List Int) (d : OpD) (h : d.zs.length ≤ 200) : (stepL L d).length ≤ L.length + 2000 := by
  have := pad_le L.length
  unfold stepL
  split
  · split
    · simp [bitsN_length]; omega
    · omega
  · split
    · simp [bitsN_length]; omega
    · split
      · simp [bitsN_length, rowOf_length]; omega
      · omega

theorem rowAt_len (os : Nat → OpD) (k : Nat) (h : ∀ i, i < k → (os i).zs.length ≤ 200) : (rowAt os k).length ≤ 2000 * k := by
  induction k with
  | zero => simp [rowAt]
  | succ k ih =>
    have h1 := ih (fun i hi => h i (by omega))
    have h2 := stepL_len (rowAt os k) (os k) (h k (by omega))
    rw [rowAt]; omega

theorem rows_apart {w : World} {base base' e e' n n' : Nat} {v v' : Value} {xs xs' : List Value} (h : w.ownsRow base e 1 v n xs) (h' : w.ownsRow base' e' 1 v' n' xs') (hne : e ≠ e') {g : Nat} (hg : v.ownBlock = some g) : v'.ownBlock ≠ some g := by
  obtain ⟨_, h2⟩ := h
  rcases h2 with ⟨rfl, _⟩ | ⟨g', cap, cur, rfl, _, hh, _⟩
  · simp [Value.ownBlock] at hg
  · simp [Value.ownBlock] at hg
    subst hg
    exact ownsRow_apart h' hh hne

/-- A writer that holds the bits Lw, and a list that holds the bits Ll. -/
structure Ld (H : Nat) (w0 w : World) (vl : Value) (Lw Ll : List Int) : Prop where
  ex : ∃ v bs t m, Wr H H w v bs t m ∧ rowOf bs ++ bitsN t m = Lw
  ow : Owns w H vl Ll
  bel : Below H w0 w
  sz : H + 1 ≤ w.heap.size

/-- Blocks of a call's struct are as they were. -/
def Same (w w' : World) : Prop := w.heap.size ≤ w'.heap.size ∧ ∀ (ob : Nat) (cs : Array Value), w.heap[ob]? = some (Obj.cells cs 32 (0, 0)) → w'.heap[ob]? = some (Obj.cells cs 32 (0, 0))

theorem Ld.alloc {H : Nat} {w0 w : World} {vl : Value} {Lw Ll : List Int} (h : Ld H w0 w vl Lw Ll) (o : Obj) : Ld H w0 (w.alloc o) vl Lw Ll := by
  obtain ⟨⟨v, bs, t, m, hw, hr⟩, ho, hb, hs⟩ := h
  have k : Kept (fun _ => False) w (w.alloc o) := Kept.alloc _ (Kept.refl _ w) o
  exact ⟨⟨v, bs, t, m, hw.kept k (fun h => h) (fun _ _ h => h), hr⟩, ho.kept k (fun _ _ h => h), hb.alloc (by omega) o, by simp; omega⟩

theorem ld_wr {H : Nat} {w0 w w' : World} {vl v v' : Value} {Lw Ll bs' : List Int} {t' : Int} {m' : Nat} {bs : List Int} {t : Int} {m : Nat} (hw : Wr H H w v bs t m) (ho : Owns w H vl Ll) (hb : Below H w0 w) (hs : H + 1 ≤ w.heap.size)
    (hw' : Wr H H w' v' bs' t' m') (hr : rowOf bs' ++ bitsN t' m' = Lw) (k : Kept (fun k => k = H ∨ v.ownBlock = some k) w w') : Ld H w0 w' vl Lw Ll ∧ Same w w' := by
  refine ⟨⟨⟨v', bs', t', m', hw', hr⟩, ho.kept k (fun g hg e => ?_), hb.trans (k.below (by omega) (fun i hi e => ?_)), by have := k.size; omega⟩, k.size, fun ob cs hob => k.heap hob (fun e => ?_)⟩
  · rcases e with e | e
    · subst e; exact ownsRow_apart ho hw.block (by decide) hg
    · exact rows_apart ho hw.owns (by decide) hg e
  · rcases e with e | e
    · omega
    · have := (ownsRow_lt hw.owns e).1; omega
  · rcases e with e | e
    · subst e; rw [hw.block] at hob; simp at hob
    · exact ownsRow_apart hw.owns hob (by decide) e

theorem ld_len {bs : List Int} {t : Int} {m : Nat} {L : List Int} (h : rowOf bs ++ bitsN t m = L) : L.length = 8 * bs.length + m := by
  rw [← h]; simp [rowOf_length, bitsN_length]

theorem ld_bits {H : Nat} {w0 w : World} {vl : Value} {Lw Ll : List Int} (s : Ld H w0 w vl Lw Ll) (x ni : Int) (n : Nat) (hni : ni = n) (hn : n ≤ 24) (hl : Lw.length ≤ 1000000) :
    Calls Try.prog 29 #[.pointer (some ⟨H, 0, none⟩), .int .i64 x, .int .i64 ni] w fun e w' => e = .returned (.tuple #[]) ∧ Ld H w0 w' vl (Lw ++ bitsN x n) Ll ∧ Same w w' := by
  obtain ⟨⟨v, bs, t, m, hw, hr⟩, ho, hb, hs⟩ := s
  have := ld_len hr
  refine (wbits_arg H H v bs t m x n ni hni w hw hn (by omega) (by omega)).mono ?_
  rintro e w' ⟨rfl, v', bs', t', m', hw', hr', hk, _⟩
  exact ⟨rfl, ld_wr hw ho hb hs hw' (by rw [hr', hr]) hk⟩

theorem ld_align {H : Nat} {w0 w : World} {vl : Value} {Lw Ll : List Int} (s : Ld H w0 w vl Lw Ll) (hl : Lw.length ≤ 1000000) :
    Calls Try.prog 34 #[.pointer (some ⟨H, 0, none⟩)] w fun e w' => e = .returned (.tuple #[]) ∧ Ld H w0 w' vl (Lw ++ bitsN 0 (pad Lw.length)) Ll ∧ Same w w' := by
  obtain ⟨⟨v, bs, t, m, hw, hr⟩, ho, hb, hs⟩ := s
  have hlen := ld_len hr
  refine (walign_any H H v bs t m w hw (by omega) (by omega)).mono ?_
  rintro e w' ⟨rfl, v', bs', hw', hr', hk, _⟩
  exact ⟨rfl, ld_wr hw ho hb hs hw' (by rw [hr', hr, hlen]; simp [bitsN]) hk⟩

theorem ld_bytes {H : Nat} {w0 w : World} {vl : Value} {Lw Ll : List Int} (s : Ld H w0 w vl Lw Ll) (hl : Lw.length ≤ 1000000) (a : Option Addr) (len cap : Nat) (zs : List Int) (ht : Text H w a len zs) (hnil : a = none → len = 0 ∧ cap = 0) (hlen : len ≤ 200) :
    Calls Try.prog 36 #[.pointer (some ⟨H, 0, none⟩), .slice a len cap] w fun e w' => e = .returned (.tuple #[]) ∧ Ld H w0 w' vl (Lw ++ bitsN 0 (pad Lw.length) ++ rowOf zs) Ll ∧ Same w w' ∧ Text H w' a len zs := by
  obtain ⟨⟨v, bs, t, m, hw, hr⟩, ho, hb, hs⟩ := s
  have hll := ld_len hr
  refine (wbytes_any H H H v bs t m a len cap zs w hw ht hnil (Nat.le_refl _) (Nat.le_refl _) (by omega) (by omega) (by omega)).mono ?_
  rintro e w' ⟨rfl, v', bs', hw', hr', hk, _⟩
  have h1 := ld_wr (w0 := w0) hw ho hb hs hw' (Lw := Lw ++ bitsN 0 (pad Lw.length) ++ rowOf zs) (by rw [hr', hr, hll]; simp [bitsN]) hk
  refine ⟨rfl, h1.1, h1.2, ht.kept hk (fun b hb e => ?_)⟩
  rcases e with e | e
  · omega
  · have := (ownsRow_lt hw.owns e).1; omega

theorem ld_new {H : Nat} {w0 w w' : World} {vl vl' : Value} {Lw Ll Ll' : List Int} (s : Ld H w0 w vl Lw Ll) (ho : Owns w' w.heap.size vl' Ll') (b : Below w.heap.size w w') : Ld H w0 w' vl' Lw Ll' ∧ Same w w' := by
  obtain ⟨⟨v, bs, t, m, hw, hr⟩, _, hb, hs⟩ := s
  have k := Kept.of_below b
  refine ⟨⟨⟨v, bs, t, m, hw.kept k (by omega) (fun g hg e => by have := (ownsRow_lt hw.owns hg).2; omega), hr⟩, ho.low (by omega), hb.trans (b.mono (by omega)), by have := b.size; omega⟩, b.size, fun ob cs hob => k.heap hob (by have := lt_of_block hob; omega)⟩

theorem ld_lay {H : Nat} {w0 w : World} {vl : Value} {Lw Ll : List Int} (s : Ld H w0 w vl Lw Ll) (x ni : Int) (n : Nat) (hni : ni = n) (hn : n ≤ 24) (hl : Ll.length ≤ 1000000) :
    Calls Try.prog 33 #[vl, .int .i64 x, .int .i64 ni] w fun e w' => ∃ vl', e = .returned vl' ∧ Ld H w0 w' vl' Lw (Ll ++ bitsN x n) ∧ Same w w' := by
  subst hni
  refine (lay_yes H vl Ll x n w s.ow hn (by omega)).mono ?_
  rintro e w' ⟨v', rfl, ho, hb⟩
  exact ⟨v', rfl, ld_new s ho hb⟩

theorem ld_fill {H : Nat} {w0 w : World} {vl : Value} {Lw Ll : List Int} (s : Ld H w0 w vl Lw Ll) (hl : Ll.length ≤ 1000000) :
    Calls Try.prog 35 #[vl] w fun e w' => ∃ vl', e = .returned vl' ∧ Ld H w0 w' vl' Lw (Ll ++ bitsN 0 (pad Ll.length)) ∧ Same w w' ∧ Below w.heap.size w w' := by
  refine (fill_any H vl Ll w s.ow (by omega)).mono ?_
  rintro e w' ⟨v', rfl, ho, hb⟩
  have := ld_new s ho hb
  exact ⟨v', rfl, this.1, this.2, hb⟩
end Go.Proofs.Ytamkjlihlnejoaa
