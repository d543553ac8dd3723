/- A call of the reference whose state has an error; a callee that told bytes. -/
import Derived.Test.YtlakgbckopjelabGreatDoorRStored
import Derived.Test.YtlakgbckopjelabGreatDoorG09PSpec
namespace Go.Proofs.YtlakgbckopjelabGreatDoor
set_option maxRecDepth 100000
open Go Go.RowKit

/-- The state and the result's cell of a call that began in w, whatever they hold. -/
structure OE (w wr : World) (ov : Value) (u rv : Array Value) : Prop where
  s0 : wr.heap[w.heap.size]? = some (.cells u 63 (0, 0))
  s1 : wr.heap[w.heap.size + 1]? = some (.cells rv 63 (0, 0))
  kept : Kept (fun b => ov.ownBlock = some b) w wr
theorem OE.size {w wr : World} {ov : Value} {u rv : Array Value} (h : OE w wr ov u rv) : w.heap.size + 1 < wr.heap.size := lt_of_block h.s1
theorem OS.oe {B0 : Nat} {w wr : World} {ov : Value} {a : Option Addr} {al ac : Nat} {p : Int} {o : Option Addr} {oc : Nat} {m e : Int} {out : List Int} {rv : Array Value} (h : OS B0 w wr ov a al ac p o oc m e out rv) : OE w wr ov (sA a al ac p o out.length oc m e) rv := ⟨h.s0, h.s1, h.kept⟩
theorem OE.stay {w wr w2 : World} {ov : Value} {u rv : Array Value} (h : OE w wr ov u rv) (k : Below wr.heap.size wr w2) : OE w w2 ov u rv := by
  have hz := h.size
  have hz2 := h.kept.size
  exact ⟨(k.block _ (by omega)).trans h.s0, (k.block _ (by omega)).trans h.s1, h.kept.trans (Kept.of_below k) (fun i hi e' => by omega)⟩
theorem OE.own {w wr w2 : World} {ov : Value} {u rv u2 : Array Value} (h : OE w wr ov u rv) (h2 : w2.heap[w.heap.size]? = some (.cells u2 63 (0, 0))) (k : Kept (fun i => i = w.heap.size) wr w2) : OE w w2 ov u2 rv := by
  have hz := h.size
  exact ⟨h2, (k.block _ (by omega) (by omega)).trans h.s1, h.kept.trans k (fun i hi e' => by omega)⟩
theorem OE.res {w wr w2 : World} {ov : Value} {u rv v2 : Array Value} (h : OE w wr ov u rv) (h2 : w2.heap[w.heap.size + 1]? = some (.cells v2 63 (0, 0))) (k : Kept (fun i => i = w.heap.size + 1) wr w2) : OE w w2 ov u v2 := by
  have hz := h.size
  exact ⟨(k.block _ (by omega) (by omega)).trans h.s0, h2, h.kept.trans k (fun i hi e' => by omega)⟩
theorem OE.fail {B0 : Nat} {w wr : World} {ov : Value} {a : Option Addr} {al ac : Nat} {m : Int} {u rv : Array Value} {r : Except Int (Nat × List Int)} {f q : Int} {o' : Option Addr} {ol oc' : Nat} (h : OE w wr ov u rv) (hr : r = .error f) : StOk B0 w ov a al ac m r (.returned (.agg (sA a al ac q o' ol oc' m f))) wr :=
  ⟨h.kept, .inr ⟨f, q, o', ol, oc', hr, rfl⟩⟩

section
variable {B0 : Nat} {w wr w1 w2 : World} {ov : Value} {a : Option Addr} {al ac : Nat} {p : Int} {o : Option Addr} {oc : Nat} {m e : Int} {out : List Int} {rv : Array Value}
/-- Behind a callee that was handed the state. -/
theorem OS.called (h : OS B0 w wr ov a al ac p o oc m e out rv) (k : Kept (fun b => (Value.slice o out.length oc).ownBlock = some b) wr w1) : OE w w1 ov (sA a al ac p o out.length oc m e) rv := by
  have hz := h.size
  refine ⟨k.heap h.s0 (ownsRow_apart h.owns h.s0 (by decide)), k.heap h.s1 (ownsRow_apart h.owns h.s1 (by decide)), h.kept.trans k (fun i hi e' => h.old i e' hi)⟩
theorem OS.call {p2 : Int} {o2 : Option Addr} {oc2 : Nat} {out2 : List Int} (h : OS B0 w wr ov a al ac p o oc m e out rv) (k : Kept (fun b => (Value.slice o out.length oc).ownBlock = some b) wr w1) (ow : OwnsB w1 B0 (.slice o2 out2.length oc2) out2)
    (old : ∀ g, (Value.slice o2 out2.length oc2).ownBlock = some g → g < wr.heap.size → (Value.slice o out.length oc).ownBlock = some g) (hs : w2.heap[w.heap.size]? = some (.cells (sA a al ac p2 o2 out2.length oc2 m 0) 63 (0, 0))) (hk : Kept (fun i => i = w.heap.size) w1 w2) : OS B0 w w2 ov a al ac p2 o2 oc2 m 0 out2 rv := by
  have hE := h.called k
  have hz := hE.size
  have hz2 := h.kept.size
  refine ⟨hs, hk.heap hE.s1 (by omega), ownsRow_kept ow hk (fun g hg e' => ?_), hE.kept.trans hk (fun i hi e' => by omega), fun g hg hlt => h.old g (old g hg (by omega)) hlt⟩
  subst e'
  exact ownsRow_apart ow hE.s0 (by decide) hg
end
/-- What a call that tells bytes answers, by the case. -/
theorem StOk.got {B0 : Nat} {w : World} {ov : Value} {a : Option Addr} {al ac : Nat} {m : Int} {r : Except Int (Nat × List Int)} {x : Ending} {w' : World} {q : Nat} {out : List Int} (hr : r = .ok (q, out)) (h : StOk B0 w ov a al ac m r x w') :
    ∃ o oc, x = .returned (.agg (sA a al ac (q : Int) o out.length oc m 0)) ∧ Kept (fun b => ov.ownBlock = some b) w w' ∧ OwnsB w' B0 (.slice o out.length oc) out ∧ (∀ g, (Value.slice o out.length oc).ownBlock = some g → g < w.heap.size → ov.ownBlock = some g) := by
  subst hr
  obtain ⟨k, ⟨q', out', o, oc, e, hx, h1, h2⟩ | ⟨e, q', o, ol, oc, h', _⟩⟩ := h
  · cases e; exact ⟨o, oc, hx, k, h1, h2⟩
  · cases h'
theorem StOk.bad {B0 : Nat} {w : World} {ov : Value} {a : Option Addr} {al ac : Nat} {m : Int} {r : Except Int (Nat × List Int)} {x : Ending} {w' : World} {e : Int} (hr : r = .error e) (h : StOk B0 w ov a al ac m r x w') :
    ∃ (q : Int) (o : Option Addr) (ol oc : Nat), x = .returned (.agg (sA a al ac q o ol oc m e)) ∧ Kept (fun b => ov.ownBlock = some b) w w' := by
  subst hr
  obtain ⟨k, ⟨q', out', o, oc, e, hx, h1, h2⟩ | ⟨e, q', o, ol, oc, h', hx⟩⟩ := h
  · cases e
  · cases h'; exact ⟨q', o, ol, oc, hx, k⟩

set_option maxHeartbeats 1000000 in
/-- next hands a state with an error back. -/
theorem rnext_err (a o ra : Option Addr) (al ac ol oc rl rc : Nat) (p m e : Int) (w : World) (he : ¬ e = 0) :
    Calls Tryz.prog 58 #[.agg (sA a al ac p o ol oc m e), .slice ra rl rc] w fun x w' => x = .returned (.tuple #[.agg (sA a al ac p o ol oc m e), .int .i64 0]) ∧ Below w.heap.size w w' := by
  have HB : ∀ u v : Array Value, Hid (Below w.heap.size w ((w.alloc (.cells u 63)).alloc (.cells v 63))) := fun u v => ((Below.refl _ w).alloc (Nat.le_refl _) _).alloc (by simp) _
  unfold sA
  go_enter Tryz.func58, Tryz.ntmps58
  go_wp2
  go_returns
  exact ⟨rfl, (HB _ _).out⟩
end Go.Proofs.YtlakgbckopjelabGreatDoor
