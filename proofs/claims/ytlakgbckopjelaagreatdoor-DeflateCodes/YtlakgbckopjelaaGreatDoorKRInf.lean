/- The reference's Inflate: contract. -/
import Derived.Test.YtlakgbckopjelaaGreatDoorK44PInf
namespace Go.Proofs.YtlakgbckopjelaaGreatDoor
set_option maxRecDepth 100000
open Go Go.RowKit

/-- The state of the reference's Inflate, at g; the row ahead of it, what was told behind it. -/
structure JS (g : Nat) (w wx : World) (a : Option Addr) (L : List Int) (ac : Nat) (p : Int) (o : Option Addr) (oc : Nat) (m e : Int) (out : List Int) : Prop where
  s0 : wx.heap[g]? = some (.cells (sA a L.length ac p o out.length oc m e) 68 (0, 0))
  row : Ints w.heap.size g wx a L
  own : OwnsB wx (g + 1) (.slice o out.length oc) out
  bel : Below w.heap.size w wx
  wg : w.heap.size ≤ g
structure JE (g : Nat) (w wx : World) (u : Array Value) : Prop where
  s0 : wx.heap[g]? = some (.cells u 68 (0, 0))
  bel : Below w.heap.size w wx
  wg : w.heap.size ≤ g
section
variable {g : Nat} {w wx wy w1 : World} {a : Option Addr} {L : List Int} {ac : Nat} {p : Int} {o : Option Addr} {oc : Nat} {m e : Int} {out : List Int} {u : Array Value}
theorem JS.lt (h : JS g w wx a L ac p o oc m e out) : g < wx.heap.size := lt_of_block h.s0
theorem JE.lt (h : JE g w wx u) : g < wx.heap.size := lt_of_block h.s0
theorem JS.stay (h : JS g w wx a L ac p o oc m e out) (k : Below wx.heap.size wx wy) : JS g w wy a L ac p o oc m e out := by
  have hz := h.lt
  exact ⟨(k.block _ hz).trans h.s0, h.row.stay k, h.own.below k, h.bel.trans (k.mono h.bel.size), h.wg⟩
theorem JE.stay (h : JE g w wx u) (k : Below wx.heap.size wx wy) : JE g w wy u := ⟨(k.block _ h.lt).trans h.s0, h.bel.trans (k.mono h.bel.size), h.wg⟩
theorem JS.set {p2 e2 : Int} (h : JS g w wx a L ac p o oc m e out) (h2 : wy.heap[g]? = some (.cells (sA a L.length ac p2 o out.length oc m e2) 68 (0, 0))) (k : Kept (fun i => i = g) wx wy) : JS g w wy a L ac p2 o oc m e2 out := by
  have hz := h.wg
  have hs := h.bel.size
  exact ⟨h2, h.row.kept k (fun b h1 h2 e' => by omega), ownsRow_kept h.own k (fun x hx e' => by have := (ownsRow_lt h.own hx).1; omega), h.bel.trans (k.below hs (fun i hi e' => by omega)), h.wg⟩
theorem JE.set {u2 : Array Value} (h : JE g w wx u) (h2 : wy.heap[g]? = some (.cells u2 68 (0, 0))) (k : Kept (fun i => i = g) wx wy) : JE g w wy u2 := by
  have hz := h.wg
  exact ⟨h2, h.bel.trans (k.below h.bel.size (fun i hi e' => by omega)), h.wg⟩
/-- Behind a callee that was handed the state. -/
theorem JS.called (h : JS g w wx a L ac p o oc m e out) (k : Kept (fun b => (Value.slice o out.length oc).ownBlock = some b) wx w1) : JE g w w1 (sA a L.length ac p o out.length oc m e) := by
  have hz := h.wg
  refine ⟨k.heap h.s0 (ownsRow_apart h.own h.s0 (by decide)), h.bel.trans (k.below h.bel.size (fun i hi e' => ?_)), h.wg⟩
  have := (ownsRow_lt h.own e').1
  omega
theorem JS.call {p2 : Int} {o2 : Option Addr} {oc2 : Nat} {out2 : List Int} (h : JS g w wx a L ac p o oc m e out) (k : Kept (fun b => (Value.slice o out.length oc).ownBlock = some b) wx w1) (ow : OwnsB w1 (g + 1) (.slice o2 out2.length oc2) out2)
    (hs : wy.heap[g]? = some (.cells (sA a L.length ac p2 o2 out2.length oc2 m 0) 68 (0, 0))) (hk : Kept (fun i => i = g) w1 wy) : JS g w wy a L ac p2 o2 oc2 m 0 out2 := by
  have hE := h.called k
  have hz := h.wg
  refine ⟨hs, (h.row.kept k (fun b h1 h2 e' => by have := (ownsRow_lt h.own e').1; omega)).kept hk (fun b h1 h2 e' => by omega), ownsRow_kept ow hk (fun x hx e' => by have := (ownsRow_lt ow hx).1; omega), (hE.set hs hk).bel, h.wg⟩
theorem JS.new {M : Int} (h : Owns w1 w.heap.size (.slice a L.length ac) L) (k : Below w.heap.size w w1) : JS w1.heap.size w (w1.alloc (.cells #[.slice a L.length ac, .int .i64 0, .slice none 0 0, .int .i64 M, .int .i64 0] 68)) a L ac 0 none 0 M 0 [] := by
  refine ⟨heap_new _ _, ?_, OwnsB.nil _ _, k.alloc k.size _, k.size⟩
  obtain ⟨a', c', hv, hc⟩ := h.form
  cases hv
  by_cases h0 : 0 < L.length
  · obtain ⟨g, _, h1, h2, rfl, h3⟩ := hc h0
    refine Ints.stay (.inr ⟨g, 0, h1, h2, h2, rfl, fun i hi => ?_⟩) ((Below.refl _ _).alloc (Nat.le_refl _) _)
    rw [Nat.zero_add]
    exact h3 i hi
  · exact .inl (by omega)
theorem JS.drew (h : JS g w wx a L ac p o oc m e out) : JS g w wx.drew a L ac p o oc m e out := ⟨h.s0, h.row, h.own, ⟨h.bel.os, h.bel.tape, h.bel.output, h.bel.size, h.bel.block⟩, h.wg⟩
end
/-- At a block's beginning. -/
def JRel (g : Nat) (w : World) (a : Option Addr) (L : List Int) (ac most : Nat) (R : Except Int (Nat × List Int)) (gk : Nat) (v : Int) (wx : World) : Prop :=
  (∃ (p : Nat) (out : List Int) (o : Option Addr) (oc : Nat), v = 0 ∧ p + gk = L.length + 1 ∧ p ≤ L.length ∧ iBy most out ∧ R = iLoop L.length (iBlk (lb L) L.length most) p out ∧ JS g w wx a L ac (p : Int) o oc most 0 out)
  ∨ (∃ (p : Nat) (out : List Int) (o : Option Addr) (oc : Nat), ¬ v = 0 ∧ p ≤ L.length ∧ R = .ok (p, out) ∧ JS g w wx a L ac (p : Int) o oc most 0 out)
  ∨ (∃ (e q : Int) (o : Option Addr) (ol oc : Nat), 60 ≤ e ∧ R = .error e ∧ JE g w wx (sA a L.length ac q o ol oc most e))
end Go.Proofs.YtlakgbckopjelaaGreatDoor
