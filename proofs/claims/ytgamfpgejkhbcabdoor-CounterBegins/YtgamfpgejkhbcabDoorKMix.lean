/- The reference's mixed: contract. -/
import Derived.Test.YtgamfpgejkhbcabDoorKBox
namespace Go.Proofs.YtgamfpgejkhbcabDoor.K
set_option maxRecDepth 100000
open Go Go.RowKit

/-- Sixteen bytes as an array's cells, the first t of them laid. -/
def cA (f : Nat → Nat) (t : Nat) : Array Value := fA .u8 16 f t
theorem zero16 (f : Nat → Nat) : (∀ w, (zeroValue 32).run Tryd.prog w = .ok (.agg (cA f 0)) w) ∧ (Tryd.prog.info? 32).map (·.size) = some 16 := by
  rw [cA, fA_zero]
  exact zero_of_info (by kernel_rfl)
theorem info16 (f : Nat → Nat) (t : Nat) : (Tryd.prog.info? 32).map (·.size) = some (cA f t).size := by rw [cA, fA_size]; exact (zero16 f).2
theorem cA_size (f : Nat → Nat) (t : Nat) : (cA f t).size = 16 := fA_size _ _ _ _
theorem cA_one (f : Nat → Nat) (t : Nat) : (cA f t).all (·.oneCell') = true := fA_one _ _ _ _
theorem cA_at (f : Nat → Nat) {i : Nat} (h : i < 16) : (cA f 16)[i]? = some (.int .u8 (f i : Nat)) := fA_at .u8 f h h
theorem cA_set (f : Nat → Nat) {t : Nat} (h : t < 16) : (cA f t).setIfInBounds t (.int .u8 (f t : Nat)) = cA f (t + 1) := fA_set .u8 f h
theorem cA_congr {f g : Nat → Nat} (h : E16 f g) (t : Nat) : cA f t = cA g t := fA_congr .u8 16 h t
/-- What stands in memory while four bytes are mixed. -/
structure MX (f g : Nat → Nat) (w : World) (t : Nat) (wx : World) : Prop where
  src : wx.heap[w.heap.size]? = some (.cells (cA f 16) 32 (0, 0))
  res : wx.heap[w.heap.size + 1]? = some (.cells (cA f 0) 32 (0, 0))
  out : wx.heap[w.heap.size + 1 + 1]? = some (.cells (cA g t) 32 (0, 0))
  bel : Below w.heap.size w wx
theorem MX.set {f g : Nat → Nat} {w : World} {t : Nat} {wx : World} (h : MX f g w t wx) (ht : t < 16) : MX f g w (t + 1) (wx.setCell ⟨w.heap.size + 1 + 1, t, none⟩ (.int .u8 (g t : Nat))) :=
  ⟨(set_other (by omega)).trans h.src, (set_other (by omega)).trans h.res, by rw [set_of h.out, cA_set _ ht], h.bel.setCell (p := ⟨w.heap.size + 1 + 1, t, none⟩) (by show w.heap.size ≤ w.heap.size + 1 + 1; omega) _⟩
theorem heap3 (w : World) (o p q : Obj) : (((w.alloc o).alloc p).alloc q).heap[w.heap.size]? = some o ∧ (((w.alloc o).alloc p).alloc q).heap[w.heap.size + 1]? = some p ∧ (((w.alloc o).alloc p).alloc q).heap[w.heap.size + 1 + 1]? = some q := by
  refine ⟨heap_old (heap_new1 _ _ _), heap_old (heap_new2 _ _ _), ?_⟩
  have := heap_new ((w.alloc o).alloc p) q
  simpa using this
theorem xr {a b : Nat} (ha : a < 256) (hb : b < 256) : bits .xor .u8 (a : Int) (b : Int) = ((a ^^^ b : Nat) : Int) ∧ a ^^^ b < 256 := ⟨xor8 a b ha hb, xor8_lt ha hb⟩

end Go.Proofs.YtgamfpgejkhbcabDoor.K
