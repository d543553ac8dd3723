/- What a hash holds of the bytes that were written; how it goes on. -/
import Derived.Test.YtgamfpgejkhbcaaDoorSTake
namespace Go.Proofs.YtgamfpgejkhbcaaDoor.S
set_option maxRecDepth 100000
open Go Go.RowKit

/-- The bytes that wait are the last ones of xs, which fill no block. -/
structure Wt (xs q : List Nat) : Prop where
  len : q.length = 64
  by_ : By q
  is_ : q.take (xs.length % 64) = xs.drop (64 * (xs.length / 64))
/-- A hash to which xs was written lies in block b. -/
def HashAt (w : World) (b : Nat) (xs : List Nat) : Prop := ∃ q, HashIn w b (blks xs (xs.length / 64)) xs.length q ∧ Wt xs q
theorem HashAt.kept {M : Nat → Prop} {w w' : World} {b : Nat} {xs : List Nat} (h : HashAt w b xs) (k : Kept M w w') (hn : ¬ M b) : HashAt w' b xs := by
  obtain ⟨q, h1, h2⟩ := h; exact ⟨q, h1.kept k hn, h2⟩
theorem HashAt.below {B : Nat} {w w' : World} {b : Nat} {xs : List Nat} (h : HashAt w b xs) (k : Below B w w') (hb : b < B) : HashAt w' b xs := by
  obtain ⟨q, h1, h2⟩ := h; exact ⟨q, h1.below k hb, h2⟩
theorem HashAt.lt {w : World} {b : Nat} {xs : List Nat} (h : HashAt w b xs) : b < w.heap.size := by
  obtain ⟨q, h1, h2⟩ := h; exact lt_of_block h1
/-- Bytes laid over a row at a place. -/
def lay (q : List Nat) (r : Nat) (ys : List Nat) : List Nat := q.take r ++ ys ++ q.drop (r + ys.length)
theorem lay_length {q : List Nat} {r : Nat} {ys : List Nat} (h : r + ys.length ≤ q.length) : (lay q r ys).length = q.length := by simp [lay]; omega
theorem lay_by {q : List Nat} (r : Nat) {ys : List Nat} (h : By q) (k : By ys) : By (lay q r ys) := ((h.take r).append k).append (h.drop _)
theorem lay_take {q : List Nat} {r : Nat} {ys : List Nat} (h : r + ys.length ≤ q.length) : (lay q r ys).take (r + ys.length) = q.take r ++ ys := by
  unfold lay
  rw [List.take_append_of_le_length (by simp; omega), List.take_of_length_le (by simp; omega)]
theorem lay_cells (s : St) (n : Nat) (q : List Nat) (r : Nat) (ys : List Nat) :
    ((hA s n q).toList.take (6 + r) ++ (ys.map fun (x : Nat) => Value.int .u8 (x : Int)) ++ (hA s n q).toList.drop (6 + r + (ys.map fun (x : Nat) => Value.int .u8 (x : Int)).length)).toArray = hA s n (lay q r ys) := by
  have e6 : ∀ k, 6 + k = ([.int .u32 (s.a : Int), .int .u32 (s.b : Int), .int .u32 (s.c : Int), .int .u32 (s.d : Int), .int .u32 (s.e : Int), .int .u64 (n : Int)] : List Value).length + k := fun k => rfl
  simp only [hA, lay, List.length_map]
  congr 1
  rw [Nat.add_assoc, e6 r, e6 (r + ys.length), List.take_length_add_append, List.drop_length_add_append]
  simp [List.map_take, List.map_drop]

theorem div_add_lt {n m : Nat} (h : n % 64 + m < 64) : (n + m) / 64 = n / 64 ∧ (n + m) % 64 = n % 64 + m := by omega
theorem div_add_eq {n m : Nat} (h : n % 64 + m = 64) : (n + m) / 64 = n / 64 + 1 ∧ (n + m) % 64 = 0 := by omega
theorem wait_lay {xs ys q : List Nat} (h : Wt xs q) (hm : xs.length % 64 + ys.length ≤ 64) : (lay q (xs.length % 64) ys).take (xs.length % 64 + ys.length) = (xs ++ ys).drop (64 * (xs.length / 64)) := by
  have hl := h.len
  rw [lay_take (by omega), h.is_, List.drop_append_of_le_length (by omega)]
theorem wt_more {xs ys q : List Nat} (h : Wt xs q) (hy : By ys) (hm : xs.length % 64 + ys.length < 64) : Wt (xs ++ ys) (lay q (xs.length % 64) ys) := by
  have hl := h.len
  obtain ⟨e1, e2⟩ := div_add_lt hm
  refine ⟨by rw [lay_length (by omega)]; exact hl, lay_by _ h.by_ hy, ?_⟩
  rw [List.length_append, e1, e2]
  exact wait_lay h (by omega)
theorem blks_more {xs ys : List Nat} (hm : xs.length % 64 + ys.length < 64) : blks (xs ++ ys) ((xs ++ ys).length / 64) = blks xs (xs.length / 64) := by
  rw [List.length_append, (div_add_lt hm).1, blks_append _ _ _ (by omega)]
theorem wt_full {xs ys q : List Nat} (h : Wt xs q) (hy : By ys) (hm : xs.length % 64 + ys.length = 64) : Wt (xs ++ ys) (lay q (xs.length % 64) ys) := by
  have hl := h.len
  obtain ⟨e1, e2⟩ := div_add_eq hm
  refine ⟨by rw [lay_length (by omega)]; exact hl, lay_by _ h.by_ hy, ?_⟩
  have hlen : (xs ++ ys).length = xs.length + ys.length := List.length_append
  rw [hlen, e2, List.take_zero, List.drop_of_length_le (by rw [hlen]; omega)]
theorem blks_full {xs ys q : List Nat} (h : Wt xs q) (hm : xs.length % 64 + ys.length = 64) : blks (xs ++ ys) ((xs ++ ys).length / 64) = blk (blks xs (xs.length / 64)) (lay q (xs.length % 64) ys) := by
  have hl := h.len
  have e := wait_lay h (ys := ys) (by omega)
  rw [hm, List.take_of_length_le (by rw [lay_length (by omega)]; omega)] at e
  rw [List.length_append, (div_add_eq hm).1, blks, blks_append _ _ _ (by omega), e, List.take_of_length_le (by rw [List.length_drop, List.length_append]; omega)]
end Go.Proofs.YtgamfpgejkhbcaaDoor.S
