/- The reference's Block: contract. -/
import Derived.Test.YtgamfpgejkhbcabDoorKMix
namespace Go.Proofs.YtgamfpgejkhbcabDoor.K
set_option maxRecDepth 100000
open Go Go.RowKit

/-- Round keys in memory: rows of sixteen bytes. -/
def KeyRows (w : World) (rb ro R : Nat) (K : Nat → Nat → Nat) : Prop := rb < w.heap.size ∧ ∀ r, r ≤ R → ∃ b o c, w.cell? ⟨rb, ro + r, none⟩ = some (.slice (some ⟨b, o, none⟩) 16 c) ∧ b < w.heap.size ∧ ∀ i, i < 16 → w.cell? ⟨b, o + i, none⟩ = some (.int .u8 (K r i : Nat))
theorem KeyRows.below {w w' : World} {rb ro R : Nat} {K : Nat → Nat → Nat} (h : KeyRows w rb ro R K) (k : Below w.heap.size w w') : KeyRows w' rb ro R K := by
  refine ⟨Nat.lt_of_lt_of_le h.1 k.size, fun r hr => ?_⟩
  obtain ⟨b, o, c, h1, h2, h3⟩ := h.2 r hr
  exact ⟨b, o, c, (k.cell (p := ⟨rb, ro + r, none⟩) h.1).trans h1, Nat.lt_of_lt_of_le h2 k.size, fun i hi => (k.cell (p := ⟨b, o + i, none⟩) h2).trans (h3 i hi)⟩
/-- The boxes in memory. -/
def BoxRow (w : World) (bb bo : Nat) : Prop := bb < w.heap.size ∧ ∀ i, i < 256 → w.cell? ⟨bb, bo + i, none⟩ = some (.int .u8 (bx i : Nat))
theorem BoxRow.below {w w' : World} {bb bo : Nat} (h : BoxRow w bb bo) (k : Below w.heap.size w w') : BoxRow w' bb bo := ⟨Nat.lt_of_lt_of_le h.1 k.size, fun i hi => (k.cell (p := ⟨bb, bo + i, none⟩) h.1).trans (h.2 i hi)⟩
/-- A block of which the first i bytes have become others. -/
def pt (f g : Nat → Nat) (i j : Nat) : Nat := if j < i then g j else f j
theorem pt_set (f g : Nat → Nat) {i : Nat} (h : i < 16) : (cA (pt f g i) 16).setIfInBounds i (.int .u8 (g i : Nat)) = cA (pt f g (i + 1)) 16 := by
  apply Array.ext_getElem?
  intro j
  rw [Array.getElem?_setIfInBounds, cA_size]
  by_cases hj : j < 16
  · rw [cA_at _ hj, cA_at _ hj]
    unfold pt
    by_cases e : i = j
    · subst e
      rw [if_pos rfl, if_pos h, if_pos (by omega)]
    · rw [if_neg e]
      by_cases h1 : j < i
      · rw [if_pos h1, if_pos (by omega)]
      · rw [if_neg h1, if_neg (by omega)]
  · have n1 : (cA (pt f g i) 16)[j]? = none := Array.getElem?_eq_none (by rw [cA_size]; omega)
    have n2 : (cA (pt f g (i + 1)) 16)[j]? = none := Array.getElem?_eq_none (by rw [cA_size]; omega)
    rw [n1, n2, if_neg (by omega)]
theorem pt_zero (f g : Nat → Nat) : pt f g 0 = f := by funext j; simp [pt]
theorem pt_end (f g : Nat → Nat) : cA (pt f g 16) 16 = cA g 16 := cA_congr (fun i hi => by simp [pt, hi]) 16
theorem pt_at (f g : Nat → Nat) (i : Nat) : pt f g i i = f i := by simp [pt]
/-- What stands in memory between the rounds. -/
structure ES (w : World) (e : Nat → Nat) (wx : World) : Prop where
  b : wx.heap[w.heap.size]? = some (.cells (cA e 16) 32 (0, 0))
  res : wx.heap[w.heap.size + 1]? = some (.cells (cA e 0) 32 (0, 0))
  bel : Below w.heap.size w wx
theorem cA_nil (f g : Nat → Nat) : cA f 0 = cA g 0 := by rw [cA, cA, fA_zero, fA_zero]
theorem ES.drew {w : World} {e : Nat → Nat} {wx : World} (h : ES w e wx) : ES w e wx.drew := ⟨h.b, h.res, ⟨h.bel.os, h.bel.tape, h.bel.output, h.bel.size, h.bel.block⟩⟩
theorem ES.set {w : World} {f g : Nat → Nat} {i : Nat} {wx : World} (h : ES w (pt f g i) wx) (hi : i < 16) : ES w (pt f g (i + 1)) (wx.setCell ⟨w.heap.size, i, none⟩ (.int .u8 (g i : Nat))) :=
  ⟨by rw [set_of h.b, pt_set _ _ hi], by rw [cA_nil _ (pt f g i)]; exact (set_other (by omega)).trans h.res, h.bel.setCell (p := ⟨w.heap.size, i, none⟩) (Nat.le_refl _) _⟩
theorem ES.like {w : World} {e e' : Nat → Nat} {wx : World} (h : ES w e wx) (hc : cA e 16 = cA e' 16) : ES w e' wx := ⟨by rw [← hc]; exact h.b, by rw [cA_nil e' e]; exact h.res, h.bel⟩
/-- .. and within one: a block of one's own at bm. -/
structure EM (w : World) (bm : Nat) (e g : Nat → Nat) (t : Nat) (wx : World) : Prop where
  es : ES w e wx
  m : wx.heap[bm]? = some (.cells (cA g t) 32 (0, 0))
theorem EM.drew {w : World} {bm : Nat} {e g : Nat → Nat} {t : Nat} {wx : World} (h : EM w bm e g t wx) : EM w bm e g t wx.drew := ⟨h.es.drew, h.m⟩
theorem EM.lay {w : World} {bm : Nat} {e g : Nat → Nat} {t : Nat} {wx : World} (h : EM w bm e g t wx) (hb : w.heap.size + 1 < bm) (ht : t < 16) : EM w bm e g (t + 1) (wx.setCell ⟨bm, t, none⟩ (.int .u8 (g t : Nat))) :=
  ⟨⟨(set_other (by omega)).trans h.es.b, (set_other (by omega)).trans h.es.res, h.es.bel.setCell (p := ⟨bm, t, none⟩) (by show w.heap.size ≤ bm; omega) _⟩, by rw [set_of h.m, cA_set _ ht]⟩
theorem EM.set {w : World} {bm : Nat} {f g m : Nat → Nat} {i : Nat} {wx : World} (h : EM w bm (pt f g i) m 16 wx) (hb : w.heap.size + 1 < bm) (hi : i < 16) : EM w bm (pt f g (i + 1)) m 16 (wx.setCell ⟨w.heap.size, i, none⟩ (.int .u8 (g i : Nat))) :=
  ⟨h.es.set hi, (set_other (by omega)).trans h.m⟩

end Go.Proofs.YtgamfpgejkhbcabDoor.K
