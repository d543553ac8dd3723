/- fixedSymbols, fixedBacks, makeCodes: contracts. -/
import Derived.Test.YtlakgbckopjelabDoorG11PRun
namespace Go.Proofs.YtlakgbckopjelabDoor
set_option maxRecDepth 100000
open Go Go.RowKit

/-- A row filled up to k. -/
def fl (L : List Int) (k : Nat) : List Int := L.take k ++ List.replicate (L.length - k) 0
theorem fl_length (L : List Int) {k : Nat} (h : k ≤ L.length) : (fl L k).length = L.length := by unfold fl; simp; omega
theorem fl_zero (L : List Int) : fl L 0 = List.replicate L.length 0 := by simp [fl]
theorem fl_all (L : List Int) : fl L L.length = L := by simp [fl]
theorem fl_at (L : List Int) {k : Nat} (h : k < L.length) : (valA (fl L k))[k]? = some (.int .i64 0) := by
  rw [valA_at _ (by rw [fl_length L (by omega)]; exact h)]
  congr 2
  unfold ln fl List.getD
  rw [List.getElem?_append_right (by simp; omega), List.getElem?_replicate, if_pos (by simp; omega)]
  rfl
theorem fl_set (L : List Int) {k : Nat} (h : k < L.length) {x : Int} (hx : ln L k = x) : (valA (fl L k)).setIfInBounds k (.int .i64 x) = valA (fl L (k + 1)) := by
  subst hx
  rw [← Array.toList_inj]
  simp only [valA, Array.toList_setIfInBounds]
  apply List.ext_getElem?
  intro i
  have hl : ln L k = L[k] := by simp [ln, List.getD, h]
  rcases Nat.lt_trichotomy i k with hi | hi | hi
  · rw [List.getElem?_set_ne (by omega)]
    simp only [fl, List.getElem?_map]
    rw [List.getElem?_append_left (by simp; omega), List.getElem?_append_left (by simp; omega), List.getElem?_take_of_lt hi, List.getElem?_take_of_lt (by omega)]
  · subst hi
    rw [List.getElem?_set_self (by simp [fl]; omega)]
    simp only [fl, List.getElem?_map]
    rw [List.getElem?_append_left (by simp; omega), List.getElem?_take_of_lt (by omega), List.getElem?_eq_getElem h, hl]
    rfl
  · rw [List.getElem?_set_ne (by omega)]
    simp only [fl, List.getElem?_map]
    rw [List.getElem?_append_right (by simp; omega), List.getElem?_append_right (by simp; omega), List.getElem?_replicate, List.getElem?_replicate]
    simp only [List.length_take]
    congr 1
    by_cases h1 : i < L.length
    · rw [if_pos (by omega), if_pos (by omega)]
    · rw [if_neg (by omega), if_neg (by omega)]

theorem iFive_ln {k : Nat} (h : k < 32) : ln iFive k = 5 := by
  unfold ln iFive List.getD
  rw [List.getElem?_replicate, if_pos h]
  rfl
theorem iFix_ln {k : Nat} (h : k < 288) : ln iFix k = if k < 144 then 8 else if k < 256 then 9 else if k < 280 then 7 else 8 := by
  unfold ln iFix List.getD
  simp only [List.getElem?_append, List.length_append, List.length_replicate, List.getElem?_replicate]
  rcases (show k < 144 ∨ (144 ≤ k ∧ k < 256) ∨ (256 ≤ k ∧ k < 280) ∨ (280 ≤ k ∧ k < 288) by omega) with h1 | h1 | h1 | h1
  all_goals
    repeat (first | rw [if_pos (by omega)] | rw [if_neg (by omega)])
    try rfl
theorem iFix_length : iFix.length = 288 := by unfold iFix; simp only [List.length_append, List.length_replicate]
theorem iFive_length : iFive.length = 32 := by unfold iFive; simp only [List.length_replicate]
theorem iFix_check : check iFix true = 0 := by decide +kernel
theorem iFive_check : check iFive true = 0 := by decide +kernel

/-- A row of numbers, new. -/
def NewRow (w : World) (L : List Int) (e : Ending) (w' : World) : Prop := e = .returned (.slice (some ⟨w.heap.size, 0, none⟩) L.length L.length) ∧ w'.heap[w.heap.size]? = some (.cells (valA L) 3 (0, 0)) ∧ Below w.heap.size w w'

theorem CodeAt.wide {lo hi lo' hi' : Nat} {w : World} {bc gl gc : Nat} {vo : Value} {N : Nat} {ls : List Int} (h : CodeAt lo hi w bc gl gc vo N ls) (h1 : lo' ≤ lo) (h2 : hi ≤ hi') : CodeAt lo' hi' w bc gl gc vo N ls := by
  have a := h.inb; have b := h.inl; have c := h.inc
  exact ⟨h.block, h.lens, h.codes, h.ord.low h1, fun g hg => by have := h.ordlt g hg; omega, h.long, by omega, by omega, by omega⟩
end Go.Proofs.YtlakgbckopjelabDoor
