/- The laws' probe, 'alive': it answers true, and writes nothing that was there. -/
import Derived.Test.YtibolmgijaploaaDoorHNext
namespace Go.Proofs.YtibolmgijaploaaDoor
set_option maxRecDepth 100000
open Go Go.RowKit

theorem ints_of {w : World} {g : Nat} {L : List Int} {t : TypeId} {fr : Nat × Nat} (h : w.heap[g]? = some (.cells (valA L) t fr)) : Ints g (g + 1) w (some ⟨g, 0, none⟩) L :=
  .inr ⟨g, 0, by omega, by omega, lt_of_block h, rfl, fun i hi => by
    rw [Nat.zero_add]
    have : w.cell? ⟨g, i, none⟩ = (valA L)[i]? := by simp [World.cell?, h]
    rw [this]; exact valA_at L hi⟩

def ls4 : List Int := [2, 1, 3, 3]
theorem ls4_check (b : Bool) : check ls4 b = 0 := by cases b <;> decide +kernel
theorem ls4_codes : codesL ls4 = [2, 0, 6, 7] := by decide +kernel
theorem ls4_next (N s n : Nat) (err : Int) (h : NextIs ls4 (bz [59] 0) 8 N s n err) : s = 2 ∧ n = 3 ∧ err = 0 := by
  have k : NextIs ls4 (bz [59] 0) 8 N 2 3 0 := .inl ⟨rfl, by omega, by decide, by omega, by decide +kernel, by decide +kernel⟩
  exact NextIs.one (bz_le _ _) h k

theorem lit4 (w : World) (L : List Int) : (w.alloc (.cells (valA L) 3)).heap[w.heap.size]? = some (.cells (valA L) 3 (0, 0)) := heap_new _ _
theorem make4 (w : World) : Calls Tryd.prog 53 #[.slice (some ⟨w.heap.size, 0, none⟩) 4 4, .bool false] (w.alloc (.cells #[.int .i64 2, .int .i64 1, .int .i64 3, .int .i64 3] 3)) fun e w' => ∃ bc gl gc vo N, e = .returned (.tuple #[.pointer (some ⟨bc, 0, none⟩), .int .i64 0]) ∧ CodeAt w.heap.size w'.heap.size w' bc gl gc vo N ls4 ∧ Below w.heap.size w w' := by
  have hi := ints_of (lit4 w ls4)
  refine (make_ok (w.heap.size + 1) _ 4 ls4 false _ (ls4_check _) (hi.wide (Nat.zero_le _) (Nat.le_refl _))).mono ?_
  rintro e w' ⟨bc, gl, gc, vo, N, rfl, c, b⟩
  have hs : (w.alloc (.cells (valA ls4) 3)).heap.size = w.heap.size + 1 := by simp
  rw [hs] at c b
  refine ⟨bc, gl, gc, vo, N, rfl, ⟨c.block, c.lens, c.codes, c.ord.low (by omega), c.ordlt, c.long, ⟨by have := c.inb; omega, c.inb.2⟩, ⟨by have := c.inl; omega, c.inl.2⟩, ⟨by have := c.inc; omega, c.inc.2⟩⟩, ?_⟩
  exact ((Below.refl _ w).alloc (Nat.le_refl _) _).trans (b.mono (by omega))
theorem next4 {w w1 : World} {bc gl gc : Nat} {vo : Value} {N : Nat} (c : CodeAt w.heap.size w1.heap.size w1 bc gl gc vo N ls4) :
    Calls Tryd.prog 66 #[.pointer (some ⟨bc, 0, none⟩), .pointer (some ⟨w1.heap.size + 1, 0, none⟩)] ((w1.alloc (.cells #[.int .u8 59] 5)).alloc (.cells #[.slice (some ⟨w1.heap.size, 0, none⟩) 1 1, .int .i64 0] 54)) fun e w' => e = .returned (.tuple #[.int .i64 2, .int .i64 0]) ∧ Below w1.heap.size w1 w' := by
  have hbel : Below w1.heap.size w1 ((w1.alloc (.cells #[.int .u8 59] 5)).alloc (.cells #[.slice (some ⟨w1.heap.size, 0, none⟩) 1 1, .int .i64 0] 54)) := ((Below.refl _ w1).alloc (Nat.le_refl _) _).alloc (by simp) _
  have hrd : ((w1.alloc (.cells #[.int .u8 59] 5)).alloc (.cells #[.slice (some ⟨w1.heap.size, 0, none⟩) 1 1, .int .i64 0] 54)).heap[w1.heap.size + 1]? = some (.cells #[.slice (some ⟨w1.heap.size, 0, none⟩) 1 1, .int .i64 ((0 : Nat) : Int)] 54 (0, 0)) := by
    have := heap_new (w1.alloc (.cells #[.int .u8 59] 5)) (.cells #[.slice (some ⟨w1.heap.size, 0, none⟩) 1 1, .int .i64 0] 54)
    simpa using this
  have htx : Text (w1.heap.size + 1) ((w1.alloc (.cells #[.int .u8 59] 5)).alloc (.cells #[.slice (some ⟨w1.heap.size, 0, none⟩) 1 1, .int .i64 0] 54)) (some ⟨w1.heap.size, 0, none⟩) 1 [59] := by
    refine ⟨rfl, fun i => ?_, .inr ⟨w1.heap.size, 0, by omega, rfl, fun i hi => ?_⟩⟩
    · match i with
      | 0 => decide
      | i + 1 => simp [List.getD]
    · obtain rfl : i = 0 := by omega
      rw [cells_of (heap_old (heap_new _ _))]; rfl
  refine (next_any w.heap.size w1.heap.size bc gl gc vo N ls4 (w1.heap.size + 1) _ 1 1 0 [59] (w1.heap.size + 1) _ (c.below hbel (Nat.le_refl _)) (check_good (ls4_check true)) (by decide) hrd htx (by omega) (by omega) (.inr (by omega)) (Nat.le_refl _)).mono ?_
  rintro e w' ⟨s, n, err, hnx, rfl, _, hk⟩
  obtain ⟨rfl, rfl, rfl⟩ := ls4_next N s n err hnx
  exact ⟨rfl, hbel.trans (hk.below (by simp; omega) (fun i hi e => by omega))⟩
end Go.Proofs.YtibolmgijaploaaDoor
