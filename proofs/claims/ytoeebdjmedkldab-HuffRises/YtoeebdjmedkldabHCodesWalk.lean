/- No code is the beginning of another one; later and longer codes are greater; HuffCodes' walk. -/
import Derived.Test.YtoeebdjmedkldabHOpen
namespace Go.Proofs.Ytoeebdjmedkldab
open Go Go.RowKit

theorem fc_up (ls : List Int) (n d : Nat) : (fc ls n + ct ls n) * 2 ^ (d + 1) ≤ fc ls (n + d + 1) := by
  induction d with
  | zero => simp [fc]; omega
  | succ d ih =>
    rw [Nat.pow_succ, ← Nat.mul_assoc]
    have e : fc ls (n + (d + 1) + 1) = 2 * (fc ls (n + d + 1) + ct ls (n + d + 1)) := rfl
    rw [e]; omega
theorem longer_greater {ls : List Int} {s t : Nat} (ht : t < ls.length) (h1 : 1 ≤ ln ls t) (h : ln ls t < ln ls s) : cd ls t < cd ls s / 2 ^ (ln ls s - ln ls t).toNat := by
  obtain ⟨d, hd⟩ : ∃ d, (ln ls s).toNat = (ln ls t).toNat + d + 1 := ⟨(ln ls s).toNat - (ln ls t).toNat - 1, by omega⟩
  have e : (ln ls s - ln ls t).toNat = d + 1 := by omega
  have u := fc_up ls (ln ls t).toNat d
  rw [← hd] at u
  have r := rk_lt ht h1
  rw [e]
  have q : (fc ls (ln ls t).toNat + ct ls (ln ls t).toNat) * 2 ^ (d + 1) ≤ cd ls s := by
    have : cd ls s = fc ls (ln ls s).toNat + rk ls s := rfl
    omega
  have := (Nat.le_div_iff_mul_le (Nat.two_pow_pos (d + 1))).2 q
  have : cd ls t = fc ls (ln ls t).toNat + rk ls t := rfl
  omega
theorem later_greater {ls : List Int} {s t : Nat} (hs : s < ls.length) (hst : t < s) (h : ln ls s = ln ls t) : cd ls t < cd ls s := by
  have := rk_mono hs hst h
  unfold cd; rw [h]; omega
theorem ne_shr {x y n : Nat} (h : x ≠ y / 2 ^ n) : ((x : Int) == (y : Int) / 2 ^ n) = false := by
  have e : (y : Int) / 2 ^ n = ((y / 2 ^ n : Nat) : Int) := by rw [Int.natCast_ediv, Int.natCast_pow]; rfl
  rw [e, beq_eq_false_iff_ne]
  exact fun h' => h (Int.ofNat_inj.1 h')
theorem shr_nat (x : Nat) (n : Nat) : (x : Int) / 2 ^ n = ((x / 2 ^ n : Nat) : Int) := by
  rw [Int.natCast_ediv, Int.natCast_pow]; rfl

theorem same_codes (gc : Nat) (ls : List Int) (w : World) (h3 : ls.length ≤ 320) (h : w.heap[gc]? = some (.cells (valA (codesL ls)) 3 (0, 0))) : Calls Try.prog 11 #[.slice (some ⟨gc, 0, none⟩) ls.length ls.length, .slice (some ⟨w.heap.size, 0, none⟩) ls.length ls.length] (w.alloc (.cells (valA (codesL ls)) 3)) fun e w' => e = .returned (.bool true) ∧ Below w.heap.size w w' := by
  have hs := same_c gc (gc + 1) w.heap.size (w.heap.size + 1) _ _ ls.length ls.length (codesL ls) (w.alloc (.cells (valA (codesL ls)) 3)) (by rw [codesL_length]; omega) (ints_of (heap_old h)) (ints_of (lit4 w (codesL ls)))
  rw [codesL_length] at hs
  refine hs.mono ?_
  rintro e w' ⟨rfl, n, rfl⟩
  have b : Below w.heap.size w (w.alloc (.cells (valA (codesL ls)) 3)) := (Below.refl _ w).alloc (Nat.le_refl _) _
  exact ⟨rfl, ⟨b.os, b.tape, b.output, b.size, b.block⟩⟩

end Go.Proofs.Ytoeebdjmedkldab
