/- The reference's Box, Boxes: contracts. -/
import Derived.Test.YtgamfpgejkhbcabDoorKRef
namespace Go.Proofs.YtgamfpgejkhbcabDoor.K
set_option maxRecDepth 100000
open Go Go.RowKit

theorem aff_lt (y n : Nat) : aff y n < 2 ^ n := by
  induction n with
  | zero => show 0 < 1; omega
  | succ n ih =>
    have h : ((((bit y n ^^^ bit y ((n + 4) % 8)) ^^^ bit y ((n + 5) % 8)) ^^^ bit y ((n + 6) % 8)) ^^^ bit y ((n + 7) % 8)) ^^^ bit 99 n < 2 :=
      @Nat.xor_lt_two_pow _ _ 1 (@Nat.xor_lt_two_pow _ _ 1 (@Nat.xor_lt_two_pow _ _ 1 (@Nat.xor_lt_two_pow _ _ 1 (@Nat.xor_lt_two_pow _ _ 1 (bit_lt _ _) (bit_lt _ _)) (bit_lt _ _)) (bit_lt _ _)) (bit_lt _ _)) (bit_lt _ _)
    rw [aff, Nat.pow_succ]
    generalize ((((bit y n ^^^ bit y ((n + 4) % 8)) ^^^ bit y ((n + 5) % 8)) ^^^ bit y ((n + 6) % 8)) ^^^ bit y ((n + 7) % 8)) ^^^ bit 99 n = z at h ⊢
    rcases (show z = 0 ∨ z = 1 by omega) with e | e <;> rw [e] <;> omega
theorem iv_lt (x n : Nat) (hn : n ≤ 256) : iv x n < 256 := by
  induction n with
  | zero => show 0 < 256; omega
  | succ n ih =>
    rw [iv]
    split
    · omega
    · exact ih (by omega)
theorem xorB {a b : Nat} (ha : a < 2) (hb : b < 2) : bits .xor .i64 (a : Int) (b : Int) = ((a ^^^ b : Nat) : Int) ∧ a ^^^ b < 2 := ⟨xorI a b (by omega) (by omega), @Nat.xor_lt_two_pow a b 1 ha hb⟩

def bxL (n : Nat) : List Nat := (List.range n).map bx
theorem bxL_push (n : Nat) : bxL n ++ [bx n] = bxL (n + 1) := by simp [bxL, List.range_succ]
theorem bxL_length (n : Nat) : (bxL n).length = n := by simp [bxL]
theorem bxL_at {n i : Nat} (h : i < n) : (bxL n).getD i 0 = bx i := by simp [bxL, h]
/-- What Boxes answers. -/
def BoxesOk (w : World) (e : Ending) (w' : World) : Prop := ∃ v, e = .returned v ∧ OwnsB w' w.heap.size v (bxL 256) ∧ Below w.heap.size w w'

end Go.Proofs.YtgamfpgejkhbcabDoor.K
