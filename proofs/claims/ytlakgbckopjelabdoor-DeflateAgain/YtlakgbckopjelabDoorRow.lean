/- Rows of bits as lists: the n lowest bits of a number, the bits of bytes. No Go text in sight. -/
import Derived.Test.YtlakgbckopjelabDoorG00Read
namespace Go.Proofs.YtlakgbckopjelabDoor
set_option maxRecDepth 100000
open Go.RowKit

/-- The n lowest bits of a number, the lowest first. -/
def bitsN (x : Int) : Nat → List Int
  | 0 => []
  | n + 1 => bitsN x n ++ [x / 2 ^ n % 2]

theorem bitsN_length (x : Int) (n : Nat) : (bitsN x n).length = n := by
  induction n with
  | zero => rfl
  | succ n ih => simp [bitsN, ih]

theorem div_pow_add (x : Int) (m n : Nat) : x / 2 ^ m / 2 ^ n = x / 2 ^ (m + n) := by
  rw [Int.ediv_ediv_of_nonneg (by have := pow_pos' m; omega), ← Int.pow_add]

theorem bitsN_add (x : Int) (m n : Nat) : bitsN x (m + n) = bitsN x m ++ bitsN (x / 2 ^ m) n := by
  induction n with
  | zero => simp [bitsN]
  | succ n ih => rw [← Nat.add_assoc, bitsN, ih, bitsN, div_pow_add, List.append_assoc]

theorem bitsN_mod (x : Int) (n m : Nat) (h : n ≤ m) : bitsN (x % 2 ^ m) n = bitsN x n := by
  induction n with
  | zero => rfl
  | succ n ih => rw [bitsN, bitsN, ih (by omega), bit_mod x m n (by omega)]

theorem bitsN_join (t v : Int) (m n : Nat) (h0 : 0 ≤ t) (h : t < 2 ^ m) : bitsN (t + v % 2 ^ n * 2 ^ m) (m + n) = bitsN t m ++ bitsN v n := by
  have hp := pow_pos' m
  rw [bitsN_add]
  have e1 : (t + v % 2 ^ n * 2 ^ m) / 2 ^ m = v % 2 ^ n := by
    rw [Int.add_mul_ediv_right _ _ (by omega), Int.ediv_eq_zero_of_lt h0 h]; omega
  have e2 : (t + v % 2 ^ n * 2 ^ m) % 2 ^ m = t := by
    rw [Int.add_mul_emod_self_right, Int.emod_eq_of_lt h0 h]
  rw [e1, bitsN_mod v n n (Nat.le_refl _), ← bitsN_mod _ m m (Nat.le_refl _), e2]

/-- The bits of bytes. -/
def rowOf (bs : List Int) : List Int := bs.flatMap fun x => bitsN x 8

theorem rowOf_append (a b : List Int) : rowOf (a ++ b) = rowOf a ++ rowOf b := by simp [rowOf]
theorem rowOf_one (x : Int) : rowOf [x] = bitsN x 8 := by simp [rowOf]
theorem rowOf_length (bs : List Int) : (rowOf bs).length = 8 * bs.length := by
  induction bs with
  | nil => rfl
  | cons x r ih =>
    have e : rowOf (x :: r) = bitsN x 8 ++ rowOf r := by simp [rowOf]
    rw [e, List.length_append, bitsN_length, ih, List.length_cons]; omega

theorem row_step (bs : List Int) (t : Int) (m : Nat) (h : 8 ≤ m) : rowOf bs ++ bitsN t m = rowOf (bs ++ [t % 256]) ++ bitsN (t / 256) (m - 8) := by
  have e : m = 8 + (m - 8) := by omega
  conv => lhs; rw [e, bitsN_add]
  rw [rowOf_append, rowOf_one, List.append_assoc]
  have h1 := bitsN_mod t 8 8 (Nat.le_refl _)
  have e2 : (2 : Int) ^ 8 = 256 := by decide
  rw [e2] at h1 ⊢
  rw [h1]

#print axioms row_step
end Go.Proofs.YtlakgbckopjelabDoor
