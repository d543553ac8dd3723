/- The pure functions of package bits and of its reference: which counts fit, the lowest bits, one bit. -/
import Derived.Test.YtibolmgijaploaaDoorMath
namespace Go.Proofs.YtibolmgijaploaaDoor
open Go.RowKit

theorem ret_int {k : IntKind} {a b : Int} (h : a = b) : Ending.returned (.int k a) = .returned (.int k b) := by rw [h]

theorem fits_yes (n : Int) (w : World) (h0 : 0 ≤ n) (h1 : n ≤ 24) :
    Calls Tryd.prog 50 #[.int .i64 n] w fun e w' => e = .returned (.bool true) ∧ w' = w := by
  go_enter Tryd.func50, Tryd.ntmps50
  go_wp2
  go_ret
  exact ⟨rfl, rfl⟩

theorem fits_no (n : Int) (w : World) (h : n < 0 ∨ 24 < n) :
    Calls Tryd.prog 50 #[.int .i64 n] w fun e w' => e = .returned (.bool false) ∧ w' = w := by
  rcases h with h | h
  · go_enter Tryd.func50, Tryd.ntmps50
    go_wp2
    go_ret
    exact ⟨rfl, rfl⟩
  · have h' : 0 ≤ n := by omega
    go_enter Tryd.func50, Tryd.ntmps50
    go_wp2
    go_ret
    refine ⟨?_, rfl⟩
    have hd : decide (n ≤ 24) = false := by simp; omega
    simp [hd]

theorem low_any (v n : Int) (w : World) (h0 : 0 ≤ n) (h1 : n ≤ 24) :
    Calls Tryd.prog 62 #[.int .i64 v, .int .i64 n] w fun e w' => e = .returned (.int .i64 (v % 2 ^ n.toNat)) ∧ w' = w := by
  have e1 : wrap64 (2 ^ n.toNat) = 2 ^ n.toNat := wrap_pow (by omega)
  have e2 : wrap64 (2 ^ n.toNat - 1) = 2 ^ n.toNat - 1 := IntWalk.wrap64_in _ ⟨by have := pow_pos' n.toNat; omega, by have := @pow_le_62 n.toNat (by omega); omega⟩
  have e3 := and_mask v n.toNat (by omega)
  go_enter Tryd.func62, Tryd.ntmps62
  go_wp2
  go_ret
  exact ⟨ret_int rfl, rfl⟩

/-- The first k bits of v, the other way round. -/
def turnI (v : Int) : Nat → Int
  | 0 => 0
  | k + 1 => 2 * turnI v k + v / 2 ^ k % 2

theorem turnI_bd (v : Int) (k : Nat) : 0 ≤ turnI v k ∧ turnI v k < 2 ^ k := by
  induction k with
  | zero => simp [turnI]
  | succ k ih => rw [turnI, Int.pow_succ]; omega

theorem pow_le_24 {k : Nat} (h : k ≤ 24) : (2 : Int) ^ k ≤ 16777216 := by
  have : (2 : Nat) ^ k ≤ 2 ^ 24 := Nat.pow_le_pow_right (by decide) h
  have h2 : ((2 ^ k : Nat) : Int) ≤ ((2 ^ 24 : Nat) : Int) := by exact_mod_cast this
  simpa using h2

theorem turn_join (v : Int) (k : Nat) (h : k ≤ 24) : bits .or .i64 (turnI v k * 2) (bits .and .i64 (v / 2 ^ k) 1) = turnI v (k + 1) := by
  have hb := turnI_bd v k
  have hq := pow_le_24 h
  rw [and_one]
  have := or_add_low (v / 2 ^ k % 2) (turnI v k) 1 (by omega) (by omega) (by omega) (by omega) (by omega)
  simp only [Int.pow_one] at this
  rw [this, turnI]; omega

theorem div_pow_succ (v : Int) (k : Nat) : v / 2 ^ k / 2 = v / 2 ^ (k + 1) := by
  rw [Int.pow_succ, Int.ediv_ediv_of_nonneg (by have := pow_pos' k; omega)]

theorem bit_mod (v : Int) (n j : Nat) (h : j < n) : v % 2 ^ n / 2 ^ j % 2 = v / 2 ^ j % 2 := by
  have hp := pow_pos' j
  have e : (2 : Int) ^ n = 2 ^ j * (2 * 2 ^ (n - j - 1)) := by
    rw [← Int.pow_succ', ← Int.pow_add, show j + (n - j - 1 + 1) = n by omega]
  have d := Int.emod_add_mul_ediv v (2 ^ n)
  have e2 : v = v % 2 ^ n + 2 ^ j * (2 * (2 ^ (n - j - 1) * (v / 2 ^ n))) := by
    have : 2 ^ j * (2 * (2 ^ (n - j - 1) * (v / 2 ^ n))) = 2 ^ n * (v / 2 ^ n) := by rw [e]; simp [Int.mul_assoc]
    rw [this]; exact d.symm
  have e3 : v / 2 ^ j = v % 2 ^ n / 2 ^ j + 2 * (2 ^ (n - j - 1) * (v / 2 ^ n)) := by
    conv => lhs; rw [e2]
    rw [Int.add_mul_ediv_left _ _ (by omega)]
  rw [e3]; omega

theorem turn_bit (v : Int) (n j : Nat) (h : j < n) : turnI v n / 2 ^ j % 2 = v / 2 ^ (n - 1 - j) % 2 := by
  induction n generalizing j with
  | zero => omega
  | succ n ih =>
    rw [turnI]
    cases j with
    | zero => simp
    | succ j =>
      have e : (2 * turnI v n + v / 2 ^ n % 2) / 2 ^ (j + 1) = turnI v n / 2 ^ j := by
        rw [Int.pow_succ', ← Int.ediv_ediv_of_nonneg (by omega)]
        congr 1; omega
      rw [e, ih j (by omega)]
      congr 3; omega

theorem turn_twice_up (v : Int) (n m : Nat) (h : m ≤ n) : turnI (turnI v n) m = v % 2 ^ n / 2 ^ (n - m) := by
  induction m with
  | zero =>
    have hp := pow_pos' n
    simp only [turnI, Nat.sub_zero]
    rw [Int.ediv_eq_zero_of_lt (Int.emod_nonneg _ (by omega)) (Int.emod_lt_of_pos _ (by omega))]
  | succ m ih =>
    rw [turnI, ih (by omega), turn_bit v n m (by omega), show n - m = (n - 1 - m) + 1 by omega, ← div_pow_succ, show n - (m + 1) = n - 1 - m by omega, ← bit_mod v n (n - 1 - m) (by omega)]
    omega

theorem turn_twice (v : Int) (n : Nat) : turnI (turnI v n) n = v % 2 ^ n := by
  rw [turn_twice_up v n n (Nat.le_refl _)]; simp

#print axioms turn_twice
end Go.Proofs.YtibolmgijaploaaDoor
