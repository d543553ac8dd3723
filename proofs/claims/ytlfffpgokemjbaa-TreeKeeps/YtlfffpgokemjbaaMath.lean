/- Plain arithmetic of int's bit operations: masks, joins by 'or', powers of two below 2^62. No Go text in sight. -/
import Derived.Test.YtlfffpgokemjbaaRows
import Derived.WalkKit
namespace Go.Proofs.Ytlfffpgokemjbaa
set_option maxRecDepth 100000
open Go.RowKit

theorem pow_le_62 {n : Nat} (hn : n ≤ 62) : (2 : Int) ^ n ≤ 4611686018427387904 := by
  have : (2 : Nat) ^ n ≤ 2 ^ 62 := Nat.pow_le_pow_right (by decide) hn
  have h2 : ((2 ^ n : Nat) : Int) ≤ ((2 ^ 62 : Nat) : Int) := by exact_mod_cast this
  simpa using h2
theorem pow_pos' (n : Nat) : (1 : Int) ≤ 2 ^ n := by
  have : 0 < (2 : Nat) ^ n := Nat.two_pow_pos n
  have h2 : ((1 : Nat) : Int) ≤ ((2 ^ n : Nat) : Int) := by exact_mod_cast this
  simpa using h2
theorem wrap_pow {n : Nat} (hn : n ≤ 62) : wrap64 (2 ^ n) = 2 ^ n := IntWalk.wrap64_in _ ⟨by have := pow_pos' n; omega, by have := pow_le_62 hn; omega⟩

theorem wrap_i64_small (x : Nat) (h : x < 9223372036854775808) : IntKind.i64.wrap (x : Int) = x := by
  rw [IntKind.wrap_i64]; omega

theorem ofInt_nat (a : Nat) (ha : a < 18446744073709551616) : (BitVec.ofInt 64 (a : Int)).toNat = a := ofInt_u64 a ha

theorem and_mask (v : Int) (n : Nat) (hn : n ≤ 62) : bits .and .i64 v (2 ^ n - 1) = v % 2 ^ n := by
  have hp := Nat.two_pow_pos n
  have hle : (2 : Nat) ^ n ≤ 2 ^ 62 := Nat.pow_le_pow_right (by decide) hn
  have e1 : ((2 : Int) ^ n - 1) = ((2 ^ n - 1 : Nat) : Int) := by
    have : ((2 ^ n : Nat) : Int) = (2 : Int) ^ n := by simp
    omega
  have hb : (BitVec.ofInt 64 ((2 : Int) ^ n - 1)).toNat = 2 ^ n - 1 := by
    rw [e1]; exact ofInt_nat _ (by omega)
  have ha : (BitVec.ofInt 64 v).toNat = (v % 18446744073709551616).toNat := by simp [BitVec.toNat_ofInt]
  have hd : (v % 18446744073709551616) % 2 ^ n = v % 2 ^ n := by
    apply Int.emod_emod_of_dvd
    have : (18446744073709551616 : Int) = 2 ^ n * 2 ^ (64 - n) := by
      rw [← Int.pow_add, show n + (64 - n) = 64 by omega]; rfl
    exact ⟨_, this⟩
  show IntKind.i64.wrap (((BitVec.ofInt 64 v &&& BitVec.ofInt 64 (2 ^ n - 1)).toNat : Nat) : Int) = _
  rw [BitVec.toNat_and, ha, hb, Nat.and_two_pow_sub_one_eq_mod]
  have h0 : 0 ≤ v % 18446744073709551616 := by omega
  have e2 : (((v % 18446744073709551616).toNat % 2 ^ n : Nat) : Int) = v % 2 ^ n := by
    rw [← hd]; push_cast; rw [Int.toNat_of_nonneg h0]
  have hlt : (v % 18446744073709551616).toNat % 2 ^ n < 2 ^ n := Nat.mod_lt _ hp
  rw [wrap_i64_small _ (by omega), e2]

theorem and_one (v : Int) : bits .and .i64 v 1 = v % 2 := by
  have := and_mask v 1 (by decide)
  simpa using this

/-- What lies below 2^n, 'or' what is a multiple of it: the sum. -/
theorem or_add (a b : Int) (n : Nat) (ha0 : 0 ≤ a) (ha : a < 2 ^ n) (hb0 : 0 ≤ b) (hb : b * 2 ^ n < 4611686018427387904) (hn : n ≤ 62) : bits .or .i64 a (b * 2 ^ n) = a + b * 2 ^ n := by
  have hp := Nat.two_pow_pos n
  have hpl := pow_le_62 hn
  have hpp := pow_pos' n
  obtain ⟨A, rfl⟩ := Int.eq_ofNat_of_zero_le ha0
  obtain ⟨B, rfl⟩ := Int.eq_ofNat_of_zero_le hb0
  have e : ((2 ^ n : Nat) : Int) = (2 : Int) ^ n := by simp
  have hA : A < 2 ^ n := by rw [← e] at ha; exact_mod_cast ha
  have e1 : ((B : Int) * 2 ^ n) = ((B * 2 ^ n : Nat) : Int) := by rw [← e, Int.natCast_mul]
  have hB : B * 2 ^ n < 4611686018427387904 := by rw [e1] at hb; exact Int.ofNat_lt.mp hb
  have hA2 : A < 18446744073709551616 := by have : (2 : Nat) ^ n ≤ 2 ^ 62 := Nat.pow_le_pow_right (by decide) hn; omega
  rw [e1]
  show IntKind.i64.wrap (((BitVec.ofInt 64 (A : Int) ||| BitVec.ofInt 64 ((B * 2 ^ n : Nat) : Int)).toNat : Nat) : Int) = _
  rw [BitVec.toNat_or, ofInt_nat A hA2, ofInt_nat _ (by omega), Nat.or_comm, nat_join n (B * 2 ^ n) A (by simp) hA, wrap_i64_small _ (by have : (2 : Nat) ^ n ≤ 2 ^ 62 := Nat.pow_le_pow_right (by decide) hn; omega)]
  exact Int.natCast_add _ _ |>.trans (Int.add_comm _ _)

theorem or_add_low (a b : Int) (n : Nat) (ha0 : 0 ≤ a) (ha : a < 2 ^ n) (hb0 : 0 ≤ b) (hb : b * 2 ^ n < 4611686018427387904) (hn : n ≤ 62) : bits .or .i64 (b * 2 ^ n) a = b * 2 ^ n + a := by
  have h := or_add a b n ha0 ha hb0 hb hn
  have c : bits .or .i64 (b * 2 ^ n) a = bits .or .i64 a (b * 2 ^ n) := by simp only [bits, BitVec.or_comm]
  rw [c, h]; omega

#print axioms and_mask
#print axioms or_add_low
end Go.Proofs.Ytlfffpgokemjbaa
