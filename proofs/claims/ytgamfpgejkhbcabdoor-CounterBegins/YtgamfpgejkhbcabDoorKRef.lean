/- The reference's bit, Times, Box: contracts. -/
import Derived.Test.YtgamfpgejkhbcabDoorKBase
import Derived.Test.YtgamfpgejkhbcabDoorKBlk
namespace Go.Proofs.YtgamfpgejkhbcabDoor.K
set_option maxRecDepth 100000
open Go Go.RowKit

theorem ofInt64 (a : Nat) (ha : a < 65536) : (BitVec.ofInt 64 (a : Int)).toNat = a := by
  rw [BitVec.ofInt_natCast, BitVec.toNat_ofNat]; exact Nat.mod_eq_of_lt (by omega)
theorem xorI_lt {a b : Nat} (ha : a < 65536) (hb : b < 65536) : a ^^^ b < 65536 := @Nat.xor_lt_two_pow a b 16 ha hb
theorem xorI (a b : Nat) (ha : a < 65536) (hb : b < 65536) : bits .xor .i64 (a : Int) (b : Int) = ((a ^^^ b : Nat) : Int) := by
  have hx := xorI_lt ha hb
  show IntKind.i64.wrap ((BitVec.ofInt 64 (a : Int) ^^^ BitVec.ofInt 64 (b : Int)).toNat : Int) = _
  rw [BitVec.toNat_xor, ofInt64 a ha, ofInt64 b hb, IntKind.wrap_i64]
  omega
theorem andI1 (a : Nat) (ha : a < 65536) : bits .and .i64 (a : Int) 1 = ((a % 2 : Nat) : Int) := by
  show IntKind.i64.wrap ((BitVec.ofInt 64 (a : Int) &&& BitVec.ofInt 64 (1 : Int)).toNat : Int) = _
  rw [BitVec.toNat_and, ofInt64 a ha, show (BitVec.ofInt 64 (1 : Int)).toNat = 1 from rfl, Nat.and_one_is_mod, IntKind.wrap_i64]
  omega
theorem shlI (a i : Nat) (h : a * 2 ^ i < 65536) : wrap64 ((a : Int) * 2 ^ i) = ((a * 2 ^ i : Nat) : Int) := by
  have e : (a : Int) * 2 ^ i = ((a * 2 ^ i : Nat) : Int) := by push_cast; rfl
  rw [e]
  unfold wrap64
  omega
theorem bit_lt (x i : Nat) : bit x i < 2 := Nat.mod_lt _ (by omega)
theorem tmP_lt {a : Nat} (b : Nat) (ha : a < 256) (n : Nat) (hn : n ≤ 8) : tmP a b n < 65536 := by
  induction n with
  | zero => show 0 < 65536; omega
  | succ n ih =>
    refine xorI_lt (ih (by omega)) ?_
    have h1 : 2 ^ n ≤ 128 := Nat.pow_le_pow_right (by omega) (show n ≤ 7 by omega)
    have h2 : a * 2 ^ n ≤ 255 * 128 := Nat.mul_le_mul (by omega) h1
    rcases bit_01 b n with e | e <;> rw [e] <;> omega
theorem tmR_lt {p : Nat} (hp : p < 65536) (n : Nat) (hn : n ≤ 7) : tmR p n < 65536 := by
  induction n with
  | zero => exact hp
  | succ n ih =>
    refine xorI_lt (ih (by omega)) ?_
    have h1 : 2 ^ (6 - n) ≤ 64 := Nat.pow_le_pow_right (by omega) (show 6 - n ≤ 6 by omega)
    rcases bit_01 (tmR p n) (14 - n) with e | e <;> rw [e] <;> omega

end Go.Proofs.YtgamfpgejkhbcabDoor.K
