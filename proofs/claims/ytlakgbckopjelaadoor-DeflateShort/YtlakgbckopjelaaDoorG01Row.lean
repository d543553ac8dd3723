/- Several texts, laid together: Read, Row. -/
import Derived.Test.YtlakgbckopjelaaDoorG00World
/- The reader of package bits: contracts of NewReader, Left, nextByte, Align, pieces and its closure. -/
namespace Go.Proofs.YtlakgbckopjelaaDoor
set_option maxRecDepth 100000
open Go.RowKit

/-- The bytes 'zs' lie in memory below block B, where a slice of 'len' elements leads. -/
def Text (B : Nat) (w : World) (a : Option Addr) (len : Nat) (zs : List Int) : Prop :=
  zs.length = len ∧ (∀ i, 0 ≤ zs.getD i 0 ∧ zs.getD i 0 ≤ 255) ∧ (len = 0 ∨ ∃ b off, b < B ∧ a = some ⟨b, off, none⟩ ∧ ∀ i, i < len → w.cell? ⟨b, off + i, none⟩ = some (.int .u8 (zs.getD i 0)))

/-- Bit i of bytes. -/
def bitAt (zs : List Int) (i : Nat) : Int := zs.getD (i / 8) 0 / 2 ^ (i % 8) % 2

/-- The n bits from place p on, as a number. -/
def bitsVal (zs : List Int) (p : Nat) : Nat → Int
  | 0 => 0
  | k + 1 => bitsVal zs p k + bitAt zs (p + k) * 2 ^ k

theorem mod_pow_succ (x : Int) (l : Nat) : x % 2 ^ (l + 1) = x % 2 ^ l + x / 2 ^ l % 2 * 2 ^ l := by
  have hp := pow_pos' l
  have h1 := Int.emod_add_mul_ediv x (2 ^ l)
  have h2 := Int.emod_add_mul_ediv (x / 2 ^ l) 2
  have hr := Int.emod_nonneg x (show (2 : Int) ^ l ≠ 0 by omega)
  have hr2 := Int.emod_lt_of_pos x (show (0 : Int) < 2 ^ l by omega)
  have e : x = (x % 2 ^ l + x / 2 ^ l % 2 * 2 ^ l) + 2 ^ (l + 1) * (x / 2 ^ l / 2) := by
    have e1 : (2 : Int) ^ (l + 1) * (x / 2 ^ l / 2) = 2 ^ l * (2 * (x / 2 ^ l / 2)) := by rw [Int.pow_succ, Int.mul_assoc]
    have e2 : x / 2 ^ l % 2 * 2 ^ l + 2 ^ l * (2 * (x / 2 ^ l / 2)) = 2 ^ l * (x / 2 ^ l) := by
      rw [Int.mul_comm (x / 2 ^ l % 2), ← Int.mul_add, h2]
    rw [e1, Int.add_assoc, e2, h1]
  have hlt : x % 2 ^ l + x / 2 ^ l % 2 * 2 ^ l < 2 ^ (l + 1) := by
    rw [Int.pow_succ]
    have : x / 2 ^ l % 2 = 0 ∨ x / 2 ^ l % 2 = 1 := by omega
    rcases this with e | e <;> rw [e] <;> omega
  have hge : 0 ≤ x % 2 ^ l + x / 2 ^ l % 2 * 2 ^ l := by
    have : x / 2 ^ l % 2 = 0 ∨ x / 2 ^ l % 2 = 1 := by omega
    rcases this with e | e <;> rw [e] <;> omega
  conv => lhs; rw [e]
  rw [Int.add_mul_emod_self_left, Int.emod_eq_of_lt hge hlt]

theorem Text.kept {B : Nat} {M : Nat → Prop} {w w' : World} {a : Option Addr} {len : Nat} {zs : List Int} (h : Text B w a len zs) (k : Kept M w w') (hn : ∀ b, b < B → ¬ M b) : Text B w' a len zs := by
  obtain ⟨h1, h2, h3⟩ := h
  refine ⟨h1, h2, ?_⟩
  rcases h3 with h3 | ⟨b, off, hb, ha, hc⟩
  · exact .inl h3
  · exact .inr ⟨b, off, hb, ha, fun i hi => (k.cell (lt_of_cell (hc i hi)) (hn b hb)).trans (hc i hi)⟩

end Go.Proofs.YtlakgbckopjelaaDoor

/- Rows of bits as lists: the n lowest bits of a number, the bits of bytes. No Go text in sight. -/
namespace Go.Proofs.YtlakgbckopjelaaDoor
set_option maxRecDepth 100000
open Go.RowKit

/-- The n lowest bits of a number, the lowest first. -/
def bitsN (x : Int) : Nat → List Int
  | 0 => []
  | n + 1 => bitsN x n ++ [x / 2 ^ n % 2]

theorem bitsN_length (x : Int) (n : Nat) : (bitsN x n).length = n := by
  induction n with
  | zero => rfl
  | succ n ih => simp [bitsN, ih]

theorem div_pow_add (x : Int) (m n : Nat) : x / 2 ^ m / 2 ^ n = x / 2 ^ (m + n) := by
  rw [Int.ediv_ediv_of_nonneg (by have := pow_pos' m; omega), ← Int.pow_add]

theorem bitsN_add (x : Int) (m n : Nat) : bitsN x (m + n) = bitsN x m ++ bitsN (x / 2 ^ m) n := by
  induction n with
  | zero => simp [bitsN]
  | succ n ih => rw [← Nat.add_assoc, bitsN, ih, bitsN, div_pow_add, List.append_assoc]

theorem bitsN_mod (x : Int) (n m : Nat) (h : n ≤ m) : bitsN (x % 2 ^ m) n = bitsN x n := by
  induction n with
  | zero => rfl
  | succ n ih => rw [bitsN, bitsN, ih (by omega), bit_mod x m n (by omega)]

theorem bitsN_join (t v : Int) (m n : Nat) (h0 : 0 ≤ t) (h : t < 2 ^ m) : bitsN (t + v % 2 ^ n * 2 ^ m) (m + n) = bitsN t m ++ bitsN v n := by
  have hp := pow_pos' m
  rw [bitsN_add]
  have e1 : (t + v % 2 ^ n * 2 ^ m) / 2 ^ m = v % 2 ^ n := by
    rw [Int.add_mul_ediv_right _ _ (by omega), Int.ediv_eq_zero_of_lt h0 h]; omega
  have e2 : (t + v % 2 ^ n * 2 ^ m) % 2 ^ m = t := by
    rw [Int.add_mul_emod_self_right, Int.emod_eq_of_lt h0 h]
  rw [e1, bitsN_mod v n n (Nat.le_refl _), ← bitsN_mod _ m m (Nat.le_refl _), e2]

/-- The bits of bytes. -/
def rowOf (bs : List Int) : List Int := bs.flatMap fun x => bitsN x 8

theorem rowOf_append (a b : List Int) : rowOf (a ++ b) = rowOf a ++ rowOf b := by simp [rowOf]
theorem rowOf_one (x : Int) : rowOf [x] = bitsN x 8 := by simp [rowOf]
theorem rowOf_length (bs : List Int) : (rowOf bs).length = 8 * bs.length := by
  induction bs with
  | nil => rfl
  | cons x r ih =>
    have e : rowOf (x :: r) = bitsN x 8 ++ rowOf r := by simp [rowOf]
    rw [e, List.length_append, bitsN_length, ih, List.length_cons]; omega

theorem row_step (bs : List Int) (t : Int) (m : Nat) (h : 8 ≤ m) : rowOf bs ++ bitsN t m = rowOf (bs ++ [t % 256]) ++ bitsN (t / 256) (m - 8) := by
  have e : m = 8 + (m - 8) := by omega
  conv => lhs; rw [e, bitsN_add]
  rw [rowOf_append, rowOf_one, List.append_assoc]
  have h1 := bitsN_mod t 8 8 (Nat.le_refl _)
  have e2 : (2 : Int) ^ 8 = 256 := by decide
  rw [e2] at h1 ⊢
  rw [h1]

#print axioms row_step
end Go.Proofs.YtlakgbckopjelaaDoor
