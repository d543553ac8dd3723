/- PROVED: arithmetic of a step of the sum, over natural numbers: steps treat each bit alone; what is shifted up by as many bits as there are steps comes back; a number below 2 to the 32nd that is not 0 is not 0 behind any steps. -/
import Derived.WalkKit
namespace Go.Proofs.YtgdhdaaeklfkgaaDoor
open Go

/-- A step. -/
def st (c : Nat) : Nat := if c % 2 = 1 then (c / 2) ^^^ 3988292384 else c / 2
/-- So many steps. -/
def stN : Nat → Nat → Nat
  | 0, c => c
  | n + 1, c => stN n (st c)
/-- Eight steps. -/
def e8 (c : Nat) : Nat := stN 8 c
/-- A byte more. -/
def nx (c x : Nat) : Nat := e8 (c ^^^ x)
/-- Bytes more. -/
def go (c : Nat) (bs : List Nat) : Nat := bs.foldl nx c
/-- All bits turned. -/
def tn (c : Nat) : Nat := 4294967295 - c
/-- The sum goes on. -/
def mr (c : Nat) (bs : List Nat) : Nat := tn (go (tn c) bs)
/-- The bytes as one number, the first lowest. -/
def ms : List Nat → Nat
  | [] => 0
  | x :: r => x ^^^ (ms r * 256)

theorem st_lt {c : Nat} (h : c < 4294967296) : st c < 4294967296 := by
  unfold st
  split
  · have := @Nat.xor_lt_two_pow (c / 2) 3988292384 32 (by omega) (by omega)
    omega
  · omega
theorem stN_lt : ∀ (n : Nat) {c : Nat}, c < 4294967296 → stN n c < 4294967296
  | 0, _, h => h
  | n + 1, _, h => stN_lt n (st_lt h)
theorem e8_lt {c : Nat} (h : c < 4294967296) : e8 c < 4294967296 := stN_lt 8 h
theorem xor_lt {a b : Nat} (ha : a < 4294967296) (hb : b < 4294967296) : a ^^^ b < 4294967296 := by
  have := @Nat.xor_lt_two_pow a b 32 (by omega) (by omega)
  omega
theorem nx_lt {c x : Nat} (h : c < 4294967296) (hx : x < 256) : nx c x < 4294967296 := e8_lt (xor_lt h (by omega))
theorem tn_lt (c : Nat) : tn c < 4294967296 := by unfold tn; omega
theorem go_lt : ∀ (bs : List Nat) {c : Nat}, c < 4294967296 → (∀ x ∈ bs, x < 256) → go c bs < 4294967296
  | [], _, h, _ => h
  | x :: r, _, h, hx => go_lt r (c := nx _ x) (nx_lt h (hx x (by simp))) (fun y hy => hx y (by simp [hy]))
theorem mr_lt (c : Nat) (bs : List Nat) : mr c bs < 4294967296 := tn_lt _

theorem st_xor (a b : Nat) : st (a ^^^ b) = st a ^^^ st b := by
  have hd : (a ^^^ b) / 2 = a / 2 ^^^ b / 2 := Nat.xor_div_two
  have hm : (a ^^^ b) % 2 = (a + b) % 2 := by
    have h1 := @Nat.xor_mod_two_eq_one a b
    rcases Nat.mod_two_eq_zero_or_one (a ^^^ b) with h | h
    · rw [h] at h1 ⊢; omega
    · rw [h] at h1 ⊢; omega
  unfold st
  rw [hd, hm]
  rcases Nat.mod_two_eq_zero_or_one a with ha | ha <;> rcases Nat.mod_two_eq_zero_or_one b with hb | hb
  · rw [if_neg (by omega), if_neg (by omega), if_neg (by omega)]
  · rw [if_pos (by omega), if_neg (by omega), if_pos (by omega), Nat.xor_assoc]
  · rw [if_pos (by omega), if_pos (by omega), if_neg (by omega), Nat.xor_assoc, Nat.xor_assoc, Nat.xor_comm (b / 2)]
  · rw [if_neg (by omega), if_pos (by omega), if_pos (by omega)]
    rw [Nat.xor_assoc, ← Nat.xor_assoc 3988292384, Nat.xor_comm 3988292384, Nat.xor_assoc, Nat.xor_self, Nat.xor_zero]
theorem stN_xor : ∀ (n a b : Nat), stN n (a ^^^ b) = stN n a ^^^ stN n b
  | 0, _, _ => rfl
  | n + 1, a, b => by
    show stN n (st (a ^^^ b)) = stN n (st a) ^^^ stN n (st b)
    rw [st_xor, stN_xor n]
theorem stN_zero : ∀ n, stN n 0 = 0
  | 0 => rfl
  | n + 1 => stN_zero n
theorem stN_add : ∀ (a b c : Nat), stN (a + b) c = stN b (stN a c)
  | 0, b, c => by rw [Nat.zero_add]; rfl
  | a + 1, b, c => by
    rw [Nat.add_right_comm]
    exact stN_add a b (st c)
theorem st_two (m : Nat) : st (m * 2) = m := by
  unfold st
  rw [if_neg (by omega)]
  omega
theorem stN_up : ∀ (n m : Nat), stN n (m * 2 ^ n) = m
  | 0, m => by simp [stN]
  | n + 1, m => by
    show stN n (st (m * 2 ^ (n + 1))) = m
    rw [Nat.pow_succ, ← Nat.mul_assoc, st_two]
    exact stN_up n m
theorem st_ne {c : Nat} (h : c < 4294967296) (h0 : c ≠ 0) : st c ≠ 0 := by
  unfold st
  split
  · intro he
    have : c / 2 = 3988292384 := by
      have h2 := congrArg (· ^^^ 3988292384) he
      simp only [Nat.xor_assoc, Nat.xor_self, Nat.xor_zero, Nat.zero_xor] at h2
      exact h2
    omega
  · omega
theorem stN_ne : ∀ (n : Nat) {c : Nat}, c < 4294967296 → c ≠ 0 → stN n c ≠ 0
  | 0, _, _, h => h
  | n + 1, _, h, h0 => stN_ne n (st_lt h) (st_ne h h0)

theorem low_high (c : Nat) : (c % 256) ^^^ (c / 256 * 256) = c := by
  apply Nat.eq_of_testBit_eq
  intro i
  rw [Nat.testBit_xor]
  have e1 : c % 256 = c % 2 ^ 8 := rfl
  have e2 : c / 256 * 256 = (c / 2 ^ 8) * 2 ^ 8 := rfl
  rw [e1, e2, Nat.testBit_mod_two_pow, Nat.testBit_mul_two_pow, Nat.testBit_div_two_pow]
  by_cases h : i < 8
  · have h' : ¬ 8 ≤ i := by omega
    simp [h, h']
  · have h' : 8 ≤ i := by omega
    simp [h, h', Nat.sub_add_cancel h']
/-- The table's step: what eight steps make of the lowest byte, and the others, moved down. -/
theorem tab_step (c x : Nat) : e8 ((c % 256) ^^^ x) ^^^ (c / 256) = nx c x := by
  unfold nx e8
  have hc : c ^^^ x = ((c % 256) ^^^ x) ^^^ (c / 256 * 256) := by
    rw [Nat.xor_assoc, Nat.xor_comm x, ← Nat.xor_assoc, low_high]
  have hu : stN 8 (c / 256 * 256) = c / 256 := stN_up 8 (c / 256)
  rw [hc, stN_xor 8 (c % 256 ^^^ x), hu]

theorem go_ms : ∀ (bs : List Nat) (c : Nat), go c bs = stN (8 * bs.length) (c ^^^ ms bs)
  | [], c => by simp [go, ms, stN]
  | x :: r, c => by
    show go (nx c x) r = _
    rw [go_ms r, List.length_cons, Nat.mul_add, Nat.mul_one, Nat.add_comm (8 * r.length), stN_add]
    congr 1
    show nx c x ^^^ ms r = stN 8 (c ^^^ (x ^^^ ms r * 256))
    rw [← Nat.xor_assoc, stN_xor]
    congr 1
    exact (stN_up 8 (ms r)).symm

theorem tn_xor {c : Nat} (h : c < 4294967296) : tn c = c ^^^ 4294967295 := by
  have hb : (4294967296 - (c + 1)) = c ^^^ 4294967295 := by
    apply Nat.eq_of_testBit_eq
    intro i
    have e1 : (4294967296 : Nat) - (c + 1) = 2 ^ 32 - (c + 1) := rfl
    have e2 : (4294967295 : Nat) = 2 ^ 32 - 1 := rfl
    rw [e1, Nat.testBit_two_pow_sub_succ (by omega), Nat.testBit_xor, e2, Nat.testBit_two_pow_sub_one]
    by_cases hi : i < 32
    · simp [hi]
    · have : c.testBit i = false := Nat.testBit_lt_two_pow (Nat.lt_of_lt_of_le (show c < 2 ^ 32 by omega) (Nat.pow_le_pow_right (by omega) (by omega)))
      simp [hi, this]
  unfold tn
  omega
theorem tn_tn {c : Nat} (h : c < 4294967296) : tn (tn c) = c := by unfold tn; omega
theorem go_append (c : Nat) (xs ys : List Nat) : go c (xs ++ ys) = go (go c xs) ys := List.foldl_append
theorem mr_append {c : Nat} (xs ys : List Nat) (hx : ∀ x ∈ xs, x < 256) : mr c (xs ++ ys) = mr (mr c xs) ys := by
  unfold mr
  rw [tn_tn (go_lt xs (tn_lt c) hx), go_append]
end Go.Proofs.YtgdhdaaeklfkgaaDoor
