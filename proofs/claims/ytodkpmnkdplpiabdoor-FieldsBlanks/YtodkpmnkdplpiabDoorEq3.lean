/- PLAIN: what the program's PutSeconds tells is what the reference's tells; and Seconds reads it as it was. -/
import Derived.Test.YtodkpmnkdplpiabDoorEq2
import Derived.Test.YtodkpmnkdplpiabDoorPSP
namespace Go.Proofs.YtodkpmnkdplpiabDoor
open Go
set_option linter.unusedVariables false

/-- So many decimal digits of a number, the highest first. -/
def pad : Nat → Nat → List UInt8
  | 0, _ => []
  | j + 1, P => UInt8.ofNat (48 + P / 10 ^ j) :: pad j (P % 10 ^ j)
theorem pad_snoc : ∀ (j P : Nat), P < 10 ^ (j + 1) → pad (j + 1) P = pad j (P / 10) ++ [UInt8.ofNat (48 + P % 10)]
  | 0, P, h => by
    have : P < 10 := by simpa using h
    simp [pad, Nat.mod_eq_of_lt this]
  | j + 1, P, h => by
    have hlt : P % 10 ^ (j + 1) < 10 ^ (j + 1) := Nat.mod_lt _ (Nat.pow_pos (by decide))
    have ih := pad_snoc j (P % 10 ^ (j + 1)) hlt
    have e1 : P / 10 / 10 ^ j = P / 10 ^ (j + 1) := by rw [Nat.div_div_eq_div_mul, Nat.mul_comm, ← Nat.pow_succ]
    have e2 : P % 10 ^ (j + 1) % 10 = P % 10 := Nat.mod_mod_of_dvd _ ⟨10 ^ j, by rw [Nat.pow_succ, Nat.mul_comm]⟩
    have e3 : P % 10 ^ (j + 1) / 10 = P / 10 % 10 ^ j := by
      rw [Nat.pow_succ, Nat.mul_comm, Nat.mod_mul_right_div_self]
    rw [pad, ih, e2, e3]
    conv => rhs; rw [pad, e1]
    rfl
theorem dec_pad : ∀ (j P : Nat), P < 10 ^ j → Lib.decDigits (10 ^ j + P) = 49 :: pad j P
  | 0, P, h => by
    have : P = 0 := by simpa using h
    subst this
    rw [dec_small (by decide)]
    rfl
  | j + 1, P, h => by
    have hp : 1 ≤ 10 ^ j := Nat.one_le_pow _ _ (by decide)
    have e0 : (10 : Nat) ^ (j + 1) = 10 ^ j * 10 := Nat.pow_succ _ _
    have hd : P / 10 < 10 ^ j := by rw [e0] at h; omega
    rw [dec_big (by rw [e0]; omega), pad_snoc j P h, show (10 ^ (j + 1) + P) / 10 = 10 ^ j + P / 10 by rw [e0]; omega, show (10 ^ (j + 1) + P) % 10 = P % 10 by rw [e0]; omega, dec_pad j (P / 10) hd]
    rfl
/-- The digits till nothing is left. -/
def frj : Nat → Nat → List UInt8
  | 0, _ => []
  | j + 1, P => if P = 0 then [] else UInt8.ofNat (48 + P / 10 ^ j) :: frj j (P % 10 ^ j)
theorem frac_frj : ∀ (j P : Nat), j ≤ 9 → P < 10 ^ j → frac j (P * 10 ^ (9 - j)) = frj j P
  | 0, P, _, _ => rfl
  | j + 1, P, hj, hP => by
    have hpw : (10 : Nat) ^ (9 - (j + 1)) * 10 = 10 ^ (9 - j) := by rw [← Nat.pow_succ]; congr 1; omega
    have hpos : 1 ≤ (10 : Nat) ^ (9 - (j + 1)) := Nat.one_le_pow _ _ (by decide)
    have h9 : (1000000000 : Nat) = 10 ^ j * 10 ^ (9 - j) := by rw [← Nat.pow_add, show j + (9 - j) = 9 by omega]
    unfold frac frj
    by_cases h0 : P = 0
    · subst h0; simp
    · rw [if_neg h0, if_neg (by
        intro e
        rcases Nat.mul_eq_zero.1 e with e | e
        · exact h0 e
        · omega)]
      have e1 : P * 10 ^ (9 - (j + 1)) * 10 = P * 10 ^ (9 - j) := by rw [Nat.mul_assoc, hpw]
      have hpos2 : 0 < (10 : Nat) ^ (9 - j) := Nat.pow_pos (by decide)
      have e2 : P * 10 ^ (9 - j) / 1000000000 = P / 10 ^ j := by rw [h9, Nat.mul_div_mul_right _ _ hpos2]
      have e3 : P * 10 ^ (9 - j) % 1000000000 = P % 10 ^ j * 10 ^ (9 - j) := by rw [h9, Nat.mul_mod_mul_right]
      have hlt : P / 10 ^ j < 10 := Nat.div_lt_of_lt_mul (by rw [Nat.pow_succ] at hP; exact hP)
      rw [e1, e2, e3, frac_frj j (P % 10 ^ j) (by omega) (Nat.mod_lt _ (Nat.pow_pos (by decide))), dec_small hlt]
      rfl
theorem trimB_cons (c : UInt8) (r : List UInt8) : Lib.trimRightB (c :: r) 48 = if Lib.trimRightB r 48 = [] then (if c = 48 then [] else [c]) else c :: Lib.trimRightB r 48 := by
  unfold Lib.trimRightB
  rw [List.reverse_cons, List.dropWhile_append]
  by_cases h : (r.reverse.dropWhile (· == 48)) = []
  · rw [h]
    simp only [List.isEmpty_nil, if_true, List.reverse_nil]
    by_cases hc : c = 48
    · subst hc; rfl
    · rw [if_neg hc, List.dropWhile_cons_of_neg (by simpa using hc)]
      rfl
  · have hne : (r.reverse.dropWhile (· == 48)).isEmpty = false := by simpa using h
    rw [hne]
    simp only [Bool.false_eq_true, if_false, List.reverse_append, List.reverse_cons, List.reverse_nil, List.nil_append]
    rw [if_neg (by simpa using h)]
    rfl
theorem frj_nil (j : Nat) : ∀ P, P < 10 ^ j → (frj j P = [] ↔ P = 0) := by
  intro P hP
  cases j with
  | zero =>
    have : P = 0 := by simpa using hP
    simp [frj, this]
  | succ j =>
    unfold frj
    by_cases h : P = 0
    · simp [h]
    · simp [h]
theorem trim_pad : ∀ (j P : Nat), P < 10 ^ j → Lib.trimRightB (pad j P) 48 = frj j P
  | 0, P, _ => rfl
  | j + 1, P, hP => by
    have hlt : P % 10 ^ j < 10 ^ j := Nat.mod_lt _ (Nat.pow_pos (by decide))
    have hq : P / 10 ^ j < 10 := Nat.div_lt_of_lt_mul (by rw [Nat.pow_succ] at hP; exact hP)
    have hsum := Nat.div_add_mod P (10 ^ j)
    unfold pad frj
    rw [trimB_cons, trim_pad j _ hlt]
    have hc : UInt8.ofNat (48 + P / 10 ^ j) = 48 ↔ P / 10 ^ j = 0 := by
      constructor
      · intro e
        have := congrArg UInt8.toNat e
        rw [byte_lt (by omega)] at this
        have h48 : (48 : UInt8).toNat = 48 := rfl
        omega
      · intro e; rw [e]; rfl
    by_cases hr : frj j (P % 10 ^ j) = []
    · have hm := (frj_nil j _ hlt).1 hr
      rw [if_pos hr]
      by_cases h0 : P / 10 ^ j = 0
      · have hP0 : P = 0 := by rw [h0, hm] at hsum; simpa using hsum.symm
        rw [if_pos (hc.2 h0), if_pos hP0]
      · rw [if_neg (fun e => h0 (hc.1 e)), if_neg (by intro e; rw [e] at h0; simp at h0), hr]
    · have hP0 : ¬ P = 0 := by
        intro e
        apply hr
        rw [e]
        exact (frj_nil j _ (by rw [← e]; exact hlt)).2 (by simp)
      rw [if_neg hr, if_neg hP0]
theorem trim_nine (P : Nat) (hP : P < 1000000000) : Lib.trimRightB ((Lib.decDigits (1000000000 + P)).drop 1) 48 = frac 9 P := by
  have h9 : (1000000000 : Nat) = 10 ^ 9 := by decide
  rw [h9, dec_pad 9 P (by rw [← h9]; exact hP), List.drop_one, List.tail_cons, trim_pad 9 P (by rw [← h9]; exact hP)]
  have := frac_frj 9 P (by omega) (by rw [← h9]; exact hP)
  rw [Nat.sub_self, Nat.pow_zero, Nat.mul_one] at this
  exact this.symm
theorem ps_eqU (u : Nat) : psQ u = psU u := by
  unfold psQ psU
  by_cases h : u % 1000000000 = 0
  · rw [if_pos h, if_pos h]
  · rw [if_neg h, if_neg h, trim_nine _ (Nat.mod_lt _ (by decide))]
    rfl
theorem ps_eq (t : Int) : psP t = psR t := by
  unfold psP psR
  rw [ps_eqU]
end Go.Proofs.YtodkpmnkdplpiabDoor
