/- No lengths that may be cost less than the first 2n - 2 of what is merged. No Go text in sight. -/
import Derived.Test.YtdeigchkpakdaaaLMath
namespace Go.Proofs.Ytdeigchkpakdaaa

/-- Weights and lengths: what they cost. -/
def cst (Z : List (Nat × Nat)) : Nat := (Z.map fun z => z.1 * z.2).sum
/-- How much room they take, out of 2^L. -/
def krf (L : Nat) (Z : List (Nat × Nat)) : Nat := (Z.map fun z => 2 ^ (L - z.2)).sum
/-- How many are at least so long; their weights together. -/
def cge (Z : List (Nat × Nat)) (k : Nat) : Nat := (Z.filter fun z => decide (k ≤ z.2)).length
def sge (Z : List (Nat × Nat)) (k : Nat) : Nat := ((Z.filter fun z => decide (k ≤ z.2)).map (·.1)).sum

theorem cst_cons (z : Nat × Nat) (Z : List (Nat × Nat)) : cst (z :: Z) = z.1 * z.2 + cst Z := by simp [cst]
theorem krf_cons (L : Nat) (z : Nat × Nat) (Z : List (Nat × Nat)) : krf L (z :: Z) = 2 ^ (L - z.2) + krf L Z := by simp [krf]
theorem cge_cons (z : Nat × Nat) (Z : List (Nat × Nat)) (k : Nat) : cge (z :: Z) k = (if k ≤ z.2 then 1 else 0) + cge Z k := by
  unfold cge
  by_cases h : k ≤ z.2 <;> simp [h]; omega
theorem sge_cons (z : Nat × Nat) (Z : List (Nat × Nat)) (k : Nat) : sge (z :: Z) k = (if k ≤ z.2 then z.1 else 0) + sge Z k := by
  unfold sge
  by_cases h : k ≤ z.2 <;> simp [h]
theorem cge_le (Z : List (Nat × Nat)) (k : Nat) : cge Z k ≤ Z.length := List.length_filter_le _ _

/-- Those that are so long weigh at least as much as as many of the lightest. -/
theorem pre_sge {Z : List (Nat × Nat)} (h : Ris (Z.map (·.1))) (k : Nat) : pre (Z.map (·.1)) (cge Z k) ≤ sge Z k := by
  induction Z with
  | nil => simp [cge, pre_zero]
  | cons z Z ih =>
    have i := ih h.tail
    rw [cge_cons, sge_cons, List.map_cons]
    by_cases hz : k ≤ z.2
    · rw [if_pos hz, if_pos hz, Nat.add_comm 1, pre_cons]; omega
    · rw [if_neg hz, if_neg hz, Nat.zero_add, Nat.zero_add]
      rw [List.map_cons] at h
      have := pre_shift h (cge Z k) (by rw [List.length_map]; exact cge_le Z k)
      omega

/-- Sums over levels, the deepest first. -/
def sumD (f : Nat → Nat) : Nat → Nat
  | 0 => 0
  | d + 1 => sumD f d + f (d + 1)
theorem sumD_le {f g : Nat → Nat} (h : ∀ d, f d ≤ g d) (d : Nat) : sumD f d ≤ sumD g d := by
  induction d with
  | zero => simp [sumD]
  | succ d ih => rw [sumD, sumD]; have := h (d + 1); omega
theorem sumD_add (f g : Nat → Nat) (d : Nat) : sumD (fun k => f k + g k) d = sumD f d + sumD g d := by
  induction d with
  | zero => simp [sumD]
  | succ d ih => rw [sumD, sumD, sumD, ih]; omega
theorem cc_sumD (A : List Nat) (c : Nat → Nat) (d : Nat) : cc A c d = sumD (fun k => pre A (c k)) d := by
  induction d with
  | zero => rfl
  | succ d ih => rw [cc, sumD, ih]

/-- One symbol's levels. -/
theorem one_w (L l w d : Nat) (hl : l ≤ L) (hd : d ≤ L) : sumD (fun k => if L + 1 - k ≤ l then w else 0) d = w * (d - (L - l)) := by
  induction d with
  | zero => simp [sumD]
  | succ d ih =>
    rw [sumD, ih (by omega)]
    by_cases h : L + 1 - (d + 1) ≤ l
    · rw [if_pos h, show d + 1 - (L - l) = (d - (L - l)) + 1 by omega, Nat.mul_succ]
    · rw [if_neg h, show d + 1 - (L - l) = 0 by omega, show d - (L - l) = 0 by omega, Nat.add_zero]
theorem one_2 (L l d : Nat) (hl : l ≤ L) (hd : d ≤ L) (h : L - l ≤ d) : sumD (fun k => if L + 1 - k ≤ l then 2 ^ k else 0) d + 2 ^ (L + 1 - l) = 2 ^ (d + 1) := by
  induction d with
  | zero =>
    have : l = L := by omega
    subst this
    simp [sumD]
  | succ d ih =>
    rw [sumD]
    by_cases e : L - l = d + 1
    · have hz : sumD (fun k => if L + 1 - k ≤ l then 2 ^ k else 0) d = 0 := by
        have : ∀ j, j ≤ d → sumD (fun k => if L + 1 - k ≤ l then 2 ^ k else 0) j = 0 := by
          intro j hj
          induction j with
          | zero => rfl
          | succ j ihj => rw [sumD, ihj (by omega), if_neg (by omega)]
        exact this d (Nat.le_refl _)
      rw [hz, if_neg (by omega), show L + 1 - l = d + 1 + 1 by omega]; omega
    · have i := ih (by omega) (by omega)
      rw [if_pos (by omega), Nat.pow_succ 2 (d + 1)]
      omega

/-- The cost, level by level. -/
theorem cst_levels (L : Nat) (Z : List (Nat × Nat)) (h : ∀ z ∈ Z, z.2 ≤ L) : sumD (fun d => sge Z (L + 1 - d)) L = cst Z := by
  induction Z with
  | nil =>
    have : ∀ d, sumD (fun d => sge [] (L + 1 - d)) d = 0 := by
      intro d
      induction d with
      | zero => rfl
      | succ d ih => rw [sumD, ih]; simp [sge]
    rw [this]; simp [cst]
  | cons z Z ih =>
    have e : (fun d => sge (z :: Z) (L + 1 - d)) = fun d => (if L + 1 - d ≤ z.2 then z.1 else 0) + sge Z (L + 1 - d) := by
      funext d; exact sge_cons z Z _
    rw [e, sumD_add, ih (fun y hy => h y (by simp [hy])), one_w L z.2 z.1 L (h z (by simp)) (Nat.le_refl _), cst_cons, show L - (L - z.2) = z.2 by have := h z (by simp); omega]
/-- The room, level by level. -/
theorem krf_levels (L : Nat) (Z : List (Nat × Nat)) (h : ∀ z ∈ Z, z.2 ≤ L) : sumD (fun d => cge Z (L + 1 - d) * 2 ^ d) L + 2 * krf L Z = Z.length * 2 ^ (L + 1) := by
  induction Z with
  | nil =>
    have : ∀ d, sumD (fun d => cge [] (L + 1 - d) * 2 ^ d) d = 0 := by
      intro d
      induction d with
      | zero => rfl
      | succ d ih => rw [sumD, ih]; simp [cge]
    rw [this]; simp [krf]
  | cons z Z ih =>
    have hz := h z (by simp)
    have e : (fun d => cge (z :: Z) (L + 1 - d) * 2 ^ d) = fun d => (if L + 1 - d ≤ z.2 then 2 ^ d else 0) + cge Z (L + 1 - d) * 2 ^ d := by
      funext d
      rw [cge_cons, Nat.add_mul]
      by_cases h : L + 1 - d ≤ z.2 <;> simp [h]
    have i := ih (fun y hy => h y (by simp [hy]))
    have o := one_2 L z.2 L hz (Nat.le_refl _) (by omega)
    rw [e, sumD_add, krf_cons, List.length_cons, Nat.add_mul, Nat.one_mul]
    have p : 2 ^ (L + 1 - z.2) = 2 * 2 ^ (L - z.2) := by rw [show L + 1 - z.2 = (L - z.2) + 1 by omega, Nat.pow_succ]; omega
    omega

theorem tk_div (c : Nat → Nat) (d : Nat) : tk c d = sumD (fun k => c k * 2 ^ k) d / 2 ^ d := by
  induction d with
  | zero => simp [tk, sumD]
  | succ d ih =>
    rw [tk, ih, sumD, Nat.add_mul_div_right _ _ (Nat.two_pow_pos (d + 1)), Nat.pow_succ, ← Nat.div_div_eq_div_mul]
    omega

/-- THE BOUND: lengths of at most L bits that take no more room than there is cost no less than the first 2n - 2 of what is merged. -/
theorem best_least (L : Nat) (Z : List (Nat × Nat)) (hr : Ris (Z.map (·.1))) (h : ∀ z ∈ Z, z.2 ≤ L) (hk : krf L Z ≤ 2 ^ L) : pre (pk (Z.map (·.1)) L) (2 * Z.length - 2) ≤ cst Z := by
  have hc : ∀ d, (fun d => cge Z (L + 1 - d)) d ≤ (Z.map (·.1)).length := fun d => by rw [List.length_map]; exact cge_le Z _
  have h1 := pk_least hr (fun d => cge Z (L + 1 - d)) hc L
  have h2 : cc (Z.map (·.1)) (fun d => cge Z (L + 1 - d)) L ≤ cst Z := by
    rw [cc_sumD, ← cst_levels L Z h]
    exact sumD_le (fun d => pre_sge hr _) L
  have h3 : 2 * Z.length - 2 ≤ tk (fun d => cge Z (L + 1 - d)) L := by
    rw [tk_div, Nat.le_div_iff_mul_le (Nat.two_pow_pos L)]
    have k := krf_levels L Z h
    rw [Nat.pow_succ] at k
    have e : (2 * Z.length - 2) * 2 ^ L = Z.length * (2 ^ L * 2) - 2 * 2 ^ L := by
      rw [Nat.sub_mul, Nat.mul_comm (2 ^ L) 2, ← Nat.mul_assoc, Nat.mul_comm Z.length 2]
    omega
  have h4 := pre_mono (pk (Z.map (·.1)) L) h3
  omega
#print axioms best_least
end Go.Proofs.Ytdeigchkpakdaaa
