/- What is taken of what is merged makes the best lengths: a symbol's length is how many levels take it. No Go text in sight. -/
import Derived.Test.YtdeigchkpakdaaaLCons
namespace Go.Proofs.Ytdeigchkpakdaaa

/-- How many levels take symbol i, where level j takes the first c j. -/
def ll (c : Nat → Nat) (d i : Nat) : Nat := sumD (fun j => if i < c j then 1 else 0) d
theorem ll_le (c : Nat → Nat) (d i : Nat) : ll c d i ≤ d := by
  unfold ll
  induction d with
  | zero => simp [sumD]
  | succ d ih => rw [sumD]; split <;> omega
/-- Weights with lengths. -/
def Zof (A : List Nat) (f : Nat → Nat) : List (Nat × Nat) := (List.range A.length).map fun i => (A.getD i 0, f i)
theorem Zof_length (A : List Nat) (f : Nat → Nat) : (Zof A f).length = A.length := by simp [Zof]
theorem Zof_fst (A : List Nat) (f : Nat → Nat) : (Zof A f).map (·.1) = A := by
  unfold Zof
  rw [List.map_map]
  apply List.ext_getElem?
  intro i
  by_cases h : i < A.length
  · simp [h, List.getD]
  · simp [h]
theorem sum_map_add (l : List Nat) (f g : Nat → Nat) : (l.map fun i => f i + g i).sum = (l.map f).sum + (l.map g).sum := by
  induction l with
  | nil => simp
  | cons x l ih => simp only [List.map_cons, List.sum_cons, ih]; omega
theorem cst_Zof (A : List Nat) (f : Nat → Nat) : cst (Zof A f) = ((List.range A.length).map fun i => A.getD i 0 * f i).sum := by
  unfold cst Zof; rw [List.map_map]; rfl
theorem krf_Zof (L : Nat) (A : List Nat) (f : Nat → Nat) : krf L (Zof A f) = ((List.range A.length).map fun i => 2 ^ (L - f i)).sum := by
  unfold krf Zof; rw [List.map_map]; rfl
theorem sum_if (n c x : Nat) (hc : c ≤ n) : ((List.range n).map fun i => if i < c then x else 0).sum = c * x := by
  induction n generalizing c with
  | zero => have : c = 0 := by omega
            subst this; simp
  | succ n ih =>
    rw [List.range_succ, List.map_append, List.sum_append]
    by_cases h : c ≤ n
    · rw [ih c h]
      have : ¬ n < c := by omega
      simp [this]
    · have hc' : c = n + 1 := by omega
      subst hc'
      have e : ((List.range n).map fun i => if i < n + 1 then x else 0) = (List.range n).map fun i => if i < n then x else 0 := by
        apply List.map_congr_left
        intro i hi
        have : i < n := by simpa using hi
        rw [if_pos (by omega), if_pos this]
      rw [e, ih n (Nat.le_refl _)]
      simp [Nat.add_mul]
theorem pre_sum (A : List Nat) (c : Nat) (hc : c ≤ A.length) : ((List.range A.length).map fun i => A.getD i 0 * if i < c then 1 else 0).sum = pre A c := by
  have key : ∀ n, n ≤ A.length → ((List.range n).map fun i => A.getD i 0 * if i < c then 1 else 0).sum = pre A (min n c) := by
    intro n hn
    induction n with
    | zero => simp [pre_zero]
    | succ n ih =>
      rw [List.range_succ, List.map_append, List.sum_append, ih (by omega)]
      by_cases h : n < c
      · rw [show min n c = n by omega, show min (n + 1) c = n + 1 by omega, pre_succ A n (by omega)]
        simp [h]
      · rw [show min n c = c by omega, show min (n + 1) c = c by omega]
        simp [h]
  have := key A.length (Nat.le_refl _)
  rwa [show min A.length c = c by omega] at this
/-- The cost of such lengths is that of what is taken. -/
theorem cst_ll (A : List Nat) (c : Nat → Nat) (hc : ∀ j, c j ≤ A.length) (d : Nat) : cst (Zof A (ll c d)) = cc A c d := by
  rw [cst_Zof]
  induction d with
  | zero =>
    have : (fun i => A.getD i 0 * ll c 0 i) = fun _ => 0 := by funext i; simp [ll, sumD]
    rw [this, cc]
    have : ∀ l : List Nat, (l.map fun _ => 0).sum = 0 := by intro l; induction l <;> simp_all
    exact this _
  | succ d ih =>
    have e : (fun i => A.getD i 0 * ll c (d + 1) i) = fun i => A.getD i 0 * ll c d i + A.getD i 0 * (if i < c (d + 1) then 1 else 0) := by
      funext i
      rw [← Nat.mul_add]; rfl
    rw [e, sum_map_add, ih, pre_sum A _ (hc _), cc]
/-- One symbol's widths. -/
theorem one_room (c : Nat → Nat) (i d : Nat) : sumD (fun j => if i < c j then 2 ^ j else 0) d + 2 ^ (d + 1 - ll c d i) ≤ 2 ^ (d + 1) := by
  induction d with
  | zero => simp [sumD, ll]
  | succ d ih =>
    have hl := ll_le c d i
    have hle : 2 ^ (d + 1 - ll c d i) ≤ 2 ^ (d + 1) := Nat.pow_le_pow_right (by decide) (by omega)
    have e : ll c (d + 1) i = ll c d i + if i < c (d + 1) then 1 else 0 := rfl
    rw [sumD, e]
    by_cases h : i < c (d + 1)
    · rw [if_pos h, if_pos h, show d + 1 + 1 - (ll c d i + 1) = d + 1 - ll c d i by omega, Nat.pow_succ 2 (d + 1)]
      omega
    · have e5 : d + 1 + 1 - (ll c d i + 0) = (d + 1 - ll c d i) + 1 := by omega
      rw [if_neg h, if_neg h, e5, Nat.pow_succ 2 (d + 1 - ll c d i), Nat.pow_succ 2 (d + 1)]
      omega
theorem sum_le_map (l : List Nat) (f g : Nat → Nat) (h : ∀ i ∈ l, f i ≤ g i) : (l.map f).sum ≤ (l.map g).sum := by
  induction l with
  | nil => simp
  | cons x l ih =>
    have := h x (by simp)
    have := ih (fun i hi => h i (by simp [hi]))
    simp only [List.map_cons, List.sum_cons]; omega
theorem widths (n : Nat) (c : Nat → Nat) (hc : ∀ j, c j ≤ n) (d : Nat) : ((List.range n).map fun i => sumD (fun j => if i < c j then 2 ^ j else 0) d).sum = sumD (fun j => c j * 2 ^ j) d := by
  induction d with
  | zero =>
    have : ∀ l : List Nat, (l.map fun i => sumD (fun j => if i < c j then 2 ^ j else 0) 0).sum = 0 := by intro l; induction l <;> simp_all [sumD]
    exact this _
  | succ d ih =>
    have e : (fun i => sumD (fun j => if i < c j then 2 ^ j else 0) (d + 1)) = fun i => sumD (fun j => if i < c j then 2 ^ j else 0) d + (if i < c (d + 1) then 2 ^ (d + 1) else 0) := rfl
    rw [e, sum_map_add, ih, sum_if n _ _ (hc _), sumD]
/-- What is taken so, with all widths together 2n - 2, are lengths that may be. -/
theorem take_feas (A : List Nat) (c : Nat → Nat) (hc : ∀ j, c j ≤ A.length) (L : Nat) (h2 : 2 ≤ A.length) (hw : sumD (fun j => c j * 2 ^ j) L = (2 * A.length - 2) * 2 ^ L) : Feas L (Zof A (ll c L)) := by
  have hroom : krf L (Zof A (ll c L)) ≤ 2 ^ L := by
    rw [krf_Zof]
    have w := widths A.length c hc L
    have s := sum_le_map (List.range A.length) (fun i => sumD (fun j => if i < c j then 2 ^ j else 0) L + 2 ^ (L + 1 - ll c L i)) (fun _ => 2 ^ (L + 1)) (fun i _ => one_room c i L)
    rw [sum_map_add, w, hw] at s
    have e1 : ((List.range A.length).map fun i => 2 ^ (L + 1 - ll c L i)).sum = 2 * ((List.range A.length).map fun i => 2 ^ (L - ll c L i)).sum := by
      have : ∀ l : List Nat, (l.map fun i => 2 ^ (L + 1 - ll c L i)).sum = 2 * (l.map fun i => 2 ^ (L - ll c L i)).sum := by
        intro l
        induction l with
        | nil => simp
        | cons x l ih =>
          simp only [List.map_cons, List.sum_cons, ih]
          have := ll_le c L x
          rw [show L + 1 - ll c L x = (L - ll c L x) + 1 by omega, Nat.pow_succ]; omega
      exact this _
    have e2 : ∀ l : List Nat, (l.map fun _ => 2 ^ (L + 1)).sum = l.length * 2 ^ (L + 1) := by
      intro l
      induction l with
      | nil => simp
      | cons x l ih => simp only [List.map_cons, List.sum_cons, ih, List.length_cons, Nat.add_mul]; omega
    rw [e1, e2, List.length_range, Nat.pow_succ] at s
    have e3 : (2 * A.length - 2) * 2 ^ L = A.length * (2 ^ L * 2) - 2 * 2 ^ L := by
      rw [Nat.sub_mul, Nat.mul_comm (2 ^ L) 2, ← Nat.mul_assoc, Nat.mul_comm A.length 2]
    have e4 : 2 * 2 ^ L ≤ A.length * (2 ^ L * 2) := by
      have : 1 * (2 ^ L * 2) ≤ A.length * (2 ^ L * 2) := Nat.mul_le_mul_right _ (by omega)
      omega
    omega
  refine ⟨fun z hz => ?_, hroom⟩
  obtain ⟨i, hi, rfl⟩ := List.mem_map.1 hz
  have hi' : i < A.length := by simpa using hi
  refine ⟨?_, ll_le c L i⟩
  by_cases h0 : 1 ≤ ll c L i
  · exact h0
  · exfalso
    have hz0 : ll c L i = 0 := by omega
    rw [krf_Zof] at hroom
    -- two terms at least
    have hp := List.perm_cons_erase hi
    have hs := sum_perm (hp.map fun i => 2 ^ (L - ll c L i))
    rw [List.map_cons, List.sum_cons, hz0, Nat.sub_zero] at hs
    have hne : ((List.range A.length).erase i) ≠ [] := by
      intro e
      have := hp.length_eq
      rw [e] at this
      simp at this; omega
    obtain ⟨y, R, hR⟩ : ∃ y R, (List.range A.length).erase i = y :: R := by
      cases hE : (List.range A.length).erase i with
      | nil => exact absurd hE hne
      | cons y R => exact ⟨y, R, rfl⟩
    rw [hR, List.map_cons, List.sum_cons] at hs
    have := Nat.two_pow_pos (L - ll c L y)
    omega
/-- .. and the best, if they cost as much as the first ones of what is merged. -/
theorem take_best (A : List Nat) (hA : Ris A) (c : Nat → Nat) (hc : ∀ j, c j ≤ A.length) (L : Nat) (h2 : 2 ≤ A.length) (hw : sumD (fun j => c j * 2 ^ j) L = (2 * A.length - 2) * 2 ^ L) (he : cc A c L = pre (pk A L) (2 * A.length - 2)) : Best L (Zof A (ll c L)) := by
  refine ⟨take_feas A c hc L h2 hw, ?_⟩
  rw [cst_ll A c hc L, he, Zof_fst, ov_sorted L (List.Perm.refl A) hA]

/-- How many of the first k of what is laid together come of the first list. -/
def fa : List Nat → List Nat → Nat → Nat
  | _, _, 0 => 0
  | [], _, _ + 1 => 0
  | _ :: A, [], k + 1 => fa A [] k + 1
  | x :: A, y :: B, k + 1 => if x ≤ y then fa A (y :: B) k + 1 else fa (x :: A) B k
theorem fa_all (A : List Nat) (k : Nat) (h : k ≤ A.length) : fa A [] k = k := by
  induction A generalizing k with
  | nil => simp at h; subst h; simp [fa]
  | cons x A ih =>
    cases k with
    | zero => simp [fa]
    | succ k => rw [fa, ih k (by simpa using h)]
theorem fa_nil (B : List Nat) (k : Nat) : fa [] B k = 0 := by cases k <;> simp [fa]
theorem pre_fa (A B : List Nat) (k : Nat) (h : k ≤ A.length + B.length) : fa A B k ≤ A.length ∧ fa A B k ≤ k ∧ k - fa A B k ≤ B.length ∧ pre (mrg A B) k = pre A (fa A B k) + pre B (k - fa A B k) := by
  induction A generalizing B k with
  | nil => rw [fa_nil]; simp [mrg, pre_zero]; simpa using h
  | cons x A ihA =>
    induction B generalizing k with
    | nil =>
      have hk : k ≤ (x :: A).length := by simpa using h
      rw [fa_all (x :: A) k hk]
      simp [mrg, pre_nil]; simpa using hk
    | cons y B ihB =>
      cases k with
      | zero => simp [fa, pre_zero]
      | succ k =>
        rw [fa, mrg]
        by_cases hxy : x ≤ y
        · rw [if_pos hxy, if_pos hxy]
          obtain ⟨a1, a2, a3, a4⟩ := ihA (y :: B) k (by simp at h ⊢; omega)
          refine ⟨by simp; omega, by omega, by omega, ?_⟩
          rw [pre_cons, pre_cons, a4, show k + 1 - (fa A (y :: B) k + 1) = k - fa A (y :: B) k by omega]; omega
        · rw [if_neg hxy, if_neg hxy]
          obtain ⟨a1, a2, a3, a4⟩ := ihB k (by simp at h ⊢; omega)
          refine ⟨a1, by omega, by simp; omega, ?_⟩
          rw [pre_cons, a4, show k + 1 - fa (x :: A) B k = (k - fa (x :: A) B k) + 1 by omega, pre_cons]; omega
/-- The first k of what is merged, level by level. -/
theorem take_chain (A : List Nat) (d k : Nat) (h : k ≤ (pk A d).length) : ∃ c : Nat → Nat, (∀ j, c j ≤ A.length) ∧ pre (pk A d) k = cc A c d ∧ sumD (fun j => c j * 2 ^ j) d = k * 2 ^ d := by
  induction d generalizing k with
  | zero =>
    have : k = 0 := by simpa [pk] using h
    subst this
    exact ⟨fun _ => 0, fun _ => Nat.zero_le _, by simp [pre_zero, cc], by simp [sumD]⟩
  | succ d ih =>
    rw [pk_length] at h
    obtain ⟨a1, a2, a3, a4⟩ := pre_fa A (prs (pk A d)) k (by rw [prs_length]; exact h)
    rw [prs_length] at a3
    obtain ⟨c', b1, b2, b3⟩ := ih (2 * (k - fa A (prs (pk A d)) k)) (by omega)
    have hcc : ∀ e, e ≤ d → cc A (fun j => if j = d + 1 then fa A (prs (pk A d)) k else c' j) e = cc A c' e := by
      intro e he
      induction e with
      | zero => rfl
      | succ e ihe =>
        rw [cc, cc, ihe (by omega)]
        have : ¬ e = d := by omega
        simp [this]
    have hsd : ∀ e, e ≤ d → sumD (fun j => (if j = d + 1 then fa A (prs (pk A d)) k else c' j) * 2 ^ j) e = sumD (fun j => c' j * 2 ^ j) e := by
      intro e he
      induction e with
      | zero => rfl
      | succ e ihe =>
        rw [sumD, sumD, ihe (by omega)]
        have : ¬ e = d := by omega
        simp [this]
    refine ⟨fun j => if j = d + 1 then fa A (prs (pk A d)) k else c' j, fun j => ?_, ?_, ?_⟩
    · by_cases e : j = d + 1
      · simp [e]; exact a1
      · simp [e]; exact b1 j
    · rw [pk, a4, cc, hcc d (Nat.le_refl _), ← b2, pre_prs (pk A d) _ (by omega)]
      simp; omega
    · rw [sumD, hsd d (Nat.le_refl _), b3]
      simp only [if_true]
      rw [Nat.pow_succ, Nat.mul_comm 2 (k - fa A (prs (pk A d)) k), Nat.mul_assoc, Nat.mul_comm 2 (2 ^ d), ← Nat.add_mul]
      congr 1; omega
/-- Where there are enough items the best lengths are there. -/
theorem pk_enough (A : List Nat) (L : Nat) (h1 : 1 ≤ A.length) (hL : A.length ≤ 2 ^ L) : 2 * A.length - 2 ≤ (pk A L).length := by
  have low : ∀ d, 2 * A.length * 2 ^ d ≤ (pk A d).length * 2 ^ d + 2 * A.length + (2 ^ d - 1) := by
    intro d
    induction d with
    | zero => simp [pk]
    | succ d ih =>
      rw [pk_length, Nat.pow_succ]
      have hq : (pk A d).length ≤ 2 * ((pk A d).length / 2) + 1 := by omega
      have hp := Nat.two_pow_pos d
      generalize (pk A d).length / 2 = q at hq ⊢
      have hm : (pk A d).length * 2 ^ d ≤ (2 * q + 1) * 2 ^ d := Nat.mul_le_mul_right _ hq
      have e1 : 2 * A.length * (2 ^ d * 2) = 2 * (2 * A.length * 2 ^ d) := by rw [Nat.mul_comm (2 ^ d) 2, ← Nat.mul_assoc, Nat.mul_comm (2 * A.length) 2, Nat.mul_assoc]
      have e2 : (A.length + q) * (2 ^ d * 2) = 2 * A.length * 2 ^ d + 2 * q * 2 ^ d := by
        rw [Nat.add_mul, Nat.mul_comm (2 ^ d) 2, ← Nat.mul_assoc, ← Nat.mul_assoc, Nat.mul_comm A.length 2, Nat.mul_comm q 2]
      have e3 : (2 * q + 1) * 2 ^ d = 2 * q * 2 ^ d + 2 ^ d := by rw [Nat.add_mul, Nat.one_mul]
      rw [e1, e2]
      omega
  have := low L
  have hp := Nat.two_pow_pos L
  apply Classical.byContradiction
  intro hn
  have hlt : (pk A L).length + 1 ≤ 2 * A.length - 2 := by omega
  have hm : ((pk A L).length + 1) * 2 ^ L ≤ (2 * A.length - 2) * 2 ^ L := Nat.mul_le_mul_right _ hlt
  rw [Nat.add_mul, Nat.one_mul, Nat.sub_mul] at hm
  omega
#print axioms take_best
#print axioms take_chain
#print axioms pk_enough
end Go.Proofs.Ytdeigchkpakdaaa
