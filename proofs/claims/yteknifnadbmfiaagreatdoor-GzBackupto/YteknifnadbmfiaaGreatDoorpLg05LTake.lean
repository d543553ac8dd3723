/- Several texts, laid together: LMath, LBound, LCons, LTake. -/
import Derived.Test.YteknifnadbmfiaaGreatDoorRows
/- The best lengths of codes, as plain arithmetic: sums of the first ones of sorted lists; lists merged, and their neighbours paired; no lengths cost less than the first ones of what is merged level by level. No Go text in sight. -/
namespace Go.Proofs.YteknifnadbmfiaaGreatDoor.L
set_option maxRecDepth 100000

def Ris (A : List Nat) : Prop := A.Pairwise (· <= ·)
def pre (A : List Nat) (k : Nat) : Nat := (A.take k).sum

theorem pre_zero (A : List Nat) : pre A 0 = 0 := by simp [pre]
theorem pre_nil (k : Nat) : pre [] k = 0 := by simp [pre]
theorem pre_cons (x : Nat) (A : List Nat) (k : Nat) : pre (x :: A) (k + 1) = x + pre A k := by simp [pre]
theorem pre_succ (A : List Nat) (k : Nat) (h : k < A.length) : pre A (k + 1) = pre A k + A.getD k 0 := by
 unfold pre
 rw [List.take_succ_eq_append_getElem h, List.sum_append]
 have : A.getD k 0 = A[k] := by simp [List.getD, h]
 rw [this]; simp
theorem pre_mono (A : List Nat) {k m : Nat} (h : k <= m) : pre A k <= pre A m := by
 induction A generalizing k m with
 | nil => simp [pre_nil]
 | cons x A ih =>
  cases k with
  | zero => rw [pre_zero]; omega
  | succ k =>
   obtain ⟨m, rfl⟩ : ∃ m', m = m' + 1 := ⟨m - 1, by omega⟩
   rw [pre_cons, pre_cons]
   have := ih (k := k) (m := m) (by omega)
   omega
theorem Ris.tail {x : Nat} {A : List Nat} (h : Ris (x :: A)) : Ris A := (List.pairwise_cons.1 h).2
theorem Ris.head {x : Nat} {A : List Nat} (h : Ris (x :: A)) : ∀ y ∈ A, x <= y := (List.pairwise_cons.1 h).1
theorem Ris.cons {x : Nat} {A : List Nat} (h : Ris A) (hx : ∀ y ∈ A, x <= y) : Ris (x :: A) := List.pairwise_cons.2 ⟨hx, h⟩
theorem pre_more (A : List Nat) (x k : Nat) (hk : k < A.length) (hx : ∀ y ∈ A, x <= y) : x + pre A k <= pre A (k + 1) := by
 rw [pre_succ A k hk]
 have := hx A[k] (List.getElem_mem hk)
 simp [List.getD, hk]
 omega
theorem pre_shift {x : Nat} {A : List Nat} (h : Ris (x :: A)) (k : Nat) (hk : k <= A.length) : pre (x :: A) k <= pre A k := by
 cases k with
 | zero => simp [pre_zero]
 | succ k => rw [pre_cons]; exact pre_more A x k (by omega) h.head

def mrg : List Nat -> List Nat -> List Nat
 | [], B => B
 | x :: A, [] => x :: A
 | x :: A, y :: B => if x <= y then x :: mrg A (y :: B) else y :: mrg (x :: A) B
theorem mrg_nil (A : List Nat) : mrg A [] = A := by cases A <;> simp [mrg]
theorem mrg_length (A B : List Nat) : (mrg A B).length = A.length + B.length := by
 induction A generalizing B with
 | nil => simp [mrg]
 | cons x A ihA =>
  induction B with
  | nil => simp [mrg]
  | cons y B ihB =>
   rw [mrg]
   split
   ·simp [ihA]; omega
   ·simp only [List.length_cons] at ihB ⊢; rw [ihB]; omega
theorem mrg_mem (A B : List Nat) (z : Nat) : z ∈ mrg A B ↔ z ∈ A \/ z ∈ B := by
 induction A generalizing B with
 | nil => simp [mrg]
 | cons x A ihA =>
  induction B with
  | nil => simp [mrg]
  | cons y B ihB =>
   rw [mrg]
   split
   ·rw [List.mem_cons, ihA]; simp only [List.mem_cons]
    constructor
    ·rintro (h | h | h | h) <;> simp [h]
    ·rintro ((h | h) | h | h) <;> simp [h]
   ·rw [List.mem_cons, ihB]; simp only [List.mem_cons]
    constructor
    ·rintro (h | (h | h) | h) <;> simp [h]
    ·rintro ((h | h) | h | h) <;> simp [h]
theorem mrg_ris {A B : List Nat} (hA : Ris A) (hB : Ris B) : Ris (mrg A B) := by
 induction A generalizing B with
 | nil => simpa [mrg] using hB
 | cons x A ihA =>
  induction B with
  | nil => simpa [mrg] using hA
  | cons y B ihB =>
   rw [mrg]
   split
   ·rename_i hxy
    refine (ihA hA.tail hB).cons fun z hz => ?_
    rcases (mrg_mem _ _ _).1 hz with h | h
    ·exact hA.head z h
    ·rcases List.mem_cons.1 h with h | h
     ·omega
     ·have := hB.head z h; omega
   ·rename_i hxy
    refine (ihB hB.tail).cons fun z hz => ?_
    rcases (mrg_mem _ _ _).1 hz with h | h
    ·rcases List.mem_cons.1 h with h | h
     ·omega
     ·have := hA.head z h; omega
    ·exact hB.head z h
theorem pre_mrg {A B : List Nat} (hA : Ris A) (hB : Ris B) (a b : Nat) (ha : a <= A.length) (hb : b <= B.length) : pre (mrg A B) (a + b) <= pre A a + pre B b := by
 induction A generalizing B a b with
 | nil =>
  simp at ha
  subst ha
  simp [mrg, pre_nil]
 | cons x A ihA =>
  induction B generalizing a b with
  | nil =>
   simp at hb
   subst hb
   simp [mrg, pre_nil]
  | cons y B ihB =>
   rw [mrg]
   split
   ·rename_i hxy
    cases a with
    | succ a =>
     rw [show a + 1 + b = (a + b) + 1 by omega, pre_cons, pre_cons]
     have := ihA hA.tail hB a b (by simpa using ha) hb
     omega
    | zero =>
     cases b with
     | zero => simp [pre_zero]
     | succ b =>
      rw [show 0 + (b + 1) = b + 1 by omega, pre_cons, pre_zero]
      have h1 := ihA hA.tail hB 0 b (by omega) (by simp at hb ⊢; omega)
      rw [Nat.zero_add, pre_zero] at h1
      have h2 := pre_more (y :: B) x b (by simp at hb ⊢; omega) (fun z hz => by
       rcases List.mem_cons.1 hz with h | h
       ·omega
       ·have := hB.head z h; omega)
      omega
   ·rename_i hxy
    cases b with
    | succ b =>
     rw [show a + (b + 1) = (a + b) + 1 by omega, pre_cons, pre_cons]
     have := ihB hB.tail a b ha (by simpa using hb)
     omega
    | zero =>
     cases a with
     | zero => simp [pre_zero]
     | succ a =>
      rw [show a + 1 + 0 = a + 1 by omega, pre_cons, pre_zero]
      have h1 := ihB hB.tail a 0 (by simp at ha ⊢; omega) (by omega)
      rw [Nat.add_zero, pre_zero] at h1
      have h2 := pre_more (x :: A) y a (by simp at ha ⊢; omega) (fun z hz => by
       rcases List.mem_cons.1 hz with h | h
       ·omega
       ·have := hA.head z h; omega)
      omega

def prs : List Nat -> List Nat
 | x :: y :: r => (x + y) :: prs r
 | [_] => []
 | [] => []
theorem prs_length : ∀ A : List Nat, (prs A).length = A.length / 2
 | [] => rfl
 | [_] => by simp [prs]
 | x :: y :: r => by rw [prs, List.length_cons, prs_length r]; simp only [List.length_cons]; omega
theorem pre_prs : ∀ (A : List Nat) (m : Nat), 2 * m <= A.length -> pre (prs A) m = pre A (2 * m)
 | [], m, h => by
  have : m = 0 := by simp at h; omega
  subst this; simp [pre_zero]
 | [_], m, h => by
  have : m = 0 := by simp at h; omega
  subst this; simp [pre_zero]
 | x :: y :: r, m, h => by
  cases m with
  | zero => simp [pre_zero]
  | succ m =>
   rw [prs, show 2 * (m + 1) = 2 * m + 1 + 1 by omega, pre_cons, pre_cons, pre_cons, pre_prs r m (by simp at h; omega)]
   omega
theorem prs_le2 : ∀ (A : List Nat) (x : Nat), (∀ y ∈ A, x <= y) -> ∀ y ∈ prs A, 2 * x <= y
 | [], _, _ => by simp [prs]
 | [_], _, _ => by simp [prs]
 | a :: b :: r, x, h => by
  intro y hy
  rw [prs, List.mem_cons] at hy
  rcases hy with hy | hy
  ·have := h a (by simp); have := h b (by simp); omega
  ·exact prs_le2 r x (fun z hz => h z (by simp [hz])) y hy
theorem prs_ris : ∀ {A : List Nat}, Ris A -> Ris (prs A)
 | [], _ => by simp [prs, Ris]
 | [_], _ => by simp [prs, Ris]
 | x :: y :: r, h => by
  rw [prs]
  refine (prs_ris h.tail.tail).cons fun z hz => ?_
  have hy := h.tail.head
  have hx := h.head y (by simp)
  have := prs_le2 r y hy z hz
  omega

def pk (A : List Nat) : Nat -> List Nat
 | 0 => []
 | d + 1 => mrg A (prs (pk A d))
theorem pk_ris {A : List Nat} (h : Ris A) (d : Nat) : Ris (pk A d) := by
 induction d with
 | zero => simp [pk, Ris]
 | succ d ih => exact mrg_ris h (prs_ris ih)
theorem pk_length (A : List Nat) (d : Nat) : (pk A (d + 1)).length = A.length + (pk A d).length / 2 := by
 rw [pk, mrg_length, prs_length]

def tk (c : Nat -> Nat) : Nat -> Nat
 | 0 => 0
 | d + 1 => c (d + 1) + tk c d / 2
def cc (A : List Nat) (c : Nat -> Nat) : Nat -> Nat
 | 0 => 0
 | d + 1 => cc A c d + pre A (c (d + 1))
theorem tk_le (A : List Nat) (c : Nat -> Nat) (hc : ∀ d, c d <= A.length) (d : Nat) : tk c d <= (pk A d).length := by
 induction d with
 | zero => simp [tk]
 | succ d ih =>
  rw [pk_length, tk]
  have := hc (d + 1)
  have : tk c d / 2 <= (pk A d).length / 2 := Nat.div_le_div_right ih
  omega
theorem pk_least {A : List Nat} (hA : Ris A) (c : Nat -> Nat) (hc : ∀ d, c d <= A.length) (d : Nat) : pre (pk A d) (tk c d) <= cc A c d := by
 induction d with
 | zero => simp [tk, pre_zero, cc]
 | succ d ih =>
  rw [pk, tk, cc]
  have hl := tk_le A c hc d
  have h1 := pre_mrg hA (prs_ris (pk_ris hA d)) (c (d + 1)) (tk c d / 2) (hc _) (by rw [prs_length]; exact Nat.div_le_div_right hl)
  rw [pre_prs (pk A d) (tk c d / 2) (by omega)] at h1
  have h2 := pre_mono (pk A d) (show 2 * (tk c d / 2) <= tk c d by omega)
  omega
end Go.Proofs.YteknifnadbmfiaaGreatDoor.L

/- No lengths that may be cost less than the first 2n - 2 of what is merged. No Go text in sight. -/
namespace Go.Proofs.YteknifnadbmfiaaGreatDoor.L
set_option maxRecDepth 100000

def cst (Z : List (Nat × Nat)) : Nat := (Z.map fun z => z.1 * z.2).sum
def krf (L : Nat) (Z : List (Nat × Nat)) : Nat := (Z.map fun z => 2 ^ (L - z.2)).sum
def cge (Z : List (Nat × Nat)) (k : Nat) : Nat := (Z.filter fun z => decide (k <= z.2)).length
def sge (Z : List (Nat × Nat)) (k : Nat) : Nat := ((Z.filter fun z => decide (k <= z.2)).map (·.1)).sum

theorem cst_cons (z : Nat × Nat) (Z : List (Nat × Nat)) : cst (z :: Z) = z.1 * z.2 + cst Z := by simp [cst]
theorem krf_cons (L : Nat) (z : Nat × Nat) (Z : List (Nat × Nat)) : krf L (z :: Z) = 2 ^ (L - z.2) + krf L Z := by simp [krf]
theorem cge_cons (z : Nat × Nat) (Z : List (Nat × Nat)) (k : Nat) : cge (z :: Z) k = (if k <= z.2 then 1 else 0) + cge Z k := by
 unfold cge
 by_cases h : k <= z.2 <;> simp [h]; omega
theorem sge_cons (z : Nat × Nat) (Z : List (Nat × Nat)) (k : Nat) : sge (z :: Z) k = (if k <= z.2 then z.1 else 0) + sge Z k := by
 unfold sge
 by_cases h : k <= z.2 <;> simp [h]
theorem cge_le (Z : List (Nat × Nat)) (k : Nat) : cge Z k <= Z.length := List.length_filter_le _ _

theorem pre_sge {Z : List (Nat × Nat)} (h : Ris (Z.map (·.1))) (k : Nat) : pre (Z.map (·.1)) (cge Z k) <= sge Z k := by
 induction Z with
 | nil => simp [cge, pre_zero]
 | cons z Z ih =>
  have i := ih h.tail
  rw [cge_cons, sge_cons, List.map_cons]
  by_cases hz : k <= z.2
  ·rw [if_pos hz, if_pos hz, Nat.add_comm 1, pre_cons]; omega
  ·rw [if_neg hz, if_neg hz, Nat.zero_add, Nat.zero_add]
   rw [List.map_cons] at h
   have := pre_shift h (cge Z k) (by rw [List.length_map]; exact cge_le Z k)
   omega

def sumD (f : Nat -> Nat) : Nat -> Nat
 | 0 => 0
 | d + 1 => sumD f d + f (d + 1)
theorem sumD_le {f g : Nat -> Nat} (h : ∀ d, f d <= g d) (d : Nat) : sumD f d <= sumD g d := by
 induction d with
 | zero => simp [sumD]
 | succ d ih => rw [sumD, sumD]; have := h (d + 1); omega
theorem sumD_add (f g : Nat -> Nat) (d : Nat) : sumD (fun k => f k + g k) d = sumD f d + sumD g d := by
 induction d with
 | zero => simp [sumD]
 | succ d ih => rw [sumD, sumD, sumD, ih]; omega
theorem cc_sumD (A : List Nat) (c : Nat -> Nat) (d : Nat) : cc A c d = sumD (fun k => pre A (c k)) d := by
 induction d with
 | zero => rfl
 | succ d ih => rw [cc, sumD, ih]

theorem one_w (L l w d : Nat) (hl : l <= L) (hd : d <= L) : sumD (fun k => if L + 1 - k <= l then w else 0) d = w * (d - (L - l)) := by
 induction d with
 | zero => simp [sumD]
 | succ d ih =>
  rw [sumD, ih (by omega)]
  by_cases h : L + 1 - (d + 1) <= l
  ·rw [if_pos h, show d + 1 - (L - l) = (d - (L - l)) + 1 by omega, Nat.mul_succ]
  ·rw [if_neg h, show d + 1 - (L - l) = 0 by omega, show d - (L - l) = 0 by omega, Nat.add_zero]
theorem one_2 (L l d : Nat) (hl : l <= L) (hd : d <= L) (h : L - l <= d) : sumD (fun k => if L + 1 - k <= l then 2 ^ k else 0) d + 2 ^ (L + 1 - l) = 2 ^ (d + 1) := by
 induction d with
 | zero =>
  have : l = L := by omega
  subst this
  simp [sumD]
 | succ d ih =>
  rw [sumD]
  by_cases e : L - l = d + 1
  ·have hz : sumD (fun k => if L + 1 - k <= l then 2 ^ k else 0) d = 0 := by
    have : ∀ j, j <= d -> sumD (fun k => if L + 1 - k <= l then 2 ^ k else 0) j = 0 := by
     intro j hj
     induction j with
     | zero => rfl
     | succ j ihj => rw [sumD, ihj (by omega), if_neg (by omega)]
    exact this d (Nat.le_refl _)
   rw [hz, if_neg (by omega), show L + 1 - l = d + 1 + 1 by omega]; omega
  ·have i := ih (by omega) (by omega)
   rw [if_pos (by omega), Nat.pow_succ 2 (d + 1)]
   omega

theorem cst_levels (L : Nat) (Z : List (Nat × Nat)) (h : ∀ z ∈ Z, z.2 <= L) : sumD (fun d => sge Z (L + 1 - d)) L = cst Z := by
 induction Z with
 | nil =>
  have : ∀ d, sumD (fun d => sge [] (L + 1 - d)) d = 0 := by
   intro d
   induction d with
   | zero => rfl
   | succ d ih => rw [sumD, ih]; simp [sge]
  rw [this]; simp [cst]
 | cons z Z ih =>
  have e : (fun d => sge (z :: Z) (L + 1 - d)) = fun d => (if L + 1 - d <= z.2 then z.1 else 0) + sge Z (L + 1 - d) := by
   funext d; exact sge_cons z Z _
  rw [e, sumD_add, ih (fun y hy => h y (by simp [hy])), one_w L z.2 z.1 L (h z (by simp)) (Nat.le_refl _), cst_cons, show L - (L - z.2) = z.2 by have := h z (by simp); omega]
theorem krf_levels (L : Nat) (Z : List (Nat × Nat)) (h : ∀ z ∈ Z, z.2 <= L) : sumD (fun d => cge Z (L + 1 - d) * 2 ^ d) L + 2 * krf L Z = Z.length * 2 ^ (L + 1) := by
 induction Z with
 | nil =>
  have : ∀ d, sumD (fun d => cge [] (L + 1 - d) * 2 ^ d) d = 0 := by
   intro d
   induction d with
   | zero => rfl
   | succ d ih => rw [sumD, ih]; simp [cge]
  rw [this]; simp [krf]
 | cons z Z ih =>
  have hz := h z (by simp)
  have e : (fun d => cge (z :: Z) (L + 1 - d) * 2 ^ d) = fun d => (if L + 1 - d <= z.2 then 2 ^ d else 0) + cge Z (L + 1 - d) * 2 ^ d := by
   funext d
   rw [cge_cons, Nat.add_mul]
   by_cases h : L + 1 - d <= z.2 <;> simp [h]
  have i := ih (fun y hy => h y (by simp [hy]))
  have o := one_2 L z.2 L hz (Nat.le_refl _) (by omega)
  rw [e, sumD_add, krf_cons, List.length_cons, Nat.add_mul, Nat.one_mul]
  have p : 2 ^ (L + 1 - z.2) = 2 * 2 ^ (L - z.2) := by rw [show L + 1 - z.2 = (L - z.2) + 1 by omega, Nat.pow_succ]; omega
  omega

theorem tk_div (c : Nat -> Nat) (d : Nat) : tk c d = sumD (fun k => c k * 2 ^ k) d / 2 ^ d := by
 induction d with
 | zero => simp [tk, sumD]
 | succ d ih =>
  rw [tk, ih, sumD, Nat.add_mul_div_right _ _ (Nat.two_pow_pos (d + 1)), Nat.pow_succ, <- Nat.div_div_eq_div_mul]
  omega

theorem best_least (L : Nat) (Z : List (Nat × Nat)) (hr : Ris (Z.map (·.1))) (h : ∀ z ∈ Z, z.2 <= L) (hk : krf L Z <= 2 ^ L) : pre (pk (Z.map (·.1)) L) (2 * Z.length - 2) <= cst Z := by
 have hc : ∀ d, (fun d => cge Z (L + 1 - d)) d <= (Z.map (·.1)).length := fun d => by rw [List.length_map]; exact cge_le Z _
 have h1 := pk_least hr (fun d => cge Z (L + 1 - d)) hc L
 have h2 : cc (Z.map (·.1)) (fun d => cge Z (L + 1 - d)) L <= cst Z := by
  rw [cc_sumD, <- cst_levels L Z h]
  exact sumD_le (fun d => pre_sge hr _) L
 have h3 : 2 * Z.length - 2 <= tk (fun d => cge Z (L + 1 - d)) L := by
  rw [tk_div, Nat.le_div_iff_mul_le (Nat.two_pow_pos L)]
  have k := krf_levels L Z h
  rw [Nat.pow_succ] at k
  have e : (2 * Z.length - 2) * 2 ^ L = Z.length * (2 ^ L * 2) - 2 * 2 ^ L := by
   rw [Nat.sub_mul, Nat.mul_comm (2 ^ L) 2, <- Nat.mul_assoc, Nat.mul_comm Z.length 2]
  omega
 have h4 := pre_mono (pk (Z.map (·.1)) L) h3
 omega
#print axioms best_least
end Go.Proofs.YteknifnadbmfiaaGreatDoor.L

/- What follows where lengths are the best: they leave no room over; rarer symbols are not shorter; more bits, another order, twice the weights. No Go text in sight. -/
namespace Go.Proofs.YteknifnadbmfiaaGreatDoor.L
set_option maxRecDepth 100000

theorem Ris.unique {A B : List Nat} (hA : Ris A) (hB : Ris B) (h : A.Perm B) : A = B := by
 induction A generalizing B with
 | nil => exact (List.nil_perm.1 h).symm
 | cons x A ih =>
  cases B with
  | nil => exact absurd h.symm (by simp)
  | cons y B =>
   have hxy : x = y := by
    have h1 : x ∈ y :: B := h.mem_iff.1 (by simp)
    have h2 : y ∈ x :: A := h.mem_iff.2 (by simp)
    rcases List.mem_cons.1 h1 with e | e
    ·exact e
    ·rcases List.mem_cons.1 h2 with f | f
     ·exact f.symm
     ·have := hA.head y f; have := hB.head x e; omega
   subst hxy
   rw [ih hA.tail hB.tail (List.Perm.cons_inv h)]

def insZ (z : Nat × Nat) : List (Nat × Nat) -> List (Nat × Nat)
 | [] => [z]
 | y :: r => if z.1 <= y.1 then z :: y :: r else y :: insZ z r
def srtZ : List (Nat × Nat) -> List (Nat × Nat)
 | [] => []
 | z :: r => insZ z (srtZ r)
theorem insZ_perm (z : Nat × Nat) (Z : List (Nat × Nat)) : (insZ z Z).Perm (z :: Z) := by
 induction Z with
 | nil => exact List.Perm.refl _
 | cons y r ih =>
  rw [insZ]
  split
  ·exact List.Perm.refl _
  ·exact (List.Perm.cons y ih).trans (List.Perm.swap z y r)
theorem srtZ_perm (Z : List (Nat × Nat)) : (srtZ Z).Perm Z := by
 induction Z with
 | nil => exact List.Perm.refl _
 | cons z r ih => exact (insZ_perm z (srtZ r)).trans (List.Perm.cons z ih)
theorem insZ_ris (z : Nat × Nat) (Z : List (Nat × Nat)) (h : Ris (Z.map (·.1))) : Ris ((insZ z Z).map (·.1)) := by
 induction Z with
 | nil => simp [insZ, Ris]
 | cons y r ih =>
  rw [insZ]
  split
  ·rename_i hz
   rw [List.map_cons]
   refine h.cons fun x hx => ?_
   rw [List.map_cons, List.mem_cons] at hx
   rcases hx with e | e
   ·omega
   ·rw [List.map_cons] at h
    have := h.head x e; omega
  ·rename_i hz
   rw [List.map_cons] at h ⊢
   refine (ih h.tail).cons fun x hx => ?_
   have hp := ((insZ_perm z r).map (·.1)).mem_iff.1 hx
   rw [List.map_cons, List.mem_cons] at hp
   rcases hp with e | e
   ·omega
   ·exact h.head x e
theorem srtZ_ris (Z : List (Nat × Nat)) : Ris ((srtZ Z).map (·.1)) := by
 induction Z with
 | nil => simp [srtZ, Ris]
 | cons z r ih => exact insZ_ris z _ ih

theorem sum_perm {A B : List Nat} (h : A.Perm B) : A.sum = B.sum := by
 induction h with
 | nil => rfl
 | cons x _ ih => simp [ih]
 | swap x y l => simp; omega
 | trans _ _ h1 h2 => exact h1.trans h2
theorem cst_perm {Z Y : List (Nat × Nat)} (h : Z.Perm Y) : cst Z = cst Y := sum_perm (h.map _)
theorem krf_perm (L : Nat) {Z Y : List (Nat × Nat)} (h : Z.Perm Y) : krf L Z = krf L Y := sum_perm (h.map _)

structure Feas (L : Nat) (Z : List (Nat × Nat)) : Prop where
 lens : ∀ z ∈ Z, 1 <= z.2 /\ z.2 <= L
 room : krf L Z <= 2 ^ L
theorem Feas.perm {L : Nat} {Z Y : List (Nat × Nat)} (h : Feas L Z) (p : Z.Perm Y) : Feas L Y := ⟨fun z hz => h.lens z (p.mem_iff.2 hz), by rw [<- krf_perm L p]; exact h.room⟩
def ov (L : Nat) (W : List Nat) : Nat := pre (pk ((srtZ (W.map fun w => (w, 0))).map (·.1)) L) (2 * W.length - 2)
theorem map_pair (W : List Nat) : (W.map fun w => (w, 0)).map (·.1) = W := by induction W <;> simp_all
theorem srt_eq {W V : List Nat} (h : W.Perm V) : (srtZ (W.map fun w => (w, 0))).map (·.1) = (srtZ (V.map fun w => (w, 0))).map (·.1) := by
 refine Ris.unique (srtZ_ris _) (srtZ_ris _) ?_
 have p1 := (srtZ_perm (W.map fun w => (w, 0))).map (·.1)
 have p2 := (srtZ_perm (V.map fun w => (w, 0))).map (·.1)
 rw [map_pair] at p1 p2
 exact p1.trans (h.trans p2.symm)
theorem ov_perm (L : Nat) {W V : List Nat} (h : W.Perm V) : ov L W = ov L V := by
 unfold ov; rw [srt_eq h, h.length_eq]
theorem ov_sorted (L : Nat) {W A : List Nat} (h : A.Perm W) (hA : Ris A) : ov L W = pre (pk A L) (2 * A.length - 2) := by
 unfold ov
 have : (srtZ (W.map fun w => (w, 0))).map (·.1) = A := by
  refine Ris.unique (srtZ_ris _) hA ?_
  have p1 := (srtZ_perm (W.map fun w => (w, 0))).map (·.1)
  rw [map_pair] at p1
  exact p1.trans h.symm
 rw [this, h.length_eq]
theorem ov_least {L : Nat} {Z : List (Nat × Nat)} (h : Feas L Z) : ov L (Z.map (·.1)) <= cst Z := by
 have p := srtZ_perm Z
 rw [ov_sorted L (p.map (·.1)) (srtZ_ris Z), <- cst_perm p, List.length_map]
 have f := h.perm p.symm
 exact best_least L (srtZ Z) (srtZ_ris Z) (fun z hz => (f.lens z hz).2) f.room

structure Best (L : Nat) (Z : List (Nat × Nat)) : Prop where
 feas : Feas L Z
 cost : cst Z = ov L (Z.map (·.1))
theorem Best.least {L : Nat} {Z Y : List (Nat × Nat)} (h : Best L Z) (hY : Feas L Y) (p : (Y.map (·.1)).Perm (Z.map (·.1))) : cst Z <= cst Y := by
 rw [h.cost, <- ov_perm L p]; exact ov_least hY

theorem krf_dvd (L m : Nat) (Z : List (Nat × Nat)) (h : ∀ z ∈ Z, z.2 <= m) (hm : m <= L) : 2 ^ (L - m) ∣ krf L Z := by
 induction Z with
 | nil => simp [krf]
 | cons z Z ih =>
  rw [krf_cons]
  refine Nat.dvd_add ?_ (ih (fun y hy => h y (by simp [hy])))
  have := h z (by simp)
  exact Nat.pow_dvd_pow 2 (by omega)
theorem max_at (Z : List (Nat × Nat)) (h : Z ≠ []) : ∃ z R, Z.Perm (z :: R) /\ ∀ y ∈ Z, y.2 <= z.2 := by
 induction Z with
 | nil => exact absurd rfl h
 | cons z Z ih =>
  by_cases hz : Z = []
  ·subst hz
   exact ⟨z, [], List.Perm.refl _, fun y hy => by rw [List.mem_singleton] at hy; subst hy; exact Nat.le_refl _⟩
  ·obtain ⟨u, R, p, hu⟩ := ih hz
   by_cases hc : u.2 <= z.2
   ·exact ⟨z, Z, List.Perm.refl _, fun y hy => by
     rcases List.mem_cons.1 hy with e | e
     ·subst e; exact Nat.le_refl _
     ·have := hu y e; omega⟩
   ·refine ⟨u, z :: R, (List.Perm.cons z p).trans (List.Perm.swap u z R), fun y hy => ?_⟩
    rcases List.mem_cons.1 hy with e | e
    ·subst e; omega
    ·exact hu y e
theorem Best.full {L : Nat} {Z : List (Nat × Nat)} (h : Best L Z) (h2 : 2 <= Z.length) (hw : ∀ z ∈ Z, 0 < z.1) : krf L Z = 2 ^ L := by
 obtain ⟨z, R, p, hmax⟩ := max_at Z (by intro e; subst e; simp at h2)
 have f := h.feas.perm p
 have hz := f.lens z (by simp)
 have hle := h.feas.room
 by_cases hlt : krf L Z < 2 ^ L
 ·exfalso
  have hd := krf_dvd L z.2 Z hmax hz.2
  obtain ⟨q, hq⟩ := hd
  have e : (2 : Nat) ^ L = 2 ^ (L - z.2) * 2 ^ z.2 := by rw [<- Nat.pow_add, show L - z.2 + z.2 = L by omega]
  have hroom : krf L Z + 2 ^ (L - z.2) <= 2 ^ L := by
   rw [hq, e] at hlt
   have := Nat.lt_of_mul_lt_mul_left hlt
   rw [hq, e, <- Nat.mul_succ]
   exact Nat.mul_le_mul_left _ this
  by_cases h1 : z.2 = 1
  ·obtain ⟨y, R', hR⟩ : ∃ y R', R = y :: R' := by
    cases R with
    | nil => have := p.length_eq; simp at this; omega
    | cons y R' => exact ⟨y, R', rfl⟩
   subst hR
   have hy := hmax y (p.mem_iff.2 (by simp))
   have hy1 := f.lens y (by simp)
   rw [krf_perm L p, krf_cons, krf_cons, show y.2 = 1 by omega, h1] at hlt
   have : (2 : Nat) ^ L = 2 ^ (L - 1) + 2 ^ (L - 1) := by
    have e2 : L = (L - 1) + 1 := by omega
    conv => lhs; rw [e2, Nat.pow_succ]
    omega
   omega
  ·have hf' : Feas L ((z.1, z.2 - 1) :: R) := by
    refine ⟨fun y hy => ?_, ?_⟩
    ·rcases List.mem_cons.1 hy with e | e
     ·subst e; simp; omega
     ·exact f.lens y (by simp [e])
    ·rw [krf_perm L p, krf_cons] at hroom
     rw [krf_cons]
     have : 2 ^ (L - (z.2 - 1)) = 2 * 2 ^ (L - z.2) := by rw [show L - (z.2 - 1) = (L - z.2) + 1 by omega, Nat.pow_succ]; omega
     simp only at *
     omega
   have hl := h.least hf' ((p.map (·.1)).symm)
   rw [cst_perm p, cst_cons, cst_cons] at hl
   have hw1 := hw z (p.mem_iff.2 (by simp))
   have : z.1 * z.2 = z.1 * (z.2 - 1) + z.1 := by
    obtain ⟨k, hk⟩ : ∃ k, z.2 = k + 1 := ⟨z.2 - 1, by omega⟩
    rw [hk, Nat.mul_succ]; simp
   simp only at hl
   omega
 ·omega
def dbl (Z : List (Nat × Nat)) : List (Nat × Nat) := Z.map fun z => (2 * z.1, z.2)
theorem cst_dbl (Z : List (Nat × Nat)) : cst (dbl Z) = 2 * cst Z := by
 induction Z with
 | nil => simp [dbl, cst]
 | cons z Z ih =>
  have e : dbl (z :: Z) = (2 * z.1, z.2) :: dbl Z := rfl
  rw [e, cst_cons, cst_cons, ih, Nat.mul_add, Nat.mul_assoc]
theorem krf_dbl (L : Nat) (Z : List (Nat × Nat)) : krf L (dbl Z) = krf L Z := by
 unfold krf dbl; rw [List.map_map]; rfl
theorem Feas.dbl {L : Nat} {Z : List (Nat × Nat)} (h : Feas L Z) : Feas L (dbl Z) := by
 refine ⟨fun z hz => ?_, by rw [krf_dbl]; exact h.room⟩
 obtain ⟨y, hy, rfl⟩ := List.mem_map.1 hz
 exact h.lens y hy
def hlf (Z : List (Nat × Nat)) : List (Nat × Nat) := Z.map fun z => (z.1 / 2, z.2)
theorem Feas.hlf {L : Nat} {Z : List (Nat × Nat)} (h : Feas L Z) : Feas L (hlf Z) := by
 refine ⟨fun z hz => ?_, by unfold krf Go.Proofs.YteknifnadbmfiaaGreatDoor.L.hlf; rw [List.map_map]; exact h.room⟩
 obtain ⟨y, hy, rfl⟩ := List.mem_map.1 hz
 exact h.lens y hy
theorem Best.twice {L : Nat} {Z Y : List (Nat × Nat)} (h : Best L Z) (k : Best L Y) (e : Y.map (·.1) = (Z.map (·.1)).map (2 * ·)) : cst Y = 2 * cst Z := by
 have h1 : cst Y <= cst (dbl Z) := k.least h.feas.dbl (by rw [e]; unfold dbl; rw [List.map_map, List.map_map]; exact List.Perm.refl _)
 rw [cst_dbl] at h1
 have e2 : (hlf Y).map (·.1) = Z.map (·.1) := by
  have : (hlf Y).map (·.1) = (Y.map (·.1)).map (· / 2) := by unfold hlf; rw [List.map_map, List.map_map]; rfl
  rw [this, e, List.map_map]
  have : ((· / 2) ∘ (2 * ·) : Nat -> Nat) = id := by funext x; simp
  rw [this, List.map_id]
 have e3 : dbl (hlf Y) = Y := by
  unfold dbl hlf
  rw [List.map_map]
  conv => rhs; rw [<- List.map_id Y]
  apply List.map_congr_left
  intro z hz
  have hm : z.1 ∈ Y.map (·.1) := List.mem_map.2 ⟨z, hz, rfl⟩
  rw [e] at hm
  obtain ⟨w, _, hw⟩ := List.mem_map.1 hm
  have hw' : 2 * w = z.1 := hw
  simp only [Function.comp, id]
  rw [show 2 * (z.1 / 2) = z.1 by omega]
 have h2 : cst Z <= cst (hlf Y) := h.least k.feas.hlf (by rw [e2])
 have h3 := cst_dbl (hlf Y)
 rw [e3] at h3
 omega
#print axioms Best.twice
#print axioms Best.full
end Go.Proofs.YteknifnadbmfiaaGreatDoor.L

/- What is taken of what is merged makes the best lengths: a symbol's length is how many levels take it. No Go text in sight. -/
namespace Go.Proofs.YteknifnadbmfiaaGreatDoor.L
set_option maxRecDepth 100000

def ll (c : Nat -> Nat) (d i : Nat) : Nat := sumD (fun j => if i < c j then 1 else 0) d
theorem ll_le (c : Nat -> Nat) (d i : Nat) : ll c d i <= d := by
 unfold ll
 induction d with
 | zero => simp [sumD]
 | succ d ih => rw [sumD]; split <;> omega
def Zof (A : List Nat) (f : Nat -> Nat) : List (Nat × Nat) := (List.range A.length).map fun i => (A.getD i 0, f i)
theorem Zof_fst (A : List Nat) (f : Nat -> Nat) : (Zof A f).map (·.1) = A := by
 unfold Zof
 rw [List.map_map]
 apply List.ext_getElem?
 intro i
 by_cases h : i < A.length
 ·simp [h, List.getD]
 ·simp [h]
theorem sum_map_add (l : List Nat) (f g : Nat -> Nat) : (l.map fun i => f i + g i).sum = (l.map f).sum + (l.map g).sum := by
 induction l with
 | nil => simp
 | cons x l ih => simp only [List.map_cons, List.sum_cons, ih]; omega
theorem cst_Zof (A : List Nat) (f : Nat -> Nat) : cst (Zof A f) = ((List.range A.length).map fun i => A.getD i 0 * f i).sum := by
 unfold cst Zof; rw [List.map_map]; rfl
theorem krf_Zof (L : Nat) (A : List Nat) (f : Nat -> Nat) : krf L (Zof A f) = ((List.range A.length).map fun i => 2 ^ (L - f i)).sum := by
 unfold krf Zof; rw [List.map_map]; rfl
theorem sum_if (n c x : Nat) (hc : c <= n) : ((List.range n).map fun i => if i < c then x else 0).sum = c * x := by
 induction n generalizing c with
 | zero => have : c = 0 := by omega
           subst this; simp
 | succ n ih =>
  rw [List.range_succ, List.map_append, List.sum_append]
  by_cases h : c <= n
  ·rw [ih c h]
   have : ¬ n < c := by omega
   simp [this]
  ·have hc' : c = n + 1 := by omega
   subst hc'
   have e : ((List.range n).map fun i => if i < n + 1 then x else 0) = (List.range n).map fun i => if i < n then x else 0 := by
    apply List.map_congr_left
    intro i hi
    have : i < n := by simpa using hi
    rw [if_pos (by omega), if_pos this]
   rw [e, ih n (Nat.le_refl _)]
   simp [Nat.add_mul]
theorem pre_sum (A : List Nat) (c : Nat) (hc : c <= A.length) : ((List.range A.length).map fun i => A.getD i 0 * if i < c then 1 else 0).sum = pre A c := by
 have key : ∀ n, n <= A.length -> ((List.range n).map fun i => A.getD i 0 * if i < c then 1 else 0).sum = pre A (min n c) := by
  intro n hn
  induction n with
  | zero => simp [pre_zero]
  | succ n ih =>
   rw [List.range_succ, List.map_append, List.sum_append, ih (by omega)]
   by_cases h : n < c
   ·rw [show min n c = n by omega, show min (n + 1) c = n + 1 by omega, pre_succ A n (by omega)]
    simp [h]
   ·rw [show min n c = c by omega, show min (n + 1) c = c by omega]
    simp [h]
 have := key A.length (Nat.le_refl _)
 rwa [show min A.length c = c by omega] at this
theorem cst_ll (A : List Nat) (c : Nat -> Nat) (hc : ∀ j, c j <= A.length) (d : Nat) : cst (Zof A (ll c d)) = cc A c d := by
 rw [cst_Zof]
 induction d with
 | zero =>
  have : (fun i => A.getD i 0 * ll c 0 i) = fun _ => 0 := by funext i; simp [ll, sumD]
  rw [this, cc]
  have : ∀ l : List Nat, (l.map fun _ => 0).sum = 0 := by intro l; induction l <;> simp_all
  exact this _
 | succ d ih =>
  have e : (fun i => A.getD i 0 * ll c (d + 1) i) = fun i => A.getD i 0 * ll c d i + A.getD i 0 * (if i < c (d + 1) then 1 else 0) := by
   funext i
   rw [<- Nat.mul_add]; rfl
  rw [e, sum_map_add, ih, pre_sum A _ (hc _), cc]
theorem one_room (c : Nat -> Nat) (i d : Nat) : sumD (fun j => if i < c j then 2 ^ j else 0) d + 2 ^ (d + 1 - ll c d i) <= 2 ^ (d + 1) := by
 induction d with
 | zero => simp [sumD, ll]
 | succ d ih =>
  have hl := ll_le c d i
  have hle : 2 ^ (d + 1 - ll c d i) <= 2 ^ (d + 1) := Nat.pow_le_pow_right (by decide) (by omega)
  have e : ll c (d + 1) i = ll c d i + if i < c (d + 1) then 1 else 0 := rfl
  rw [sumD, e]
  by_cases h : i < c (d + 1)
  ·rw [if_pos h, if_pos h, show d + 1 + 1 - (ll c d i + 1) = d + 1 - ll c d i by omega, Nat.pow_succ 2 (d + 1)]
   omega
  ·have e5 : d + 1 + 1 - (ll c d i + 0) = (d + 1 - ll c d i) + 1 := by omega
   rw [if_neg h, if_neg h, e5, Nat.pow_succ 2 (d + 1 - ll c d i), Nat.pow_succ 2 (d + 1)]
   omega
theorem sum_le_map (l : List Nat) (f g : Nat -> Nat) (h : ∀ i ∈ l, f i <= g i) : (l.map f).sum <= (l.map g).sum := by
 induction l with
 | nil => simp
 | cons x l ih =>
  have := h x (by simp)
  have := ih (fun i hi => h i (by simp [hi]))
  simp only [List.map_cons, List.sum_cons]; omega
theorem widths (n : Nat) (c : Nat -> Nat) (hc : ∀ j, c j <= n) (d : Nat) : ((List.range n).map fun i => sumD (fun j => if i < c j then 2 ^ j else 0) d).sum = sumD (fun j => c j * 2 ^ j) d := by
 induction d with
 | zero =>
  have : ∀ l : List Nat, (l.map fun i => sumD (fun j => if i < c j then 2 ^ j else 0) 0).sum = 0 := by intro l; induction l <;> simp_all [sumD]
  exact this _
 | succ d ih =>
  have e : (fun i => sumD (fun j => if i < c j then 2 ^ j else 0) (d + 1)) = fun i => sumD (fun j => if i < c j then 2 ^ j else 0) d + (if i < c (d + 1) then 2 ^ (d + 1) else 0) := rfl
  rw [e, sum_map_add, ih, sum_if n _ _ (hc _), sumD]
theorem take_feas (A : List Nat) (c : Nat -> Nat) (hc : ∀ j, c j <= A.length) (L : Nat) (h2 : 2 <= A.length) (hw : sumD (fun j => c j * 2 ^ j) L = (2 * A.length - 2) * 2 ^ L) : Feas L (Zof A (ll c L)) := by
 have hroom : krf L (Zof A (ll c L)) <= 2 ^ L := by
  rw [krf_Zof]
  have w := widths A.length c hc L
  have s := sum_le_map (List.range A.length) (fun i => sumD (fun j => if i < c j then 2 ^ j else 0) L + 2 ^ (L + 1 - ll c L i)) (fun _ => 2 ^ (L + 1)) (fun i _ => one_room c i L)
  rw [sum_map_add, w, hw] at s
  have e1 : ((List.range A.length).map fun i => 2 ^ (L + 1 - ll c L i)).sum = 2 * ((List.range A.length).map fun i => 2 ^ (L - ll c L i)).sum := by
   have : ∀ l : List Nat, (l.map fun i => 2 ^ (L + 1 - ll c L i)).sum = 2 * (l.map fun i => 2 ^ (L - ll c L i)).sum := by
    intro l
    induction l with
    | nil => simp
    | cons x l ih =>
     simp only [List.map_cons, List.sum_cons, ih]
     have := ll_le c L x
     rw [show L + 1 - ll c L x = (L - ll c L x) + 1 by omega, Nat.pow_succ]; omega
   exact this _
  have e2 : ∀ l : List Nat, (l.map fun _ => 2 ^ (L + 1)).sum = l.length * 2 ^ (L + 1) := by
   intro l
   induction l with
   | nil => simp
   | cons x l ih => simp only [List.map_cons, List.sum_cons, ih, List.length_cons, Nat.add_mul]; omega
  rw [e1, e2, List.length_range, Nat.pow_succ] at s
  have e3 : (2 * A.length - 2) * 2 ^ L = A.length * (2 ^ L * 2) - 2 * 2 ^ L := by
   rw [Nat.sub_mul, Nat.mul_comm (2 ^ L) 2, <- Nat.mul_assoc, Nat.mul_comm A.length 2]
  have e4 : 2 * 2 ^ L <= A.length * (2 ^ L * 2) := by
   have : 1 * (2 ^ L * 2) <= A.length * (2 ^ L * 2) := Nat.mul_le_mul_right _ (by omega)
   omega
  omega
 refine ⟨fun z hz => ?_, hroom⟩
 obtain ⟨i, hi, rfl⟩ := List.mem_map.1 hz
 have hi' : i < A.length := by simpa using hi
 refine ⟨?_, ll_le c L i⟩
 by_cases h0 : 1 <= ll c L i
 ·exact h0
 ·exfalso
  have hz0 : ll c L i = 0 := by omega
  rw [krf_Zof] at hroom
  -- two terms at least
  have hp := List.perm_cons_erase hi
  have hs := sum_perm (hp.map fun i => 2 ^ (L - ll c L i))
  rw [List.map_cons, List.sum_cons, hz0, Nat.sub_zero] at hs
  have hne : ((List.range A.length).erase i) ≠ [] := by
   intro e
   have := hp.length_eq
   rw [e] at this
   simp at this; omega
  obtain ⟨y, R, hR⟩ : ∃ y R, (List.range A.length).erase i = y :: R := by
   cases hE : (List.range A.length).erase i with
   | nil => exact absurd hE hne
   | cons y R => exact ⟨y, R, rfl⟩
  rw [hR, List.map_cons, List.sum_cons] at hs
  have := Nat.two_pow_pos (L - ll c L y)
  omega
theorem take_best (A : List Nat) (hA : Ris A) (c : Nat -> Nat) (hc : ∀ j, c j <= A.length) (L : Nat) (h2 : 2 <= A.length) (hw : sumD (fun j => c j * 2 ^ j) L = (2 * A.length - 2) * 2 ^ L) (he : cc A c L = pre (pk A L) (2 * A.length - 2)) : Best L (Zof A (ll c L)) := by
 refine ⟨take_feas A c hc L h2 hw, ?_⟩
 rw [cst_ll A c hc L, he, Zof_fst, ov_sorted L (List.Perm.refl A) hA]

def fa : List Nat -> List Nat -> Nat -> Nat
 | _, _, 0 => 0
 | [], _, _ + 1 => 0
 | _ :: A, [], k + 1 => fa A [] k + 1
 | x :: A, y :: B, k + 1 => if x <= y then fa A (y :: B) k + 1 else fa (x :: A) B k
theorem fa_all (A : List Nat) (k : Nat) (h : k <= A.length) : fa A [] k = k := by
 induction A generalizing k with
 | nil => simp at h; subst h; simp [fa]
 | cons x A ih =>
  cases k with
  | zero => simp [fa]
  | succ k => rw [fa, ih k (by simpa using h)]
theorem fa_nil (B : List Nat) (k : Nat) : fa [] B k = 0 := by cases k <;> simp [fa]
theorem pre_fa (A B : List Nat) (k : Nat) (h : k <= A.length + B.length) : fa A B k <= A.length /\ fa A B k <= k /\ k - fa A B k <= B.length /\ pre (mrg A B) k = pre A (fa A B k) + pre B (k - fa A B k) := by
 induction A generalizing B k with
 | nil => rw [fa_nil]; simp [mrg, pre_zero]; simpa using h
 | cons x A ihA =>
  induction B generalizing k with
  | nil =>
   have hk : k <= (x :: A).length := by simpa using h
   rw [fa_all (x :: A) k hk]
   simp [mrg, pre_nil]; simpa using hk
  | cons y B ihB =>
   cases k with
   | zero => simp [fa, pre_zero]
   | succ k =>
    rw [fa, mrg]
    by_cases hxy : x <= y
    ·rw [if_pos hxy, if_pos hxy]
     obtain ⟨a1, a2, a3, a4⟩ := ihA (y :: B) k (by simp at h ⊢; omega)
     refine ⟨by simp; omega, by omega, by omega, ?_⟩
     rw [pre_cons, pre_cons, a4, show k + 1 - (fa A (y :: B) k + 1) = k - fa A (y :: B) k by omega]; omega
    ·rw [if_neg hxy, if_neg hxy]
     obtain ⟨a1, a2, a3, a4⟩ := ihB k (by simp at h ⊢; omega)
     refine ⟨a1, by omega, by simp; omega, ?_⟩
     rw [pre_cons, a4, show k + 1 - fa (x :: A) B k = (k - fa (x :: A) B k) + 1 by omega, pre_cons]; omega
theorem take_chain (A : List Nat) (d k : Nat) (h : k <= (pk A d).length) : ∃ c : Nat -> Nat, (∀ j, c j <= A.length) /\ pre (pk A d) k = cc A c d /\ sumD (fun j => c j * 2 ^ j) d = k * 2 ^ d := by
 induction d generalizing k with
 | zero =>
  have : k = 0 := by simpa [pk] using h
  subst this
  exact ⟨fun _ => 0, fun _ => Nat.zero_le _, by simp [pre_zero, cc], by simp [sumD]⟩
 | succ d ih =>
  rw [pk_length] at h
  obtain ⟨a1, a2, a3, a4⟩ := pre_fa A (prs (pk A d)) k (by rw [prs_length]; exact h)
  rw [prs_length] at a3
  obtain ⟨c', b1, b2, b3⟩ := ih (2 * (k - fa A (prs (pk A d)) k)) (by omega)
  have hcc : ∀ e, e <= d -> cc A (fun j => if j = d + 1 then fa A (prs (pk A d)) k else c' j) e = cc A c' e := by
   intro e he
   induction e with
   | zero => rfl
   | succ e ihe =>
    rw [cc, cc, ihe (by omega)]
    have : ¬ e = d := by omega
    simp [this]
  have hsd : ∀ e, e <= d -> sumD (fun j => (if j = d + 1 then fa A (prs (pk A d)) k else c' j) * 2 ^ j) e = sumD (fun j => c' j * 2 ^ j) e := by
   intro e he
   induction e with
   | zero => rfl
   | succ e ihe =>
    rw [sumD, sumD, ihe (by omega)]
    have : ¬ e = d := by omega
    simp [this]
  refine ⟨fun j => if j = d + 1 then fa A (prs (pk A d)) k else c' j, fun j => ?_, ?_, ?_⟩
  ·by_cases e : j = d + 1
   ·simp [e]; exact a1
   ·simp [e]; exact b1 j
  ·rw [pk, a4, cc, hcc d (Nat.le_refl _), <- b2, pre_prs (pk A d) _ (by omega)]
   simp; omega
  ·rw [sumD, hsd d (Nat.le_refl _), b3]
   simp only [if_true]
   rw [Nat.pow_succ, Nat.mul_comm 2 (k - fa A (prs (pk A d)) k), Nat.mul_assoc, Nat.mul_comm 2 (2 ^ d), <- Nat.add_mul]
   congr 1; omega
theorem pk_enough (A : List Nat) (L : Nat) (h1 : 1 <= A.length) (hL : A.length <= 2 ^ L) : 2 * A.length - 2 <= (pk A L).length := by
 have low : ∀ d, 2 * A.length * 2 ^ d <= (pk A d).length * 2 ^ d + 2 * A.length + (2 ^ d - 1) := by
  intro d
  induction d with
  | zero => simp [pk]
  | succ d ih =>
   rw [pk_length, Nat.pow_succ]
   have hq : (pk A d).length <= 2 * ((pk A d).length / 2) + 1 := by omega
   have hp := Nat.two_pow_pos d
   generalize (pk A d).length / 2 = q at hq ⊢
   have hm : (pk A d).length * 2 ^ d <= (2 * q + 1) * 2 ^ d := Nat.mul_le_mul_right _ hq
   have e1 : 2 * A.length * (2 ^ d * 2) = 2 * (2 * A.length * 2 ^ d) := by rw [Nat.mul_comm (2 ^ d) 2, <- Nat.mul_assoc, Nat.mul_comm (2 * A.length) 2, Nat.mul_assoc]
   have e2 : (A.length + q) * (2 ^ d * 2) = 2 * A.length * 2 ^ d + 2 * q * 2 ^ d := by
    rw [Nat.add_mul, Nat.mul_comm (2 ^ d) 2, <- Nat.mul_assoc, <- Nat.mul_assoc, Nat.mul_comm A.length 2, Nat.mul_comm q 2]
   have e3 : (2 * q + 1) * 2 ^ d = 2 * q * 2 ^ d + 2 ^ d := by rw [Nat.add_mul, Nat.one_mul]
   rw [e1, e2]
   omega
 have := low L
 have hp := Nat.two_pow_pos L
 apply Classical.byContradiction
 intro hn
 have hlt : (pk A L).length + 1 <= 2 * A.length - 2 := by omega
 have hm : ((pk A L).length + 1) * 2 ^ L <= (2 * A.length - 2) * 2 ^ L := Nat.mul_le_mul_right _ hlt
 rw [Nat.add_mul, Nat.one_mul, Nat.sub_mul] at hm
 omega
#print axioms take_best
#print axioms take_chain
#print axioms pk_enough
end Go.Proofs.YteknifnadbmfiaaGreatDoor.L
