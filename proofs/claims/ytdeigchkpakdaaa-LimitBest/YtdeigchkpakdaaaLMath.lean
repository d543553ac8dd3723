/- The best lengths of codes, as plain arithmetic: sums of the first ones of sorted lists; lists merged, and their neighbours paired; no lengths cost less than the first ones of what is merged level by level. No Go text in sight. -/
import Derived.Test.YtdeigchkpakdaaaRows
namespace Go.Proofs.Ytdeigchkpakdaaa

/-- Rising lists. -/
def Ris (A : List Nat) : Prop := A.Pairwise (· ≤ ·)
/-- The sum of the first k. -/
def pre (A : List Nat) (k : Nat) : Nat := (A.take k).sum

theorem pre_zero (A : List Nat) : pre A 0 = 0 := by simp [pre]
theorem pre_nil (k : Nat) : pre [] k = 0 := by simp [pre]
theorem pre_cons (x : Nat) (A : List Nat) (k : Nat) : pre (x :: A) (k + 1) = x + pre A k := by simp [pre]
theorem pre_succ (A : List Nat) (k : Nat) (h : k < A.length) : pre A (k + 1) = pre A k + A.getD k 0 := by
  unfold pre
  rw [List.take_succ_eq_append_getElem h, List.sum_append]
  have : A.getD k 0 = A[k] := by simp [List.getD, h]
  rw [this]; simp
theorem pre_mono (A : List Nat) {k m : Nat} (h : k ≤ m) : pre A k ≤ pre A m := by
  induction A generalizing k m with
  | nil => simp [pre_nil]
  | cons x A ih =>
    cases k with
    | zero => rw [pre_zero]; omega
    | succ k =>
      obtain ⟨m, rfl⟩ : ∃ m', m = m' + 1 := ⟨m - 1, by omega⟩
      rw [pre_cons, pre_cons]
      have := ih (k := k) (m := m) (by omega)
      omega
theorem Ris.tail {x : Nat} {A : List Nat} (h : Ris (x :: A)) : Ris A := (List.pairwise_cons.1 h).2
theorem Ris.head {x : Nat} {A : List Nat} (h : Ris (x :: A)) : ∀ y ∈ A, x ≤ y := (List.pairwise_cons.1 h).1
theorem Ris.cons {x : Nat} {A : List Nat} (h : Ris A) (hx : ∀ y ∈ A, x ≤ y) : Ris (x :: A) := List.pairwise_cons.2 ⟨hx, h⟩
/-- One more of a rising list is not below what lies ahead of it all. -/
theorem pre_more (A : List Nat) (x k : Nat) (hk : k < A.length) (hx : ∀ y ∈ A, x ≤ y) : x + pre A k ≤ pre A (k + 1) := by
  rw [pre_succ A k hk]
  have := hx A[k] (List.getElem_mem hk)
  simp [List.getD, hk]
  omega
/-- Without its first one a rising list's first k are not below. -/
theorem pre_shift {x : Nat} {A : List Nat} (h : Ris (x :: A)) (k : Nat) (hk : k ≤ A.length) : pre (x :: A) k ≤ pre A k := by
  cases k with
  | zero => simp [pre_zero]
  | succ k => rw [pre_cons]; exact pre_more A x k (by omega) h.head

/-- Two rising lists, laid together. -/
def mrg : List Nat → List Nat → List Nat
  | [], B => B
  | x :: A, [] => x :: A
  | x :: A, y :: B => if x ≤ y then x :: mrg A (y :: B) else y :: mrg (x :: A) B
theorem mrg_nil (A : List Nat) : mrg A [] = A := by cases A <;> simp [mrg]
theorem mrg_length (A B : List Nat) : (mrg A B).length = A.length + B.length := by
  induction A generalizing B with
  | nil => simp [mrg]
  | cons x A ihA =>
    induction B with
    | nil => simp [mrg]
    | cons y B ihB =>
      rw [mrg]
      split
      · simp [ihA]; omega
      · simp only [List.length_cons] at ihB ⊢; rw [ihB]; omega
theorem mrg_mem (A B : List Nat) (z : Nat) : z ∈ mrg A B ↔ z ∈ A ∨ z ∈ B := by
  induction A generalizing B with
  | nil => simp [mrg]
  | cons x A ihA =>
    induction B with
    | nil => simp [mrg]
    | cons y B ihB =>
      rw [mrg]
      split
      · rw [List.mem_cons, ihA]; simp only [List.mem_cons]
        constructor
        · rintro (h | h | h | h) <;> simp [h]
        · rintro ((h | h) | h | h) <;> simp [h]
      · rw [List.mem_cons, ihB]; simp only [List.mem_cons]
        constructor
        · rintro (h | (h | h) | h) <;> simp [h]
        · rintro ((h | h) | h | h) <;> simp [h]
theorem mrg_ris {A B : List Nat} (hA : Ris A) (hB : Ris B) : Ris (mrg A B) := by
  induction A generalizing B with
  | nil => simpa [mrg] using hB
  | cons x A ihA =>
    induction B with
    | nil => simpa [mrg] using hA
    | cons y B ihB =>
      rw [mrg]
      split
      · rename_i hxy
        refine (ihA hA.tail hB).cons fun z hz => ?_
        rcases (mrg_mem _ _ _).1 hz with h | h
        · exact hA.head z h
        · rcases List.mem_cons.1 h with h | h
          · omega
          · have := hB.head z h; omega
      · rename_i hxy
        refine (ihB hB.tail).cons fun z hz => ?_
        rcases (mrg_mem _ _ _).1 hz with h | h
        · rcases List.mem_cons.1 h with h | h
          · omega
          · have := hA.head z h; omega
        · exact hB.head z h
/-- The first ones of both are not below the first ones of what is laid together. -/
theorem pre_mrg {A B : List Nat} (hA : Ris A) (hB : Ris B) (a b : Nat) (ha : a ≤ A.length) (hb : b ≤ B.length) : pre (mrg A B) (a + b) ≤ pre A a + pre B b := by
  induction A generalizing B a b with
  | nil =>
    simp at ha
    subst ha
    simp [mrg, pre_nil]
  | cons x A ihA =>
    induction B generalizing a b with
    | nil =>
      simp at hb
      subst hb
      simp [mrg, pre_nil]
    | cons y B ihB =>
      rw [mrg]
      split
      · rename_i hxy
        cases a with
        | succ a =>
          rw [show a + 1 + b = (a + b) + 1 by omega, pre_cons, pre_cons]
          have := ihA hA.tail hB a b (by simpa using ha) hb
          omega
        | zero =>
          cases b with
          | zero => simp [pre_zero]
          | succ b =>
            rw [show 0 + (b + 1) = b + 1 by omega, pre_cons, pre_zero]
            have h1 := ihA hA.tail hB 0 b (by omega) (by simp at hb ⊢; omega)
            rw [Nat.zero_add, pre_zero] at h1
            have h2 := pre_more (y :: B) x b (by simp at hb ⊢; omega) (fun z hz => by
              rcases List.mem_cons.1 hz with h | h
              · omega
              · have := hB.head z h; omega)
            omega
      · rename_i hxy
        cases b with
        | succ b =>
          rw [show a + (b + 1) = (a + b) + 1 by omega, pre_cons, pre_cons]
          have := ihB hB.tail a b ha (by simpa using hb)
          omega
        | zero =>
          cases a with
          | zero => simp [pre_zero]
          | succ a =>
            rw [show a + 1 + 0 = a + 1 by omega, pre_cons, pre_zero]
            have h1 := ihB hB.tail a 0 (by simp at ha ⊢; omega) (by omega)
            rw [Nat.add_zero, pre_zero] at h1
            have h2 := pre_more (x :: A) y a (by simp at ha ⊢; omega) (fun z hz => by
              rcases List.mem_cons.1 hz with h | h
              · omega
              · have := hA.head z h; omega)
            omega

/-- Neighbours, paired; a last one that has none is left out. -/
def prs : List Nat → List Nat
  | x :: y :: r => (x + y) :: prs r
  | [_] => []
  | [] => []
theorem prs_length : ∀ A : List Nat, (prs A).length = A.length / 2
  | [] => rfl
  | [_] => by simp [prs]
  | x :: y :: r => by rw [prs, List.length_cons, prs_length r]; simp only [List.length_cons]; omega
theorem pre_prs : ∀ (A : List Nat) (m : Nat), 2 * m ≤ A.length → pre (prs A) m = pre A (2 * m)
  | [], m, h => by
    have : m = 0 := by simp at h; omega
    subst this; simp [pre_zero]
  | [_], m, h => by
    have : m = 0 := by simp at h; omega
    subst this; simp [pre_zero]
  | x :: y :: r, m, h => by
    cases m with
    | zero => simp [pre_zero]
    | succ m =>
      rw [prs, show 2 * (m + 1) = 2 * m + 1 + 1 by omega, pre_cons, pre_cons, pre_cons, pre_prs r m (by simp at h; omega)]
      omega
theorem prs_le : ∀ (A : List Nat) (x : Nat), (∀ y ∈ A, x ≤ y) → ∀ y ∈ prs A, x ≤ y
  | [], _, _ => by simp [prs]
  | [_], _, _ => by simp [prs]
  | a :: b :: r, x, h => by
    intro y hy
    rw [prs, List.mem_cons] at hy
    rcases hy with hy | hy
    · have := h a (by simp); omega
    · exact prs_le r x (fun z hz => h z (by simp [hz])) y hy
theorem prs_le2 : ∀ (A : List Nat) (x : Nat), (∀ y ∈ A, x ≤ y) → ∀ y ∈ prs A, 2 * x ≤ y
  | [], _, _ => by simp [prs]
  | [_], _, _ => by simp [prs]
  | a :: b :: r, x, h => by
    intro y hy
    rw [prs, List.mem_cons] at hy
    rcases hy with hy | hy
    · have := h a (by simp); have := h b (by simp); omega
    · exact prs_le2 r x (fun z hz => h z (by simp [hz])) y hy
theorem prs_ris : ∀ {A : List Nat}, Ris A → Ris (prs A)
  | [], _ => by simp [prs, Ris]
  | [_], _ => by simp [prs, Ris]
  | x :: y :: r, h => by
    rw [prs]
    refine (prs_ris h.tail.tail).cons fun z hz => ?_
    have hy := h.tail.head
    have hx := h.head y (by simp)
    have := prs_le2 r y hy z hz
    omega

/-- What is merged, d levels deep. -/
def pk (A : List Nat) : Nat → List Nat
  | 0 => []
  | d + 1 => mrg A (prs (pk A d))
theorem pk_ris {A : List Nat} (h : Ris A) (d : Nat) : Ris (pk A d) := by
  induction d with
  | zero => simp [pk, Ris]
  | succ d ih => exact mrg_ris h (prs_ris ih)
theorem pk_length (A : List Nat) (d : Nat) : (pk A (d + 1)).length = A.length + (pk A d).length / 2 := by
  rw [pk, mrg_length, prs_length]

/-- How many are taken, d levels deep, where each level takes c of the list itself. -/
def tk (c : Nat → Nat) : Nat → Nat
  | 0 => 0
  | d + 1 => c (d + 1) + tk c d / 2
/-- What that costs at least. -/
def cc (A : List Nat) (c : Nat → Nat) : Nat → Nat
  | 0 => 0
  | d + 1 => cc A c d + pre A (c (d + 1))
theorem tk_le (A : List Nat) (c : Nat → Nat) (hc : ∀ d, c d ≤ A.length) (d : Nat) : tk c d ≤ (pk A d).length := by
  induction d with
  | zero => simp [tk]
  | succ d ih =>
    rw [pk_length, tk]
    have := hc (d + 1)
    have : tk c d / 2 ≤ (pk A d).length / 2 := Nat.div_le_div_right ih
    omega
/-- No way of taking costs less than the first ones of what is merged. -/
theorem pk_least {A : List Nat} (hA : Ris A) (c : Nat → Nat) (hc : ∀ d, c d ≤ A.length) (d : Nat) : pre (pk A d) (tk c d) ≤ cc A c d := by
  induction d with
  | zero => simp [tk, pre_zero, cc]
  | succ d ih =>
    rw [pk, tk, cc]
    have hl := tk_le A c hc d
    have h1 := pre_mrg hA (prs_ris (pk_ris hA d)) (c (d + 1)) (tk c d / 2) (hc _) (by rw [prs_length]; exact Nat.div_le_div_right hl)
    rw [pre_prs (pk A d) (tk c d / 2) (by omega)] at h1
    have h2 := pre_mono (pk A d) (show 2 * (tk c d / 2) ≤ tk c d by omega)
    omega
end Go.Proofs.Ytdeigchkpakdaaa
