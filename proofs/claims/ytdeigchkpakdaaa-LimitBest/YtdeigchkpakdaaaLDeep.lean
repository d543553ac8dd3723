/- One level deeper: what is reached, and at what cost. -/
import Derived.Test.YtdeigchkpakdaaaLTab
namespace Go.Proofs.Ytdeigchkpakdaaa
open Go Go.RowKit

/-- What a table tells of a level: what it says is reached, and what is reached it says, or less. -/
structure TabIs (B : List Nat) (d : Nat) (T : Nat → List Int) : Prop where
  sound : ∀ i k, i ≤ B.length → k ≤ B.length → ln (T i) k < NONE → ∃ c : Nat, ln (T i) k = c ∧ Rch B d i k c
  full : ∀ i k c, i ≤ B.length → k ≤ B.length → Rch B d i k c → ln (T i) k ≤ c
  most : ∀ i k, i ≤ B.length → k ≤ B.length → ln (T i) k ≤ NONE
theorem rch_le {B : List Nat} {d i k c : Nat} (h : Rch B d i k c) (hB : 1 ≤ B.length) : i ≤ B.length ∧ k ≤ B.length := by
  cases d with
  | zero => obtain ⟨rfl, rfl, _⟩ := h; exact ⟨by omega, hB⟩
  | succ d => obtain ⟨i', k', c', t, _, _, _, h1, _, h2, _⟩ := h; omega
theorem lft_le (B : List Nat) (i : Nat) : lft B i ≤ B.sum := by
  unfold lft
  conv => rhs; rw [← List.take_append_drop i B, List.sum_append]
  omega
theorem rch_cost {B : List Nat} {d i k c : Nat} (h : Rch B d i k c) : c ≤ d * B.sum := by
  induction d generalizing i k c with
  | zero => obtain ⟨_, _, rfl⟩ := h; omega
  | succ d ih =>
    obtain ⟨i', k', c', t, hr, _, _, _, _, _, rfl⟩ := h
    have := ih hr
    have := lft_le B i'
    rw [Nat.add_mul, Nat.one_mul]; omega
theorem tab_start (B : List Nat) : TabIs B 0 (T0 B.length) := by
  have hat : ∀ i k, k ≤ B.length → ln (T0 B.length i) k = if i = 0 ∧ k = 1 then 0 else NONE := by
    intro i k hk
    unfold T0
    by_cases hi : i = 0
    · rw [if_pos hi, ln_set _ _ _ (by simp)]
      by_cases hk1 : k = 1
      · rw [if_pos hk1, if_pos ⟨hi, hk1⟩]
      · rw [if_neg hk1, if_neg (fun h => hk1 h.2), ln_in (by simp; omega)]; simp
    · rw [if_neg hi, if_neg (fun h => hi h.1), ln_in (by simp; omega)]; simp
  refine ⟨fun i k _ hk h => ?_, fun i k c _ hk h => ?_, fun i k _ hk => ?_⟩
  · rw [hat i k hk] at h ⊢
    by_cases c : i = 0 ∧ k = 1
    · exact ⟨0, by rw [if_pos c]; rfl, c.1, c.2, rfl⟩
    · rw [if_neg c] at h; omega
  · obtain ⟨rfl, rfl, rfl⟩ := h
    rw [hat 0 1 hk, if_pos ⟨rfl, rfl⟩]; exact Int.le_refl _
  · rw [hat i k hk]
    split
    · unfold NONE; omega
    · exact Int.le_refl _
/-- Which steps are behind: i, k, take in their order. -/
def Lt3 (i' k' t' i k t : Nat) : Prop := i' < i ∨ (i' = i ∧ (k' < k ∨ (k' = k ∧ t' < t)))
/-- A table on the way to the next level. -/
structure Mid (B : List Nat) (d : Nat) (T U : Nat → List Int) (i k t : Nat) : Prop where
  sound : ∀ i k, i ≤ B.length → k ≤ B.length → ln (U i) k < NONE → ∃ c : Nat, ln (U i) k = c ∧ Rch B (d + 1) i k c
  full : ∀ i' k' t' c, Lt3 i' k' t' i k t → Rch B d i' k' c → t' ≤ 2 * k' → i' + t' ≤ B.length → 2 * k' - t' ≤ B.length - (i' + t') → ln (U (i' + t')) (2 * k' - t') ≤ ln (T i') k' + lft B i'
  most : ∀ i k, i ≤ B.length → k ≤ B.length → ln (U i) k ≤ NONE
theorem Mid.start {B : List Nat} {d : Nat} {T U : Nat → List Int} (hU : ∀ i k, i ≤ B.length → k ≤ B.length → ln (U i) k = NONE) : Mid B d T U 0 0 0 :=
  ⟨fun i k hi hk h => by rw [hU i k hi hk] at h; omega, fun i' k' t' c h => by unfold Lt3 at h; omega, fun i k hi hk => by rw [hU i k hi hk]; exact Int.le_refl _⟩
/-- Nothing is told at a state that is not reached. -/
theorem Mid.next_k {B : List Nat} {d : Nat} {T U : Nat → List Int} {i k t : Nat} (h : Mid B d T U i k t) (hn : ∀ t' c, t ≤ t' → Rch B d i k c → t' ≤ 2 * k → i + t' ≤ B.length → False) : Mid B d T U i (k + 1) 0 := by
  refine ⟨h.sound, fun i' k' t' c hl hr h1 h2 h3 => ?_, h.most⟩
  by_cases e : Lt3 i' k' t' i k t
  · exact h.full i' k' t' c e hr h1 h2 h3
  · exfalso
    have ei : i' = i ∧ k' = k ∧ t ≤ t' := by unfold Lt3 at hl e; omega
    obtain ⟨rfl, rfl, ht⟩ := ei
    exact hn t' c ht hr h1 h2
theorem Mid.next_i {B : List Nat} {d : Nat} {T U : Nat → List Int} {i : Nat} (h : Mid B d T U i (B.length + 1) 0) (h1 : 1 ≤ B.length) : Mid B d T U (i + 1) 0 0 := by
  refine ⟨h.sound, fun i' k' t' c hl hr q1 q2 q3 => ?_, h.most⟩
  have := (rch_le hr h1).2
  exact h.full i' k' t' c (by unfold Lt3 at hl ⊢; omega) hr q1 q2 q3
theorem Mid.done {B : List Nat} {d : Nat} {T U : Nat → List Int} (h : Mid B d T U (B.length + 1) 0 0) (hT : TabIs B d T) (h1 : 1 ≤ B.length) : TabIs B (d + 1) U := by
  refine ⟨h.sound, fun i k c hi hk hr => ?_, h.most⟩
  obtain ⟨i', k', c', t, q1, q2, rfl, q3, rfl, q4, rfl⟩ := hr
  have hle := rch_le q1 h1
  have := h.full i' k' t c' (by unfold Lt3; omega) q1 q2 q3 q4
  have := hT.full i' k' c' hle.1 hle.2 q1
  omega
/-- A step that lays nothing. -/
theorem Mid.skip {B : List Nat} {d : Nat} {T U : Nat → List Int} {i k t : Nat} (h : Mid B d T U i k t) (hn : 2 * k - t ≤ B.length - (i + t) → t ≤ 2 * k → i + t ≤ B.length → ln (U (i + t)) (2 * k - t) ≤ ln (T i) k + lft B i) : Mid B d T U i k (t + 1) := by
  refine ⟨h.sound, fun i' k' t' c hl hr q1 q2 q3 => ?_, h.most⟩
  by_cases e : Lt3 i' k' t' i k t
  · exact h.full i' k' t' c e hr q1 q2 q3
  · have ei : i' = i ∧ k' = k ∧ t' = t := by unfold Lt3 at hl e; omega
    obtain ⟨rfl, rfl, rfl⟩ := ei
    exact hn q3 q1 q2
/-- A step that lays a lesser cost. -/
theorem Mid.lay {B : List Nat} {d : Nat} {T U : Nat → List Int} {i k t c : Nat} {V : Nat → List Int} (h : Mid B d T U i k t) (hr : Rch B d i k c) (hc : ln (T i) k = c) (ht : t ≤ 2 * k) (hi : i + t ≤ B.length) (hk : 2 * k - t ≤ B.length - (i + t)) (hlt : ln (T i) k + lft B i < ln (U (i + t)) (2 * k - t))
    (hV : ∀ i' k', i' ≤ B.length → k' ≤ B.length → ln (V i') k' = if i' = i + t ∧ k' = 2 * k - t then ln (T i) k + lft B i else ln (U i') k') : Mid B d T V i k (t + 1) := by
  have hdown : ∀ i' k', i' ≤ B.length → k' ≤ B.length → ln (V i') k' ≤ ln (U i') k' := by
    intro i' k' h1 h2
    rw [hV i' k' h1 h2]
    split
    · rename_i e; obtain ⟨rfl, rfl⟩ := e; omega
    · exact Int.le_refl _
  refine ⟨fun i' k' h1 h2 hn => ?_, fun i' k' t' c' hl hr' q1 q2 q3 => ?_, fun i' k' h1 h2 => Int.le_trans (hdown i' k' h1 h2) (h.most i' k' h1 h2)⟩
  · rw [hV i' k' h1 h2] at hn ⊢
    by_cases e : i' = i + t ∧ k' = 2 * k - t
    · rw [if_pos e] at hn ⊢
      obtain ⟨rfl, rfl⟩ := e
      exact ⟨c + lft B i, by rw [hc]; simp, i, k, c, t, hr, ht, rfl, hi, rfl, hk, rfl⟩
    · rw [if_neg e] at hn ⊢
      exact h.sound i' k' h1 h2 hn
  · by_cases e : Lt3 i' k' t' i k t
    · exact Int.le_trans (hdown _ _ q2 (by omega)) (h.full i' k' t' c' e hr' q1 q2 q3)
    · have ei : i' = i ∧ k' = k ∧ t' = t := by unfold Lt3 at hl e; omega
      obtain ⟨rfl, rfl, rfl⟩ := ei
      rw [hV _ _ q2 (by omega), if_pos ⟨rfl, rfl⟩]; exact Int.le_refl _
#print axioms Mid.lay
end Go.Proofs.Ytdeigchkpakdaaa
