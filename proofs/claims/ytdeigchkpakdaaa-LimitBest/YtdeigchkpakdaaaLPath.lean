/- The reference's way to the least cost: level by level, so many symbols done, so many nodes open: what it reaches are lengths, and the best lengths are reached. No Go text in sight. -/
import Derived.Test.YtdeigchkpakdaaaLCons
namespace Go.Proofs.Ytdeigchkpakdaaa

/-- What those cost once that are not done when i are. -/
def lft (B : List Nat) (i : Nat) : Nat := (B.drop i).sum
/-- At level d, i symbols done, k nodes open, at the cost c. -/
def Rch (B : List Nat) : Nat → Nat → Nat → Nat → Prop
  | 0, i, k, c => i = 0 ∧ k = 1 ∧ c = 0
  | d + 1, i, k, c => ∃ i' k' c' t, Rch B d i' k' c' ∧ t ≤ 2 * k' ∧ i = i' + t ∧ i ≤ B.length ∧ k = 2 * k' - t ∧ k ≤ B.length - i ∧ c = c' + lft B i'

theorem lft_add (B : List Nat) (i t : Nat) : lft B i = ((B.drop i).take t).sum + lft B (i + t) := by
  unfold lft
  conv => lhs; rw [← List.take_append_drop t (B.drop i), List.sum_append, List.drop_drop]
theorem cst_append (Z Y : List (Nat × Nat)) : cst (Z ++ Y) = cst Z + cst Y := by simp [cst]
theorem krf_append (L : Nat) (Z Y : List (Nat × Nat)) : krf L (Z ++ Y) = krf L Z + krf L Y := by simp [krf]
theorem cst_same (W : List Nat) (l : Nat) : cst (W.map fun w => (w, l)) = W.sum * l := by
  induction W with
  | nil => simp [cst]
  | cons w W ih => rw [List.map_cons, cst_cons, ih, List.sum_cons, Nat.add_mul]
theorem krf_same (L : Nat) (W : List Nat) (l : Nat) : krf L (W.map fun w => (w, l)) = W.length * 2 ^ (L - l) := by
  induction W with
  | nil => simp [krf]
  | cons w W ih => rw [List.map_cons, krf_cons, ih, List.length_cons, Nat.add_mul, Nat.one_mul, Nat.add_comm]

/-- What is reached are lengths. -/
theorem Rch.lens {B : List Nat} {L d i k c : Nat} (h : Rch B d i k c) (hd : d ≤ L) : i ≤ B.length ∧ ∃ Z : List (Nat × Nat), Z.map (·.1) = B.take i ∧ (∀ z ∈ Z, 1 ≤ z.2 ∧ z.2 ≤ d) ∧ k * 2 ^ (L - d) + krf L Z = 2 ^ L ∧ c = cst Z + d * lft B i := by
  induction d generalizing i k c with
  | zero =>
    obtain ⟨rfl, rfl, rfl⟩ := h
    exact ⟨by omega, [], by simp, by simp, by simp [krf], by simp [cst]⟩
  | succ d ih =>
    obtain ⟨i', k', c', t, hr, ht, rfl, hi, rfl, hk, rfl⟩ := h
    obtain ⟨hi', Z, z1, z2, z3, z4⟩ := ih hr (by omega)
    refine ⟨hi, Z ++ ((B.drop i').take t).map (fun w => (w, d + 1)), ?_, ?_, ?_, ?_⟩
    · rw [List.map_append, z1, List.map_map]
      have : (fun x : Nat × Nat => x.1) ∘ (fun w : Nat => (w, d + 1)) = id := rfl
      rw [this, List.map_id, List.take_add]
    · intro z hz
      rcases List.mem_append.1 hz with e | e
      · have := z2 z e; omega
      · obtain ⟨w, _, rfl⟩ := List.mem_map.1 e
        simp
    · rw [krf_append, krf_same, List.length_take, List.length_drop, Nat.min_eq_left (by omega)]
      have e : 2 ^ (L - d) = 2 * 2 ^ (L - (d + 1)) := by rw [show L - d = (L - (d + 1)) + 1 by omega, Nat.pow_succ]; omega
      rw [e] at z3
      have e2 : (2 * k' - t) * 2 ^ (L - (d + 1)) + t * 2 ^ (L - (d + 1)) = k' * (2 * 2 ^ (L - (d + 1))) := by
        rw [← Nat.add_mul, show 2 * k' - t + t = k' * 2 by omega, Nat.mul_assoc]
      omega
    · rw [cst_append, cst_same, z4]
      have e := lft_add B i' t
      have e2 : (d + 1) * lft B i' = (d + 1) * ((B.drop i').take t).sum + (d + 1) * lft B (i' + t) := by rw [e, Nat.mul_add]
      have e3 : (d + 1) * lft B i' = d * lft B i' + lft B i' := by rw [Nat.add_mul, Nat.one_mul]
      rw [Nat.mul_comm ((B.drop i').take t).sum (d + 1)]
      omega

/-- So nothing that is reached at the end costs less than the least. -/
theorem Rch.least {B : List Nat} {L c : Nat} (h : Rch B L B.length 0 c) : ov L B ≤ c := by
  obtain ⟨_, Z, z1, z2, z3, z4⟩ := h.lens (Nat.le_refl L)
  have hf : Feas L Z := ⟨z2, by omega⟩
  have := ov_least hf
  rw [z1, List.take_length] at this
  have hz : lft B B.length = 0 := by simp [lft]
  rw [hz] at z4
  omega

/-- Rising lengths. -/
def RisL (Z : List (Nat × Nat)) : Prop := Z.Pairwise (fun x y => x.2 ≤ y.2)
/-- How many are at most so long. -/
def cle (Z : List (Nat × Nat)) (d : Nat) : Nat := (Z.filter fun z => decide (z.2 ≤ d)).length
theorem risL_take {Z : List (Nat × Nat)} (h : RisL Z) (d : Nat) : Z.take (cle Z d) = Z.filter fun z => decide (z.2 ≤ d) := by
  induction Z with
  | nil => simp [cle]
  | cons z Z ih =>
    have ht := (List.pairwise_cons.1 h).2
    have hh := (List.pairwise_cons.1 h).1
    unfold cle at ih ⊢
    by_cases hz : z.2 ≤ d
    · simp only [List.filter_cons, hz, decide_true, if_true, List.length_cons, List.take_succ_cons]
      rw [ih ht]
    · have hn : (Z.filter fun z => decide (z.2 ≤ d)) = [] := by
        rw [List.filter_eq_nil_iff]
        intro y hy
        have := hh y hy
        simp; omega
      simp [hz, hn]
theorem risL_drop {Z : List (Nat × Nat)} (h : RisL Z) (d : Nat) : Z.drop (cle Z d) = Z.filter fun z => decide (d + 1 ≤ z.2) := by
  induction Z with
  | nil => simp [cle]
  | cons z Z ih =>
    have ht := (List.pairwise_cons.1 h).2
    have hh := (List.pairwise_cons.1 h).1
    unfold cle at ih ⊢
    by_cases hz : z.2 ≤ d
    · have hz' : ¬ d + 1 ≤ z.2 := by omega
      simp only [List.filter_cons, hz, hz', decide_true, decide_false, if_true, List.length_cons, List.drop_succ_cons]
      rw [ih ht]
      simp
    · have hz' : d + 1 ≤ z.2 := by omega
      have hn : (Z.filter fun z => decide (z.2 ≤ d)) = [] := by
        rw [List.filter_eq_nil_iff]
        intro y hy
        have := hh y hy
        simp; omega
      have hy : (Z.filter fun z => decide (d + 1 ≤ z.2)) = Z := by
        rw [List.filter_eq_self]
        intro y hy
        have := hh y hy
        simp; omega
      simp [hz, hz', hn, hy]

/-- Lengths that rise and leave no room over are reached. -/
theorem reached {L : Nat} {Z : List (Nat × Nat)} (hr : RisL Z) (hl : ∀ z ∈ Z, 1 ≤ z.2 ∧ z.2 ≤ L) (hk : krf L Z = 2 ^ L) (d : Nat) (hd : d ≤ L) :
    ∃ k c, Rch (Z.map (·.1)) d (cle Z d) k c ∧ k * 2 ^ (L - d) = krf L (Z.drop (cle Z d)) ∧ c = cst (Z.take (cle Z d)) + d * lft (Z.map (·.1)) (cle Z d) := by
  induction d with
  | zero =>
    have h0 : cle Z 0 = 0 := by
      unfold cle
      rw [List.length_eq_zero_iff, List.filter_eq_nil_iff]
      intro z hz
      have := (hl z hz).1
      simp; omega
    refine ⟨1, 0, ⟨h0, rfl, rfl⟩, ?_, ?_⟩
    · rw [h0]; simp [hk]
    · rw [h0]; simp [cst]
  | succ d ih =>
    obtain ⟨k, c, h1, h2, h3⟩ := ih (by omega)
    have hle : cle Z d ≤ cle Z (d + 1) := by
      unfold cle
      rw [← List.countP_eq_length_filter, ← List.countP_eq_length_filter]
      exact List.countP_mono_left (fun z _ hz => by simp at hz ⊢; omega)
    have hlen : cle Z (d + 1) ≤ Z.length := List.length_filter_le _ _
    obtain ⟨t, ht⟩ : ∃ t, cle Z (d + 1) = cle Z d + t := ⟨cle Z (d + 1) - cle Z d, by omega⟩
    -- what becomes done at this level
    have hmid : (Z.drop (cle Z d)).take t = ((Z.drop (cle Z d)).take t).map fun z => (z.1, d + 1) := by
      conv => lhs; rw [← List.map_id ((Z.drop (cle Z d)).take t)]
      apply List.map_congr_left
      intro z hz
      have a1 : z ∈ Z.drop (cle Z d) := List.mem_of_mem_take hz
      rw [risL_drop hr d, List.mem_filter] at a1
      have a2 : z ∈ Z.take (cle Z (d + 1)) := by
        rw [ht, List.take_add]
        exact List.mem_append.2 (.inr hz)
      rw [risL_take hr (d + 1), List.mem_filter] at a2
      have b1 : d + 1 ≤ z.2 := by simpa using a1.2
      have b2 : z.2 ≤ d + 1 := by simpa using a2.2
      have e : z.2 = d + 1 := by omega
      show z = (z.1, d + 1)
      rw [← e]
    have hlm : ((Z.drop (cle Z d)).take t).length = t := by rw [List.length_take, List.length_drop, Nat.min_eq_left (by omega)]
    have hkm : krf L ((Z.drop (cle Z d)).take t) = t * 2 ^ (L - (d + 1)) := by
      rw [hmid]
      have := krf_same L (((Z.drop (cle Z d)).take t).map (·.1)) (d + 1)
      rw [List.map_map, List.length_map, hlm] at this
      exact this
    have hcm : cst ((Z.drop (cle Z d)).take t) = (((Z.drop (cle Z d)).take t).map (·.1)).sum * (d + 1) := by
      rw [hmid]
      have := cst_same (((Z.drop (cle Z d)).take t).map (·.1)) (d + 1)
      rw [List.map_map] at this
      rw [List.map_map]
      exact this
    have hdrop : krf L (Z.drop (cle Z d)) = t * 2 ^ (L - (d + 1)) + krf L (Z.drop (cle Z (d + 1))) := by
      conv => lhs; rw [← List.take_append_drop t (Z.drop (cle Z d)), krf_append, List.drop_drop, ← ht, hkm]
    have e : 2 ^ (L - d) = 2 * 2 ^ (L - (d + 1)) := by rw [show L - d = (L - (d + 1)) + 1 by omega, Nat.pow_succ]; omega
    have hp := Nat.two_pow_pos (L - (d + 1))
    rw [e, hdrop] at h2
    have hkt : (2 * k) * 2 ^ (L - (d + 1)) = t * 2 ^ (L - (d + 1)) + krf L (Z.drop (cle Z (d + 1))) := by rw [← h2, Nat.mul_comm 2 k, Nat.mul_assoc]
    have ht2 : t ≤ 2 * k := by
      apply Nat.le_of_mul_le_mul_right (c := 2 ^ (L - (d + 1))) _ hp
      omega
    have hnew : (2 * k - t) * 2 ^ (L - (d + 1)) = krf L (Z.drop (cle Z (d + 1))) := by rw [Nat.sub_mul]; omega
    have hroom : 2 * k - t ≤ Z.length - cle Z (d + 1) := by
      apply Nat.le_of_mul_le_mul_right (c := 2 ^ (L - (d + 1))) _ hp
      rw [hnew, ← List.length_drop]
      have hall : ∀ z ∈ Z.drop (cle Z (d + 1)), d + 1 ≤ z.2 := fun z hz => by
        rw [risL_drop hr (d + 1), List.mem_filter] at hz
        have := hz.2
        simp at this; omega
      generalize Z.drop (cle Z (d + 1)) = Y at hall
      clear hnew hkt hdrop h2 h3 h1
      induction Y with
      | nil => simp [krf]
      | cons y Y ihY =>
        rw [krf_cons, List.length_cons, Nat.add_mul, Nat.one_mul]
        have := ihY (fun z hz => hall z (by simp [hz]))
        have q : 2 ^ (L - y.2) ≤ 2 ^ (L - (d + 1)) := Nat.pow_le_pow_right (by decide) (by have := hall y (by simp); omega)
        omega
    refine ⟨2 * k - t, c + lft (Z.map (·.1)) (cle Z d), ⟨cle Z d, k, c, t, h1, ht2, ht, by rw [List.length_map]; exact hlen, rfl, by rw [List.length_map]; exact hroom, rfl⟩, hnew, ?_⟩
    have hl2 := lft_add (Z.map (·.1)) (cle Z d) t
    rw [← List.map_drop, ← List.map_take, ← ht] at hl2
    rw [ht, List.take_add, cst_append, hcm, h3, ← ht]
    have e3 : (d + 1) * lft (Z.map (·.1)) (cle Z d) = d * lft (Z.map (·.1)) (cle Z d) + lft (Z.map (·.1)) (cle Z d) := by rw [Nat.add_mul, Nat.one_mul]
    have e4 : (d + 1) * lft (Z.map (·.1)) (cle Z d) = (d + 1) * (((Z.drop (cle Z d)).take t).map (·.1)).sum + (d + 1) * lft (Z.map (·.1)) (cle Z (d + 1)) := by rw [hl2, Nat.mul_add]
    rw [Nat.mul_comm (((Z.drop (cle Z d)).take t).map (·.1)).sum (d + 1)]
    omega
end Go.Proofs.Ytdeigchkpakdaaa
