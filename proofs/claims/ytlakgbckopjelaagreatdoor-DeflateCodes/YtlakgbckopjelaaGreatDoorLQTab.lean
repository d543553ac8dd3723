/- Several texts, laid together: LX, LPath, LReach, LRefS, LTab. -/
import Derived.Test.YtlakgbckopjelaaGreatDoorG24LTake
import Derived.Test.YtlakgbckopjelaaGreatDoorG25LCost
import Derived.Test.YtlakgbckopjelaaGreatDoorG26DConcat
/- What further texts name of the texts below. -/
namespace Go.Proofs.YtlakgbckopjelaaGreatDoor.L
set_option maxRecDepth 100000

/-- A symbol that weighs more is not longer. -/
theorem Best.rarer {L : Nat} {Z R : List (Nat × Nat)} {x y : Nat × Nat} (h : Best L Z) (p : Z.Perm (x :: y :: R)) (hw : y.1 < x.1) : x.2 ≤ y.2 := by
  by_cases hc : x.2 ≤ y.2
  · exact hc
  · exfalso
    have f := h.feas.perm p
    have hx := f.lens x (by simp)
    have hy := f.lens y (by simp)
    have hf' : Feas L ((x.1, y.2) :: (y.1, x.2) :: R) := by
      refine ⟨fun z hz => ?_, ?_⟩
      · rcases List.mem_cons.1 hz with e | e
        · subst e; exact hy
        · rcases List.mem_cons.1 e with e | e
          · subst e; exact hx
          · exact f.lens z (by simp [e])
      · have := f.room
        rw [krf_cons, krf_cons] at this ⊢
        simp only at *
        omega
    have hl := h.least hf' ((p.map (·.1)).symm)
    rw [cst_perm p, cst_cons, cst_cons, cst_cons, cst_cons] at hl
    simp only at hl
    obtain ⟨a, ha⟩ : ∃ a, x.1 = y.1 + a + 1 := ⟨x.1 - y.1 - 1, by omega⟩
    obtain ⟨b, hb⟩ : ∃ b, x.2 = y.2 + b + 1 := ⟨x.2 - y.2 - 1, by omega⟩
    rw [ha, hb] at hl
    simp only [Nat.add_mul, Nat.mul_add] at hl
    omega
#print axioms Best.twice
#print axioms Best.full
end Go.Proofs.YtlakgbckopjelaaGreatDoor.L

namespace Go.Proofs.YtlakgbckopjelaaGreatDoor.L
set_option maxRecDepth 100000

theorem zOf_fst (ls F d : List Int) : (zOf ls F d).map (·.1) = d.map fun x => (keyOf ls x).toNat := by simp [zOf]
#print axioms good_of
end Go.Proofs.YtlakgbckopjelaaGreatDoor.L


/- The reference's way to the least cost: level by level, so many symbols done, so many nodes open: what it reaches are lengths, and the best lengths are reached. No Go text in sight. -/
namespace Go.Proofs.YtlakgbckopjelaaGreatDoor.L
set_option maxRecDepth 100000

/-- What those cost once that are not done when i are. -/
def lft (B : List Nat) (i : Nat) : Nat := (B.drop i).sum
/-- At level d, i symbols done, k nodes open, at the cost c. -/
def Rch (B : List Nat) : Nat → Nat → Nat → Nat → Prop
  | 0, i, k, c => i = 0 ∧ k = 1 ∧ c = 0
  | d + 1, i, k, c => ∃ i' k' c' t, Rch B d i' k' c' ∧ t ≤ 2 * k' ∧ i = i' + t ∧ i ≤ B.length ∧ k = 2 * k' - t ∧ k ≤ B.length - i ∧ c = c' + lft B i'

theorem lft_add (B : List Nat) (i t : Nat) : lft B i = ((B.drop i).take t).sum + lft B (i + t) := by
  unfold lft
  conv => lhs; rw [← List.take_append_drop t (B.drop i), List.sum_append, List.drop_drop]
theorem cst_append (Z Y : List (Nat × Nat)) : cst (Z ++ Y) = cst Z + cst Y := by simp [cst]
theorem krf_append (L : Nat) (Z Y : List (Nat × Nat)) : krf L (Z ++ Y) = krf L Z + krf L Y := by simp [krf]
theorem cst_same (W : List Nat) (l : Nat) : cst (W.map fun w => (w, l)) = W.sum * l := by
  induction W with
  | nil => simp [cst]
  | cons w W ih => rw [List.map_cons, cst_cons, ih, List.sum_cons, Nat.add_mul]
theorem krf_same (L : Nat) (W : List Nat) (l : Nat) : krf L (W.map fun w => (w, l)) = W.length * 2 ^ (L - l) := by
  induction W with
  | nil => simp [krf]
  | cons w W ih => rw [List.map_cons, krf_cons, ih, List.length_cons, Nat.add_mul, Nat.one_mul, Nat.add_comm]

/-- What is reached are lengths. -/
theorem Rch.lens {B : List Nat} {L d i k c : Nat} (h : Rch B d i k c) (hd : d ≤ L) : i ≤ B.length ∧ ∃ Z : List (Nat × Nat), Z.map (·.1) = B.take i ∧ (∀ z ∈ Z, 1 ≤ z.2 ∧ z.2 ≤ d) ∧ k * 2 ^ (L - d) + krf L Z = 2 ^ L ∧ c = cst Z + d * lft B i := by
  induction d generalizing i k c with
  | zero =>
    obtain ⟨rfl, rfl, rfl⟩ := h
    exact ⟨by omega, [], by simp, by simp, by simp [krf], by simp [cst]⟩
  | succ d ih =>
    obtain ⟨i', k', c', t, hr, ht, rfl, hi, rfl, hk, rfl⟩ := h
    obtain ⟨hi', Z, z1, z2, z3, z4⟩ := ih hr (by omega)
    refine ⟨hi, Z ++ ((B.drop i').take t).map (fun w => (w, d + 1)), ?_, ?_, ?_, ?_⟩
    · rw [List.map_append, z1, List.map_map]
      have : (fun x : Nat × Nat => x.1) ∘ (fun w : Nat => (w, d + 1)) = id := rfl
      rw [this, List.map_id, List.take_add]
    · intro z hz
      rcases List.mem_append.1 hz with e | e
      · have := z2 z e; omega
      · obtain ⟨w, _, rfl⟩ := List.mem_map.1 e
        simp
    · rw [krf_append, krf_same, List.length_take, List.length_drop, Nat.min_eq_left (by omega)]
      have e : 2 ^ (L - d) = 2 * 2 ^ (L - (d + 1)) := by rw [show L - d = (L - (d + 1)) + 1 by omega, Nat.pow_succ]; omega
      rw [e] at z3
      have e2 : (2 * k' - t) * 2 ^ (L - (d + 1)) + t * 2 ^ (L - (d + 1)) = k' * (2 * 2 ^ (L - (d + 1))) := by
        rw [← Nat.add_mul, show 2 * k' - t + t = k' * 2 by omega, Nat.mul_assoc]
      omega
    · rw [cst_append, cst_same, z4]
      have e := lft_add B i' t
      have e2 : (d + 1) * lft B i' = (d + 1) * ((B.drop i').take t).sum + (d + 1) * lft B (i' + t) := by rw [e, Nat.mul_add]
      have e3 : (d + 1) * lft B i' = d * lft B i' + lft B i' := by rw [Nat.add_mul, Nat.one_mul]
      rw [Nat.mul_comm ((B.drop i').take t).sum (d + 1)]
      omega

/-- So nothing that is reached at the end costs less than the least. -/
theorem Rch.least {B : List Nat} {L c : Nat} (h : Rch B L B.length 0 c) : ov L B ≤ c := by
  obtain ⟨_, Z, z1, z2, z3, z4⟩ := h.lens (Nat.le_refl L)
  have hf : Feas L Z := ⟨z2, by omega⟩
  have := ov_least hf
  rw [z1, List.take_length] at this
  have hz : lft B B.length = 0 := by simp [lft]
  rw [hz] at z4
  omega

/-- Rising lengths. -/
def RisL (Z : List (Nat × Nat)) : Prop := Z.Pairwise (fun x y => x.2 ≤ y.2)
/-- How many are at most so long. -/
def cle (Z : List (Nat × Nat)) (d : Nat) : Nat := (Z.filter fun z => decide (z.2 ≤ d)).length
theorem risL_take {Z : List (Nat × Nat)} (h : RisL Z) (d : Nat) : Z.take (cle Z d) = Z.filter fun z => decide (z.2 ≤ d) := by
  induction Z with
  | nil => simp [cle]
  | cons z Z ih =>
    have ht := (List.pairwise_cons.1 h).2
    have hh := (List.pairwise_cons.1 h).1
    unfold cle at ih ⊢
    by_cases hz : z.2 ≤ d
    · simp only [List.filter_cons, hz, decide_true, if_true, List.length_cons, List.take_succ_cons]
      rw [ih ht]
    · have hn : (Z.filter fun z => decide (z.2 ≤ d)) = [] := by
        rw [List.filter_eq_nil_iff]
        intro y hy
        have := hh y hy
        simp; omega
      simp [hz, hn]
theorem risL_drop {Z : List (Nat × Nat)} (h : RisL Z) (d : Nat) : Z.drop (cle Z d) = Z.filter fun z => decide (d + 1 ≤ z.2) := by
  induction Z with
  | nil => simp [cle]
  | cons z Z ih =>
    have ht := (List.pairwise_cons.1 h).2
    have hh := (List.pairwise_cons.1 h).1
    unfold cle at ih ⊢
    by_cases hz : z.2 ≤ d
    · have hz' : ¬ d + 1 ≤ z.2 := by omega
      simp only [List.filter_cons, hz, hz', decide_true, decide_false, if_true, List.length_cons, List.drop_succ_cons]
      rw [ih ht]
      simp
    · have hz' : d + 1 ≤ z.2 := by omega
      have hn : (Z.filter fun z => decide (z.2 ≤ d)) = [] := by
        rw [List.filter_eq_nil_iff]
        intro y hy
        have := hh y hy
        simp; omega
      have hy : (Z.filter fun z => decide (d + 1 ≤ z.2)) = Z := by
        rw [List.filter_eq_self]
        intro y hy
        have := hh y hy
        simp; omega
      simp [hz, hz', hn, hy]

/-- Lengths that rise and leave no room over are reached. -/
theorem reached {L : Nat} {Z : List (Nat × Nat)} (hr : RisL Z) (hl : ∀ z ∈ Z, 1 ≤ z.2 ∧ z.2 ≤ L) (hk : krf L Z = 2 ^ L) (d : Nat) (hd : d ≤ L) :
    ∃ k c, Rch (Z.map (·.1)) d (cle Z d) k c ∧ k * 2 ^ (L - d) = krf L (Z.drop (cle Z d)) ∧ c = cst (Z.take (cle Z d)) + d * lft (Z.map (·.1)) (cle Z d) := by
  induction d with
  | zero =>
    have h0 : cle Z 0 = 0 := by
      unfold cle
      rw [List.length_eq_zero_iff, List.filter_eq_nil_iff]
      intro z hz
      have := (hl z hz).1
      simp; omega
    refine ⟨1, 0, ⟨h0, rfl, rfl⟩, ?_, ?_⟩
    · rw [h0]; simp [hk]
    · rw [h0]; simp [cst]
  | succ d ih =>
    obtain ⟨k, c, h1, h2, h3⟩ := ih (by omega)
    have hle : cle Z d ≤ cle Z (d + 1) := by
      unfold cle
      rw [← List.countP_eq_length_filter, ← List.countP_eq_length_filter]
      exact List.countP_mono_left (fun z _ hz => by simp at hz ⊢; omega)
    have hlen : cle Z (d + 1) ≤ Z.length := List.length_filter_le _ _
    obtain ⟨t, ht⟩ : ∃ t, cle Z (d + 1) = cle Z d + t := ⟨cle Z (d + 1) - cle Z d, by omega⟩
    -- what becomes done at this level
    have hmid : (Z.drop (cle Z d)).take t = ((Z.drop (cle Z d)).take t).map fun z => (z.1, d + 1) := by
      conv => lhs; rw [← List.map_id ((Z.drop (cle Z d)).take t)]
      apply List.map_congr_left
      intro z hz
      have a1 : z ∈ Z.drop (cle Z d) := List.mem_of_mem_take hz
      rw [risL_drop hr d, List.mem_filter] at a1
      have a2 : z ∈ Z.take (cle Z (d + 1)) := by
        rw [ht, List.take_add]
        exact List.mem_append.2 (.inr hz)
      rw [risL_take hr (d + 1), List.mem_filter] at a2
      have b1 : d + 1 ≤ z.2 := by simpa using a1.2
      have b2 : z.2 ≤ d + 1 := by simpa using a2.2
      have e : z.2 = d + 1 := by omega
      show z = (z.1, d + 1)
      rw [← e]
    have hlm : ((Z.drop (cle Z d)).take t).length = t := by rw [List.length_take, List.length_drop, Nat.min_eq_left (by omega)]
    have hkm : krf L ((Z.drop (cle Z d)).take t) = t * 2 ^ (L - (d + 1)) := by
      rw [hmid]
      have := krf_same L (((Z.drop (cle Z d)).take t).map (·.1)) (d + 1)
      rw [List.map_map, List.length_map, hlm] at this
      exact this
    have hcm : cst ((Z.drop (cle Z d)).take t) = (((Z.drop (cle Z d)).take t).map (·.1)).sum * (d + 1) := by
      rw [hmid]
      have := cst_same (((Z.drop (cle Z d)).take t).map (·.1)) (d + 1)
      rw [List.map_map] at this
      rw [List.map_map]
      exact this
    have hdrop : krf L (Z.drop (cle Z d)) = t * 2 ^ (L - (d + 1)) + krf L (Z.drop (cle Z (d + 1))) := by
      conv => lhs; rw [← List.take_append_drop t (Z.drop (cle Z d)), krf_append, List.drop_drop, ← ht, hkm]
    have e : 2 ^ (L - d) = 2 * 2 ^ (L - (d + 1)) := by rw [show L - d = (L - (d + 1)) + 1 by omega, Nat.pow_succ]; omega
    have hp := Nat.two_pow_pos (L - (d + 1))
    rw [e, hdrop] at h2
    have hkt : (2 * k) * 2 ^ (L - (d + 1)) = t * 2 ^ (L - (d + 1)) + krf L (Z.drop (cle Z (d + 1))) := by rw [← h2, Nat.mul_comm 2 k, Nat.mul_assoc]
    have ht2 : t ≤ 2 * k := by
      apply Nat.le_of_mul_le_mul_right (c := 2 ^ (L - (d + 1))) _ hp
      omega
    have hnew : (2 * k - t) * 2 ^ (L - (d + 1)) = krf L (Z.drop (cle Z (d + 1))) := by rw [Nat.sub_mul]; omega
    have hroom : 2 * k - t ≤ Z.length - cle Z (d + 1) := by
      apply Nat.le_of_mul_le_mul_right (c := 2 ^ (L - (d + 1))) _ hp
      rw [hnew, ← List.length_drop]
      have hall : ∀ z ∈ Z.drop (cle Z (d + 1)), d + 1 ≤ z.2 := fun z hz => by
        rw [risL_drop hr (d + 1), List.mem_filter] at hz
        have := hz.2
        simp at this; omega
      generalize Z.drop (cle Z (d + 1)) = Y at hall
      clear hnew hkt hdrop h2 h3 h1
      induction Y with
      | nil => simp [krf]
      | cons y Y ihY =>
        rw [krf_cons, List.length_cons, Nat.add_mul, Nat.one_mul]
        have := ihY (fun z hz => hall z (by simp [hz]))
        have q : 2 ^ (L - y.2) ≤ 2 ^ (L - (d + 1)) := Nat.pow_le_pow_right (by decide) (by have := hall y (by simp); omega)
        omega
    refine ⟨2 * k - t, c + lft (Z.map (·.1)) (cle Z d), ⟨cle Z d, k, c, t, h1, ht2, ht, by rw [List.length_map]; exact hlen, rfl, by rw [List.length_map]; exact hroom, rfl⟩, hnew, ?_⟩
    have hl2 := lft_add (Z.map (·.1)) (cle Z d) t
    rw [← List.map_drop, ← List.map_take, ← ht] at hl2
    rw [ht, List.take_add, cst_append, hcm, h3, ← ht]
    have e3 : (d + 1) * lft (Z.map (·.1)) (cle Z d) = d * lft (Z.map (·.1)) (cle Z d) + lft (Z.map (·.1)) (cle Z d) := by rw [Nat.add_mul, Nat.one_mul]
    have e4 : (d + 1) * lft (Z.map (·.1)) (cle Z d) = (d + 1) * (((Z.drop (cle Z d)).take t).map (·.1)).sum + (d + 1) * lft (Z.map (·.1)) (cle Z (d + 1)) := by rw [hl2, Nat.mul_add]
    rw [Nat.mul_comm (((Z.drop (cle Z d)).take t).map (·.1)).sum (d + 1)]
    omega
end Go.Proofs.YtlakgbckopjelaaGreatDoor.L

/- The best lengths are among what the reference reaches: its least cost is theirs. No Go text in sight. -/
namespace Go.Proofs.YtlakgbckopjelaaGreatDoor.L
set_option maxRecDepth 100000

/-- Falling lists. -/
def Fal (A : List Nat) : Prop := A.Pairwise (fun x y => y ≤ x)
theorem Fal.unique {A B : List Nat} (hA : Fal A) (hB : Fal B) (h : A.Perm B) : A = B := by
  induction A generalizing B with
  | nil => exact (List.nil_perm.1 h).symm
  | cons x A ih =>
    cases B with
    | nil => exact absurd h.symm (by simp)
    | cons y B =>
      have a1 := List.pairwise_cons.1 hA
      have b1 := List.pairwise_cons.1 hB
      have hxy : x = y := by
        have h1 : x ∈ y :: B := h.mem_iff.1 (by simp)
        have h2 : y ∈ x :: A := h.mem_iff.2 (by simp)
        rcases List.mem_cons.1 h1 with e | e
        · exact e
        · rcases List.mem_cons.1 h2 with f | f
          · exact f.symm
          · have := a1.1 y f; have := b1.1 x e; omega
      subst hxy
      rw [ih a1.2 b1.2 (List.Perm.cons_inv h)]

/-- The heavier one first; of two alike the shorter one. -/
def ahd (x y : Nat × Nat) : Bool := decide (y.1 < x.1) || (decide (x.1 = y.1) && decide (x.2 ≤ y.2))
theorem ahd_iff (x y : Nat × Nat) : ahd x y = true ↔ y.1 < x.1 ∨ (x.1 = y.1 ∧ x.2 ≤ y.2) := by simp [ahd]
theorem ahd_total (x y : Nat × Nat) (h : ¬ ahd x y = true) : ahd y x = true := by
  rw [ahd_iff] at h ⊢; omega
theorem ahd_trans {x y z : Nat × Nat} (h : ahd x y = true) (k : ahd y z = true) : ahd x z = true := by
  rw [ahd_iff] at h k ⊢; omega
def insA (z : Nat × Nat) : List (Nat × Nat) → List (Nat × Nat)
  | [] => [z]
  | y :: r => if ahd z y = true then z :: y :: r else y :: insA z r
def srtA : List (Nat × Nat) → List (Nat × Nat)
  | [] => []
  | z :: r => insA z (srtA r)
theorem insA_perm (z : Nat × Nat) (Z : List (Nat × Nat)) : (insA z Z).Perm (z :: Z) := by
  induction Z with
  | nil => exact List.Perm.refl _
  | cons y r ih =>
    rw [insA]
    split
    · exact List.Perm.refl _
    · exact (List.Perm.cons y ih).trans (List.Perm.swap z y r)
theorem srtA_perm (Z : List (Nat × Nat)) : (srtA Z).Perm Z := by
  induction Z with
  | nil => exact List.Perm.refl _
  | cons z r ih => exact (insA_perm z (srtA r)).trans (List.Perm.cons z ih)
theorem insA_sorted (z : Nat × Nat) (Z : List (Nat × Nat)) (h : Z.Pairwise (fun x y => ahd x y = true)) : (insA z Z).Pairwise (fun x y => ahd x y = true) := by
  induction Z with
  | nil => simp [insA]
  | cons y r ih =>
    have hp := List.pairwise_cons.1 h
    rw [insA]
    split
    · rename_i hz
      refine List.pairwise_cons.2 ⟨fun x hx => ?_, h⟩
      rcases List.mem_cons.1 hx with e | e
      · subst e; exact hz
      · exact ahd_trans hz (hp.1 x e)
    · rename_i hz
      refine List.pairwise_cons.2 ⟨fun x hx => ?_, ih hp.2⟩
      rcases List.mem_cons.1 ((insA_perm z r).mem_iff.1 hx) with e | e
      · subst e; exact ahd_total _ _ hz
      · exact hp.1 x e
theorem srtA_sorted (Z : List (Nat × Nat)) : (srtA Z).Pairwise (fun x y => ahd x y = true) := by
  induction Z with
  | nil => simp [srtA]
  | cons z r ih => exact insA_sorted z _ ih

theorem best_ris {L : Nat} {Z0 : List (Nat × Nat)} (h : Best L Z0) (T P : List (Nat × Nat)) (p : Z0.Perm (P ++ T)) (hs : T.Pairwise (fun x y => ahd x y = true)) : RisL T := by
  induction T generalizing P with
  | nil => simp [RisL]
  | cons x T ih =>
    have hp := List.pairwise_cons.1 hs
    refine List.pairwise_cons.2 ⟨fun y hy => ?_, ih (P ++ [x]) (by simpa using p) hp.2⟩
    rcases (ahd_iff x y).1 (hp.1 y hy) with hlt | ⟨_, hle⟩
    · have q : (P ++ x :: T).Perm (x :: y :: (P ++ T.erase y)) := by
        have q1 : (P ++ x :: T).Perm (x :: (P ++ T)) := List.perm_middle
        have q2 : (P ++ T).Perm (y :: (P ++ T.erase y)) := (List.Perm.append_left P (List.perm_cons_erase hy)).trans List.perm_middle
        exact q1.trans (List.Perm.cons x q2)
      exact h.rarer (p.trans q) hlt
    · exact hle

/-- THE LEAST: the best lengths' cost is reached; what is reached is not below. -/
theorem best_reached {L : Nat} {Z0 : List (Nat × Nat)} {B : List Nat} (h : Best L Z0) (hB : Fal B) (hp : (Z0.map (·.1)).Perm B) (h2 : 2 ≤ B.length) (hw : ∀ w ∈ B, 0 < w) : Rch B L B.length 0 (cst Z0) := by
  have p := srtA_perm Z0
  have hs := srtA_sorted Z0
  have hr : RisL (srtA Z0) := best_ris h (srtA Z0) [] (by simpa using p.symm) hs
  have f := h.feas.perm p.symm
  have hfull := h.full (by have := hp.length_eq; rw [List.length_map] at this; omega) (fun z hz => hw z.1 (hp.mem_iff.1 (List.mem_map.2 ⟨z, hz, rfl⟩)))
  rw [krf_perm L p.symm] at hfull
  have hBe : (srtA Z0).map (·.1) = B := by
    refine Fal.unique ?_ hB ((p.map (·.1)).trans hp)
    unfold Fal
    rw [List.pairwise_map]
    exact hs.imp (fun {x y} hxy => by have := (ahd_iff x y).1 hxy; omega)
  obtain ⟨k, c, r1, r2, r3⟩ := reached hr f.lens hfull L (Nat.le_refl _)
  have hcl : cle (srtA Z0) L = (srtA Z0).length := by
    unfold cle
    rw [List.filter_eq_self.2]
    intro z hz
    have := (f.lens z hz).2
    simpa using this
  rw [hcl] at r1 r2 r3
  rw [List.drop_length, Nat.sub_self, Nat.pow_zero, Nat.mul_one] at r2
  have hk0 : k = 0 := by rw [r2]; simp [krf]
  rw [List.take_length] at r3
  have hl0 : lft ((srtA Z0).map (·.1)) (srtA Z0).length = 0 := by
    unfold lft
    rw [← List.map_drop, List.drop_length]; rfl
  rw [hl0, Nat.mul_zero, Nat.add_zero, cst_perm p] at r3
  have hlen : (srtA Z0).length = B.length := by rw [← hBe, List.length_map]
  rw [hBe, hlen, hk0, r3] at r1
  exact r1
#print axioms best_reached
end Go.Proofs.YtlakgbckopjelaaGreatDoor.L

/- The reference's sorted: those that occur, the most often first. -/
namespace Go.Proofs.YtlakgbckopjelaaGreatDoor.L
set_option maxRecDepth 100000
open Go Go.RowKit

def insF (x : Int) : List Int → List Int
  | [] => [x]
  | y :: r => if y < x then x :: y :: r else y :: insF x r
theorem insF_perm (x : Int) (O : List Int) : (insF x O).Perm (x :: O) := by
  induction O with
  | nil => exact List.Perm.refl _
  | cons y r ih =>
    rw [insF]
    split
    · exact List.Perm.refl _
    · exact (List.Perm.cons y ih).trans (List.Perm.swap x y r)
theorem insF_fal (x : Int) (O : List Int) (h : O.Pairwise (fun a b => b ≤ a)) : (insF x O).Pairwise (fun a b => b ≤ a) := by
  induction O with
  | nil => simp [insF]
  | cons y r ih =>
    rw [insF]
    rw [List.pairwise_cons] at h
    split
    · rename_i hlt
      refine List.pairwise_cons.2 ⟨fun z hz => ?_, List.pairwise_cons.2 h⟩
      rcases List.mem_cons.1 hz with rfl | hz
      · omega
      · have := h.1 z hz; omega
    · rename_i hlt
      refine List.pairwise_cons.2 ⟨fun z hz => ?_, ih h.2⟩
      rcases List.mem_cons.1 ((insF_perm x r).mem_iff.1 hz) with rfl | hz
      · omega
      · exact h.1 z hz
/-- Sorted, so far. -/
def srtF (ls : List Int) : Nat → List Int
  | 0 => []
  | n + 1 => if ln ls n = 0 then srtF ls n else insF (ln ls n) (srtF ls n)
theorem srtF_length (ls : List Int) (n : Nat) : (srtF ls n).length ≤ n := by
  induction n with
  | zero => simp [srtF]
  | succ n ih =>
    rw [srtF]
    split
    · omega
    · rw [(insF_perm _ _).length_eq]; simp; omega
theorem srtF_fal (ls : List Int) (n : Nat) : (srtF ls n).Pairwise (fun a b => b ≤ a) := by
  induction n with
  | zero => simp [srtF]
  | succ n ih =>
    rw [srtF]
    split
    · exact ih
    · exact insF_fal _ _ ih
theorem srtF_perm {ls : List Int} {n : Nat} (ha : AlwTo ls n) : (srtF ls n).Perm ((occ ls n).map (keyOf ls)) := by
  induction n with
  | zero => exact List.Perm.refl _
  | succ n ih =>
    have i := ih (fun i hi => ha i (by omega))
    have h1 := ha n (by omega)
    rw [srtF]
    by_cases h : ln ls n = 0
    · rw [if_pos h, occ_succ_zero (by omega)]; exact i
    · rw [if_neg h, occ_succ_pos (by omega), List.map_append]
      refine (insF_perm _ _).trans ((List.Perm.cons _ i).trans ?_)
      have e : List.map (keyOf ls) [(n : Int)] = [ln ls n] := by simp [keyOf]
      rw [e]
      exact (List.perm_append_singleton _ _).symm
/-- What is laid so far, and what is left. -/
def SoFar (x : Int) (O N : List Int) (done : Bool) (k : Nat) : Prop := N ++ (if done then O.drop k else insF x (O.drop k)) = insF x O
theorem SoFar.start (x : Int) (O : List Int) : SoFar x O [] false 0 := by simp [SoFar]
theorem SoFar.lay {x : Int} {O N : List Int} {k : Nat} (h : SoFar x O N false k) (hk : k < O.length) (hlt : ln O k < x) : SoFar x O (N ++ [x] ++ [ln O k]) true (k + 1) := by
  unfold SoFar at h ⊢
  rw [← h, List.drop_eq_getElem_cons hk, ← ln_in hk]
  simp [insF, hlt]
theorem SoFar.pass {x : Int} {O N : List Int} {k : Nat} (h : SoFar x O N false k) (hk : k < O.length) (hlt : ¬ ln O k < x) : SoFar x O (N ++ [ln O k]) false (k + 1) := by
  unfold SoFar at h ⊢
  rw [← h, List.drop_eq_getElem_cons hk, ← ln_in hk]
  simp [insF, hlt]
theorem SoFar.more {x : Int} {O N : List Int} {k : Nat} (h : SoFar x O N true k) (hk : k < O.length) : SoFar x O (N ++ [ln O k]) true (k + 1) := by
  unfold SoFar at h ⊢
  rw [← h, List.drop_eq_getElem_cons hk, ← ln_in hk]
  simp
theorem SoFar.end_true {x : Int} {O N : List Int} (h : SoFar x O N true O.length) : N = insF x O := by
  unfold SoFar at h; simpa using h
theorem SoFar.end_false {x : Int} {O N : List Int} (h : SoFar x O N false O.length) : N ++ [x] = insF x O := by
  unfold SoFar at h; simpa [insF] using h
theorem SoFar.len {x : Int} {O N : List Int} {b : Bool} {k : Nat} (h : SoFar x O N b k) : N.length ≤ O.length + 1 := by
  have := congrArg List.length h
  rw [List.length_append, (insF_perm x O).length_eq] at this
  simp at this
  omega

/-- What sorted tells. -/
def SortedOk (S : List Int) (w : World) (e : Ending) (w' : World) : Prop := ∃ v, e = .returned v ∧ Owns w' w.heap.size v S ∧ Below w.heap.size w w'

set_option maxHeartbeats 2000000 in
set_option maxRecDepth 100000 in
theorem sorted_c (B : Nat) (a : Option Addr) (cap : Nat) (ls : List Int) (w : World) (hl : ls.length ≤ 320) (hI : Ints 0 B w a ls) :
    Calls Tryz.prog 74 #[.slice a ls.length cap] w (SortedOk (srtF ls ls.length) w) := by
  obtain ⟨i0, hi0, hz0, hz1', hz2'⟩ := info_parts Tryz.info3
  have HI := hide hI
  clear hI
  go_enter Tryz.func74, Tryz.ntmps74
  go_wp2_with fail
  go_loopg [3, 4] ls.length (fun gk v3 v4 wx => ∃ i : Nat, i + gk = ls.length ∧ v4 = .int .i64 i ∧ Hid (Owns wx w.heap.size v3 (srtF ls i)) ∧ Hid (Below w.heap.size w wx))
  case atStart => exact ⟨0, by omega, rfl, Owns.nil _ _, Below.refl _ _⟩
  case round =>
    obtain ⟨i, hig, rfl, HO, HB⟩ := hrel
    obtain ⟨a3, c3, rfl⟩ := own_form HO.out
    have hol := srtF_length ls i
    cases gk with
    | zero =>
      obtain rfl : i = ls.length := by omega
      go_wp2_with fail
      go_ret
      exact ⟨_, rfl, HO.out, HB.out⟩
    | succ g1 =>
      obtain ⟨b, off, _, hb2, hb3, rfl, hcell⟩ := HI.out.resolve_left (by omega)
      have hlt : (i : Int) < (ls.length : Int) := by omega
      have hc : wr.cell? ⟨b, off + i, none⟩ = some (.int .i64 (ln ls i)) := by
        rw [HB.out.cell (p := ⟨b, off + i, none⟩) (show b < w.heap.size by omega)]
        exact hcell i (by omega)
      have hs0 : ln ls i = 0 → srtF ls (i + 1) = srtF ls i := fun h => by rw [srtF, if_pos h]
      have hs1 : ¬ ln ls i = 0 → srtF ls (i + 1) = insF (ln ls i) (srtF ls i) := fun h => by rw [srtF, if_neg h]
      have HS0 := hide hs0
      have HS1 := hide hs1
      have hCW : ∀ W, Below w.heap.size w W → W.cell? ⟨b, off + i, none⟩ = some (.int .i64 (ln ls i)) := fun W hW => by
        rw [hW.cell (p := ⟨b, off + i, none⟩) (show b < w.heap.size by omega)]
        exact hcell i (by omega)
      have HCW := hide hCW
      clear hcell hs0 hs1 hCW
      generalize ln ls i = X at hc HS0 HS1 HCW
      obtain ⟨O, hO⟩ : ∃ O, srtF ls i = O := ⟨_, rfl⟩
      rw [hO] at HO hol HS0 HS1 ⊢
      clear hO
      by_cases hX : X = 0
      · have e := hide (HS0.out hX)
        have hXb : (X == 0) = true := by simp [hX]
        clear HS0 HS1
        subst hX
        go_wp2_with fail
        go_roundg g1
        case measure => omega
        case rel => exact ⟨i + 1, by omega, by go_num, by rw [e.out]; exact HO.out, HB.out⟩
      · have e := hide (HS1.out hX)
        have hXb : (X == 0) = false := by simp [hX]
        clear HS0 HS1
        obtain ⟨W0, rfl⟩ : ∃ W, W = wr := ⟨wr, rfl⟩
        have hszw := HB.out.size
        go_wp2_with fail
        go_loopg [5, 6, 7] O.length (fun gj v5 v6 v7 wx => ∃ (k : Nat) (N : List Int) (dn : Bool), k + gj = O.length ∧ v7 = .int .i64 k ∧ v6 = .bool dn ∧ Hid (SoFar X O N dn k) ∧ Hid (Owns wx W0.heap.size v5 N) ∧ Hid (Below W0.heap.size W0 wx))
        case atStart => exact ⟨0, [], false, by omega, rfl, rfl, SoFar.start X O, Owns.nil _ _, Below.refl _ _⟩
        case round =>
          obtain ⟨k, N, dn, hkg, rfl, rfl, HSF, HN, HBN⟩ := hrel
          obtain ⟨a5, c5, rfl⟩ := own_form HN.out
          have hNl := HSF.out.len
          have hszx : W0.heap.size ≤ wr.heap.size := HBN.out.size
          cases gk with
          | zero =>
            obtain rfl : k = O.length := by omega
            cases dn with
            | true =>
              have HE := hide HSF.out.end_true
              go_wp2_with fail
              go_roundg g1
              case measure => omega
              case rel => exact ⟨i + 1, by omega, by go_num, by rw [e.out, ← HE.out]; exact HN.out.low hszw, HB.out.trans (HBN.out.mono hszw)⟩
            | false =>
              have HE := hide HSF.out.end_false
              have hc2 := HCW.out wr (HB.out.trans (HBN.out.mono hszw))
              go_wp2_with (at_builtin; refine wpList_append_own _ rfl _ _ 32 rfl W0.heap.size 3 i0 (.int .i64 0) 1 8 Tryz.underlying32 hi0 hz0 hz1' hz2' rfl (by decide) _ _ _ rfl (World.ownsRow.alloc HN.out _) ⟨_, 0, none⟩ 1 1 [.int .i64 X] rfl rfl (one_int' _ _ _ (by simp)) (by intro u hu; simp at hu; subst hu; rfl) (by unfold maxLen; omega) (by omega) (by simp; omega) ?_; intro v' w4 hown' hgrow hnil; have HOW := hide (Owns.push hown'); have HGR := hide ((HBN.out.alloc hszx _).grown hgrow (by simp; omega) (fun g e => (ownsRow_lt HN.out e).1)); clear hown' hgrow hnil)
              go_roundg g1
              case measure => omega
              case rel => exact ⟨i + 1, by omega, by go_num, by rw [e.out, ← HE.out]; exact HOW.out.low hszw, HB.out.trans (HGR.out.mono hszw)⟩
          | succ g2 =>
            have hlk : (k : Int) < (O.length : Int) := by omega
            obtain ⟨a9, c9, hv9, hii⟩ := HO.out.ints
            simp only [Value.slice.injEq] at hv9
            obtain ⟨rfl, _, rfl⟩ := hv9
            obtain ⟨gO, oO, hgO1, hgO2, hgO3, rfl, hcO⟩ := hii.resolve_left (by omega)
            have hCO : ∀ W, Below W0.heap.size W0 W → W.cell? ⟨gO, oO + k, none⟩ = some (.int .i64 (ln O k)) := fun W hW => by
              rw [hW.cell (p := ⟨gO, oO + k, none⟩) hgO2]
              exact hcO k (by omega)
            have HCO := hide hCO
            have hp := fun h1 h2 => SoFar.pass (N := N) (x := X) (O := O) (k := k) h1 (by omega) h2
            have hq := fun h1 h2 => SoFar.lay (N := N) (x := X) (O := O) (k := k) h1 (by omega) h2
            have hm := fun h1 => SoFar.more (N := N) (x := X) (O := O) (k := k) h1 (by omega)
            have HP := hide hp
            have HQ := hide hq
            have HM := hide hm
            clear hcO hii hCO hp hq hm
            generalize ln O k = Y at HCO HP HQ HM
            have cx := HCW.out wr (HB.out.trans (HBN.out.mono hszw))
            have cy : wr.cell? ⟨gO, oO + k, none⟩ = some (.int .i64 Y) := HCO.out wr HBN.out
            cases dn with
            | true =>
              have HE := hide (HM.out HSF.out)
              go_wp2_with fail
              go_quiet (fail)
              have HN2 : Hid (Owns (wr.drewN nq) W0.heap.size (.slice a5 N.length c5) N) := HN.out
              have HB2 : Hid (Below W0.heap.size W0 (wr.drewN nq)) := by have := HBN.out; exact ⟨this.os, this.tape, this.output, this.size, this.block⟩
              have cy2 : (wr.drewN nq).cell? ⟨gO, oO + k, none⟩ = some (.int .i64 Y) := cy
              have hsz2 : W0.heap.size ≤ (wr.drewN nq).heap.size := hszx
              clear cx cy
              generalize wr.drewN nq = wq at HN2 HB2 cy2 hsz2 ⊢
              go_wp2_with (at_builtin; refine wpList_append_own _ rfl _ _ 32 rfl W0.heap.size 3 i0 (.int .i64 0) 1 8 Tryz.underlying32 hi0 hz0 hz1' hz2' rfl (by decide) _ _ _ rfl (World.ownsRow.alloc HN2.out _) ⟨_, 0, none⟩ 1 1 [.int .i64 Y] rfl rfl (one_int' _ _ _ (by simp)) (by intro u hu; simp at hu; subst hu; rfl) (by unfold maxLen; omega) (by omega) (by simp; omega) ?_; intro v' w4 hown' hgrow hnil; have HOW := hide (Owns.push hown'); have HGR := hide ((HB2.out.alloc hsz2 _).grown hgrow (by simp; omega) (fun g e => (ownsRow_lt HN2.out e).1)); clear hown' hgrow hnil)
              go_roundg g2
              case measure => omega
              case rel => exact ⟨k + 1, N ++ [Y], true, by omega, by go_num, rfl, HE.out, HOW.out, HGR.out⟩
            | false =>
              by_cases hYX : Y < X
              · have HE := hide (HQ.out HSF.out hYX)
                have hd : decide (Y < X) = true := decide_eq_true hYX
                go_wp2_with fail
                go_quiet (fail)
                have HN2 : Hid (Owns (wr.drewN nq) W0.heap.size (.slice a5 N.length c5) N) := HN.out
                have HB2 : Hid (Below W0.heap.size W0 (wr.drewN nq)) := by have := HBN.out; exact ⟨this.os, this.tape, this.output, this.size, this.block⟩
                have cx2 : (wr.drewN nq).cell? ⟨b, off + i, none⟩ = some (.int .i64 X) := cx
                have hsz2 : W0.heap.size ≤ (wr.drewN nq).heap.size := hszx
                clear cx cy
                generalize wr.drewN nq = wq at HN2 HB2 cx2 hsz2 ⊢
                go_wp2_with (first
                  | (at_builtin; refine wpList_append_own _ rfl _ _ 32 rfl W0.heap.size 3 i0 (.int .i64 0) 1 8 Tryz.underlying32 hi0 hz0 hz1' hz2' rfl (by decide) _ _ _ rfl (World.ownsRow.alloc HN2.out _) ⟨_, 0, none⟩ 1 1 [.int .i64 X] rfl rfl (one_int' _ _ _ (by simp)) (by intro u hu; simp at hu; subst hu; rfl) (by unfold maxLen; omega) (by omega) (by simp; omega) ?_; intro v' w4 hown' hgrow hnil; have HOW := hide (Owns.push hown'); have HGR := hide ((HB2.out.alloc hsz2 _).grown hgrow (by simp; omega) (fun g e => (ownsRow_lt HN2.out e).1)); clear hown' hgrow hnil; have cy4 := HCO.out w4 HGR.out; have hsz4 := HGR.out.size; obtain ⟨M, hM⟩ : ∃ M, N ++ [X] = M := ⟨_, rfl⟩; rw [hM] at HOW; have HMM := hide hM; have hMl : M.length ≤ O.length + 2 := (by rw [← hM]; simp; omega); obtain ⟨a6, c6, rfl⟩ := own_form HOW.out; clear HN2 hM)
                  | (at_builtin; refine wpList_append_own _ rfl _ _ 32 rfl W0.heap.size 3 i0 (.int .i64 0) 1 8 Tryz.underlying32 hi0 hz0 hz1' hz2' rfl (by decide) _ _ _ rfl (World.ownsRow.alloc HOW.out _) ⟨_, 0, none⟩ 1 1 [.int .i64 Y] rfl rfl (one_int' _ _ _ (by simp)) (by intro u hu; simp at hu; subst hu; rfl) (by unfold maxLen; omega) (by omega) (by simp; omega) ?_; intro v' w5 hown' hgrow hnil; have HOW5 := hide (Owns.push hown'); have HGR5 := hide ((HGR.out.alloc hsz4 _).grown hgrow (by simp; omega) (fun g e => (ownsRow_lt HOW.out e).1)); clear hown' hgrow hnil))
                go_roundg g2
                case measure => omega
                case rel => exact ⟨k + 1, M ++ [Y], true, by omega, by go_num, rfl, by rw [← HMM.out]; exact HE.out, HOW5.out, HGR5.out⟩
              · have HE := hide (HP.out HSF.out hYX)
                have hd : decide (Y < X) = false := decide_eq_false hYX
                go_wp2_with fail
                go_quiet (fail)
                have HN2 : Hid (Owns (wr.drewN nq) W0.heap.size (.slice a5 N.length c5) N) := HN.out
                have HB2 : Hid (Below W0.heap.size W0 (wr.drewN nq)) := by have := HBN.out; exact ⟨this.os, this.tape, this.output, this.size, this.block⟩
                have cy2 : (wr.drewN nq).cell? ⟨gO, oO + k, none⟩ = some (.int .i64 Y) := cy
                have hsz2 : W0.heap.size ≤ (wr.drewN nq).heap.size := hszx
                clear cx cy
                generalize wr.drewN nq = wq at HN2 HB2 cy2 hsz2 ⊢
                go_wp2_with (at_builtin; refine wpList_append_own _ rfl _ _ 32 rfl W0.heap.size 3 i0 (.int .i64 0) 1 8 Tryz.underlying32 hi0 hz0 hz1' hz2' rfl (by decide) _ _ _ rfl (World.ownsRow.alloc HN2.out _) ⟨_, 0, none⟩ 1 1 [.int .i64 Y] rfl rfl (one_int' _ _ _ (by simp)) (by intro u hu; simp at hu; subst hu; rfl) (by unfold maxLen; omega) (by omega) (by simp; omega) ?_; intro v' w4 hown' hgrow hnil; have HOW := hide (Owns.push hown'); have HGR := hide ((HB2.out.alloc hsz2 _).grown hgrow (by simp; omega) (fun g e => (ownsRow_lt HN2.out e).1)); clear hown' hgrow hnil)
                go_roundg g2
                case measure => omega
                case rel => exact ⟨k + 1, N ++ [Y], false, by omega, by go_num, rfl, HE.out, HOW.out, HGR.out⟩
#print axioms sorted_c
end Go.Proofs.YtlakgbckopjelaaGreatDoor.L

/- The reference's tables: rows of rows of numbers; the first one. -/
namespace Go.Proofs.YtlakgbckopjelaaGreatDoor.L
set_option maxRecDepth 100000
open Go Go.RowKit

def tabVs (m : Nat) (gs : List Nat) : List Value := gs.map fun g => .slice (some ⟨g, 0, none⟩) m m
theorem tabVs_length (m : Nat) (gs : List Nat) : (tabVs m gs).length = gs.length := by simp [tabVs]
theorem tabVs_at (m : Nat) (gs : List Nat) {i : Nat} (h : i < gs.length) : (tabVs m gs)[i]? = some (.slice (some ⟨gs.getD i 0, 0, none⟩) m m) := by simp [tabVs, List.getD, h]
theorem gd_left {gs : List Nat} {g i : Nat} (h : i < gs.length) : (gs ++ [g]).getD i 0 = gs.getD i 0 := by simp only [List.getD, List.getElem?_append_left h]
theorem gd_right (gs : List Nat) (g : Nat) : (gs ++ [g]).getD gs.length 0 = g := by simp [List.getD]
/-- A table in memory: its rows, each of m numbers. -/
structure TabAt (lo m : Nat) (w : World) (v : Value) (gs : List Nat) (T : Nat → List Int) : Prop where
  owns : w.ownsRow lo 32 1 v gs.length (tabVs m gs)
  rows : ∀ i, i < gs.length → lo ≤ gs.getD i 0 ∧ Ro (gs.getD i 0) #[] (T i) w ∧ (T i).length = m
  dist : ∀ i j, i < gs.length → j < gs.length → i ≠ j → gs.getD i 0 ≠ gs.getD j 0
theorem TabAt.kept {lo m : Nat} {w w' : World} {v : Value} {gs : List Nat} {T : Nat → List Int} {M : Nat → Prop} (h : TabAt lo m w v gs T) (k : Kept M w w') (hn : ∀ b, lo ≤ b → b < w.heap.size → ¬ M b) : TabAt lo m w' v gs T :=
  ⟨ownsRow_kept h.owns k (fun g hg => hn g (ownsRow_lt h.owns hg).1 (ownsRow_lt h.owns hg).2), fun i hi => ⟨(h.rows i hi).1, (h.rows i hi).2.1.kept k (hn _ (h.rows i hi).1 (h.rows i hi).2.1.lt), (h.rows i hi).2.2⟩, h.dist⟩
theorem TabAt.stay {lo m : Nat} {w w' : World} {v : Value} {gs : List Nat} {T : Nat → List Int} (h : TabAt lo m w v gs T) (k : Below w.heap.size w w') : TabAt lo m w' v gs T := h.kept (Kept.of_below k) (fun b _ h2 h3 => by omega)
theorem TabAt.low {lo lo' m : Nat} {w : World} {v : Value} {gs : List Nat} {T : Nat → List Int} (h : TabAt lo m w v gs T) (hl : lo' ≤ lo) : TabAt lo' m w v gs T := by
  refine ⟨?_, fun i hi => ⟨by have := (h.rows i hi).1; omega, (h.rows i hi).2⟩, h.dist⟩
  obtain ⟨h1, h2⟩ := h.owns
  refine ⟨h1, ?_⟩
  rcases h2 with h2 | ⟨g, cap, cur, hv, hg, r⟩
  · exact .inl h2
  · exact .inr ⟨g, cap, cur, hv, by omega, r⟩
/-- One number written. -/
theorem TabAt.set {lo m : Nat} {w : World} {v : Value} {gs : List Nat} {T : Nat → List Int} (h : TabAt lo m w v gs T) {i r : Nat} (hi : i < gs.length) (hr : r < m) (x : Int) : TabAt lo m (w.setCell ⟨gs.getD i 0, r, none⟩ (.int .i64 x)) v gs (fun j => if j = i then (T i).set r x else T j) := by
  obtain ⟨q1, q2, q3⟩ := h.rows i hi
  have hk : Kept (fun b => b = gs.getD i 0) w (w.setCell ⟨gs.getD i 0, r, none⟩ (.int .i64 x)) := Kept.setCell (M := fun b => b = gs.getD i 0) (Kept.refl _ w) (fun _ => rfl) _
  refine ⟨ownsRow_kept h.owns hk (fun g hg e => ownsRow_apart h.owns q2 (by decide) (by rw [hg, e])), fun j hj => ?_, h.dist⟩
  by_cases e : j = i
  · subst e
    rw [if_pos rfl]
    exact ⟨q1, q2.set (by rw [q3]; exact hr) x, by rw [List.length_set]; exact q3⟩
  · rw [if_neg e]
    obtain ⟨p1, p2, p3⟩ := h.rows j hj
    exact ⟨p1, p2.kept hk (h.dist j i hj hi e), p3⟩
/-- The cells that are read. -/
theorem TabAt.row {lo m g0 c0 : Nat} {w : World} {gs : List Nat} {T : Nat → List Int} (h : TabAt lo m w (.slice (some ⟨g0, 0, none⟩) gs.length c0) gs T) {i : Nat} (hi : i < gs.length) : w.cell? ⟨g0, i, none⟩ = some (.slice (some ⟨gs.getD i 0, 0, none⟩) m m) := by
  rw [World.ownsRow.cellAt h.owns i (by omega), tabVs_at m gs hi]
theorem TabAt.cell {lo m : Nat} {w : World} {v : Value} {gs : List Nat} {T : Nat → List Int} (h : TabAt lo m w v gs T) {i r : Nat} (hi : i < gs.length) (hr : r < m) : w.cell? ⟨gs.getD i 0, r, none⟩ = some (.int .i64 (ln (T i) r)) := (h.rows i hi).2.1.cell (by rw [(h.rows i hi).2.2]; exact hr)
theorem TabAt.free {lo m : Nat} {w : World} {v : Value} {gs : List Nat} {T : Nat → List Int} (h : TabAt lo m w v gs T) {i : Nat} (hi : i < gs.length) (r : Nat) : w.frozen? ⟨gs.getD i 0, r, none⟩ = false := (h.rows i hi).2.1.free r
theorem TabAt.congr {lo m : Nat} {w : World} {v : Value} {gs : List Nat} {T U : Nat → List Int} (h : TabAt lo m w v gs T) (e : ∀ i, i < gs.length → U i = T i) : TabAt lo m w v gs U := ⟨h.owns, fun i hi => by rw [e i hi]; exact h.rows i hi, h.dist⟩

def NONE : Int := 1152921504606846976
theorem none_c (w : World) : Calls Tryz.prog 97 #[] w fun e w' => e = .returned (.int .i64 NONE) ∧ w' = w := by
  go_enter Tryz.func97, Tryz.ntmps97
  go_wp2_with fail
  go_ret
  exact ⟨rfl, rfl⟩
/-- A row that is filled place by place. -/
def filN (m k : Nat) : List Int := (List.range m).map fun j => if j < k then NONE else 0
theorem filN_length (m k : Nat) : (filN m k).length = m := by simp [filN]
theorem filN_zero (m : Nat) : filN m 0 = List.replicate m 0 := by
  apply List.ext_getElem?
  intro j
  by_cases h : j < m
  · simp [filN, h]
  · simp [filN, h]
theorem filN_all (m : Nat) : filN m m = List.replicate m NONE := by
  apply List.ext_getElem?
  intro j
  by_cases h : j < m
  · simp [filN, h]
  · simp [filN, h]
theorem filN_set (m k : Nat) (h : k < m) : (filN m k).set k NONE = filN m (k + 1) := by
  apply List.ext_getElem?
  intro j
  rw [List.getElem?_set, filN_length]
  by_cases e : k = j
  · subst e
    simp [filN, h]
  · rw [if_neg e]
    by_cases hj : j < m
    · have : j < k ↔ j < k + 1 := by omega
      simp [filN, hj, this]
    · simp [filN, hj]
theorem one_row (w : World) (x : Value) (n : Nat) (h : w.heap.size = n) : ∀ j u, [x][j]? = some u → (w.alloc (.cells #[x] 32)).cell? ((⟨n, 0, none⟩ : Addr).add j) = some u := by
  subst h; exact World.news_of_block (heap_new w (.cells #[x] 32))
theorem Tryz.infoInts : (Tryz.prog.info? 32).map (fun i => (i.zero, i.size, i.bytes)) = some (some (.slice none 0 0), 1, 24) := by kernel_rfl
theorem own_some' {w : World} {base e : Nat} {v : Value} {n : Nat} {xs : List Value} (h : w.ownsRow base e 1 v n xs) (h0 : 0 < n) : ∃ g cap, v = .slice (some ⟨g, 0, none⟩) n cap ∧ base ≤ g := by
  rcases h.2 with ⟨_, h2⟩ | ⟨g, cap, cur, hv, hg, _⟩
  · omega
  · exact ⟨g, cap, hv, hg⟩
/-- One row more. -/
theorem TabAt.push {lo m g : Nat} {w w1 w4 : World} {v v' : Value} {gs : List Nat} {T : Nat → List Int} {R : List Int} (h : TabAt lo m w v gs T) (hw : Below w.heap.size w w1) (hg : w.heap.size ≤ g) (hR : Ro g #[] R w1) (hl : R.length = m) (hlo : lo ≤ w.heap.size)
    (hown : w4.ownsRow lo 32 1 v' (gs.length + 1) (tabVs m gs ++ [.slice (some ⟨g, 0, none⟩) m m])) (hk : Kept (fun b => some b = v.ownBlock) w1 w4) : TabAt lo m w4 v' (gs ++ [g]) (fun i => if i < gs.length then T i else R) := by
  have hvb : ∀ b, some b = v.ownBlock → b < w.heap.size := fun b hb => (ownsRow_lt h.owns hb.symm).2
  refine ⟨?_, fun i hi => ?_, fun i j hi hj e => ?_⟩
  · have e : tabVs m (gs ++ [g]) = tabVs m gs ++ [.slice (some ⟨g, 0, none⟩) m m] := by simp [tabVs]
    rw [e, List.length_append]; exact hown
  · rw [List.length_append, List.length_singleton] at hi
    by_cases c : i < gs.length
    · rw [gd_left c, if_pos c]
      obtain ⟨p1, p2, p3⟩ := h.rows i c
      refine ⟨p1, Ro.kept (p2.kept (Kept.of_below hw) (by have := p2.lt; omega)) hk (fun e => ?_), p3⟩
      exact ownsRow_apart h.owns p2 (by decide) e.symm
    · have e : i = gs.length := by omega
      rw [e, gd_right, if_neg (by omega)]
      exact ⟨by omega, hR.kept hk (fun e => by have := hvb _ e; omega), hl⟩
  · rw [List.length_append, List.length_singleton] at hi hj
    have old : ∀ i, i < gs.length → gs.getD i 0 < w.heap.size := fun i hi => (h.rows i hi).2.1.lt
    by_cases ci : i < gs.length
    · by_cases cj : j < gs.length
      · rw [gd_left ci, gd_left cj]; exact h.dist i j ci cj e
      · have ej : j = gs.length := by omega
        rw [gd_left ci, ej, gd_right]
        have := old i ci; omega
    · have ei : i = gs.length := by omega
      have cj : j < gs.length := by omega
      rw [ei, gd_right, gd_left cj]
      have := old j cj; omega
theorem TabAt.empty (lo m : Nat) (w : World) (T : Nat → List Int) : TabAt lo m w (.slice none 0 0) [] T := ⟨World.ownsRow_nil _ _ _ _, fun i hi => by simp at hi, fun i j hi => by simp at hi⟩

/-- The first table: all none, but for one. -/
def T0 (n : Nat) (i : Nat) : List Int := if i = 0 then (List.replicate (n + 2) NONE).set 1 0 else List.replicate (n + 2) NONE
def TabOk (n : Nat) (T : Nat → List Int) (w : World) (e : Ending) (w' : World) : Prop := ∃ g0 c0 gs, e = .returned (.slice (some ⟨g0, 0, none⟩) (n + 1) c0) ∧ gs.length = n + 1 ∧ TabAt w.heap.size (n + 2) w' (.slice (some ⟨g0, 0, none⟩) (n + 1) c0) gs T ∧ Below w.heap.size w w'

set_option maxHeartbeats 2000000 in
set_option maxRecDepth 100000 in
theorem start_c (n : Nat) (w : World) (hn : n ≤ 320) : Calls Tryz.prog 75 #[.int .i64 n] w (TabOk n (T0 n) w) := by
  obtain ⟨i0, hi0, hz0, hz1', hz2'⟩ := info_parts Tryz.info3
  obtain ⟨i1, hi1, hy0, hy1', hy2'⟩ := info_parts Tryz.infoInts
  have hmk := made_ints (n + 2) i0 hi0 hz0 hz1' hz2' (by omega)
  obtain ⟨m, hm⟩ : ∃ m, n + 2 = m := ⟨_, rfl⟩
  have hm' : (n : Int) + 2 = (m : Int) := by omega
  have hm1 : m ≤ n + 2 := by omega
  have hm2 : n + 2 ≤ m := by omega
  have HM := hide hm
  rw [hm, ← filN_zero] at hmk
  clear hm
  go_enter Tryz.func75, Tryz.ntmps75
  go_wp2_with fail
  go_loopg [3, 4] (n + 1) (fun gk v3 v4 wx => ∃ gs : List Nat, gs.length + gk = n + 1 ∧ v4 = .int .i64 gs.length ∧ Hid (TabAt w.heap.size m wx v3 gs (fun _ => List.replicate m NONE)) ∧ Hid (Below w.heap.size w wx))
  case atStart => exact ⟨[], by simp, rfl, TabAt.empty _ _ _ _, Below.refl _ _⟩
  case round =>
    obtain ⟨gs, hig, rfl, HT, HB⟩ := hrel
    obtain ⟨W0, rfl⟩ : ∃ W, W = wr := ⟨wr, rfl⟩
    have hszw := HB.out.size
    cases gk with
    | zero =>
      have hle : ¬ (gs.length : Int) ≤ (n : Int) := by omega
      obtain ⟨g0, c0, rfl, hg0⟩ := own_some' HT.out.owns (by omega)
      have r0 := HT.out.row (i := 0) (by omega)
      have f0 := HT.out.free (i := 0) (by omega) 1
      have cl := HT.out.cell (i := 0) (r := 1) (by omega) (by omega)
      have HST := hide (HT.out.set (i := 0) (r := 1) (by omega) (by omega) 0)
      have HGL := hide (show gs.length = n + 1 by omega)
      have hm1' : (1 : Int) < (m : Int) := by omega
      have hg1' : (0 : Int) < (gs.length : Int) := by omega
      have HBS := hide (HB.out.setCell (p := ⟨gs.getD 0 0, 1, none⟩) (HT.out.rows 0 (by omega)).1 (.int .i64 0))
      generalize gs.getD 0 0 = gr at r0 f0 cl HST HBS
      generalize ln (List.replicate m NONE) 1 = V at cl
      go_wp2_with fail
      go_ret
      have hgl := HGL.out
      refine ⟨g0, c0, gs, by rw [← hgl]; rfl, hgl, ?_, HBS.out⟩
      rw [← hgl]
      have := HST.out
      rw [← HM.out] at this
      refine this.congr (fun i _ => ?_)
      unfold T0
      by_cases e : i = 0
      · subst e; simp
      · simp [e]
    | succ g1 =>
      have hle : (gs.length : Int) ≤ (n : Int) := by omega
      obtain ⟨a3, c3, rfl⟩ : ∃ a c, _ = Value.slice a gs.length c := own_form HT.out.owns
      go_wp2_with fail
      go_loopg [6] m (fun gj v6 wx => ∃ k : Nat, k + gj = m ∧ v6 = .int .i64 k ∧ Hid (Ro W0.heap.size #[] (filN m k) wx ∧ Below W0.heap.size W0 wx))
      case atStart => exact ⟨0, by omega, rfl, heap_new W0 _, (Below.refl _ W0).alloc (Nat.le_refl _) _⟩
      case round =>
        obtain ⟨k, hkg, rfl, HR⟩ := hrel
        cases gk with
        | zero =>
          obtain rfl : k = m := by omega
          have HR2 : Hid (Ro W0.heap.size #[] (List.replicate k NONE) wr) := by have := HR.out.1; rw [filN_all] at this; exact this
          have hszr : W0.heap.size ≤ wr.heap.size := HR.out.2.size
          have HOW := hide (ownsRow_kept HT.out.owns (Kept.of_below HR.out.2) (fun g hg e => by have := (ownsRow_lt HT.out.owns hg).2; omega))
          go_wp2_with (at_builtin; refine wpList_append_own _ rfl _ _ 101 rfl w.heap.size 32 i1 (.slice none 0 0) 1 24 Tryz.underlying101 hi1 hy0 hy1' hy2' rfl (by decide) _ _ _ rfl (World.ownsRow.alloc HOW.out _) ⟨_, 0, none⟩ 1 1 [.slice (some ⟨W0.heap.size, 0, none⟩) k k] rfl rfl (one_row _ _ _ (by simp)) (by intro u hu; simp at hu; subst hu; rfl) (by unfold maxLen; omega) (by omega) (by simp; omega) ?_; intro v' w4 hown' hgrow hnil; have HO4 := hide hown'; have HGR : Hid (World.grownBy _ w4 (Value.ownBlock (.slice a3 gs.length c3))) := hgrow; clear hown' hgrow hnil)
          go_roundg g1
          case measure => omega
          case rel =>
            refine ⟨gs ++ [W0.heap.size], by simp; omega, by simp, ?_, ?_⟩
            · have hk := Kept.of_grown HGR.out
              have hk2 : Kept (fun b => some b = (Value.slice a3 gs.length c3).ownBlock) wr w4 := by
                refine Kept.trans (M' := fun b => some b = (Value.slice a3 gs.length c3).ownBlock) (b := wr.alloc _) (Kept.alloc _ (Kept.refl _ wr) _) hk (fun _ _ h => h)
              have := HT.out.push HR.out.2 (Nat.le_refl _) HR2.out (by simp) hszw HO4.out hk2
              exact this.congr (fun i _ => by simp)
            · exact ((HB.out.trans (HR.out.2.mono hszw)).alloc (by omega) _).grown HGR.out (by simp; omega) (fun g e => (ownsRow_lt HT.out.owns e).1)
        | succ g2 =>
          have hlk : (k : Int) < (m : Int) := by omega
          have cl := HR.out.1.cell (i := k) (by rw [filN_length]; omega)
          have fl := HR.out.1.free k
          have hset := HR.out.1.set (i := k) (by rw [filN_length]; omega) NONE
          rw [filN_set m k (by omega)] at hset
          have HSET := hide hset
          clear hset
          generalize ln (filN m k) k = V at cl
          have hN := none_c wr
          generalize NONE = Q at HSET hN
          have HNN := hide hN
          clear hN
          go_wp2_with (go_at_call 97; refine HNN.out.mono ?_; rintro e w2 ⟨rfl, rfl⟩)
          go_roundg g2
          case measure => omega
          case rel => exact ⟨k + 1, by omega, by go_num, HSET.out, HR.out.2.setCell (Nat.le_refl _) _⟩
#print axioms start_c
end Go.Proofs.YtlakgbckopjelaaGreatDoor.L

