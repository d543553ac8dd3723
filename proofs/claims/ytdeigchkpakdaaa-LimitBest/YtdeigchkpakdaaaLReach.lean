/- The best lengths are among what the reference reaches: its least cost is theirs. No Go text in sight. -/
import Derived.Test.YtdeigchkpakdaaaLPath
namespace Go.Proofs.Ytdeigchkpakdaaa

/-- Falling lists. -/
def Fal (A : List Nat) : Prop := A.Pairwise (fun x y => y ≤ x)
theorem Fal.unique {A B : List Nat} (hA : Fal A) (hB : Fal B) (h : A.Perm B) : A = B := by
  induction A generalizing B with
  | nil => exact (List.nil_perm.1 h).symm
  | cons x A ih =>
    cases B with
    | nil => exact absurd h.symm (by simp)
    | cons y B =>
      have a1 := List.pairwise_cons.1 hA
      have b1 := List.pairwise_cons.1 hB
      have hxy : x = y := by
        have h1 : x ∈ y :: B := h.mem_iff.1 (by simp)
        have h2 : y ∈ x :: A := h.mem_iff.2 (by simp)
        rcases List.mem_cons.1 h1 with e | e
        · exact e
        · rcases List.mem_cons.1 h2 with f | f
          · exact f.symm
          · have := a1.1 y f; have := b1.1 x e; omega
      subst hxy
      rw [ih a1.2 b1.2 (List.Perm.cons_inv h)]

/-- The heavier one first; of two alike the shorter one. -/
def ahd (x y : Nat × Nat) : Bool := decide (y.1 < x.1) || (decide (x.1 = y.1) && decide (x.2 ≤ y.2))
theorem ahd_iff (x y : Nat × Nat) : ahd x y = true ↔ y.1 < x.1 ∨ (x.1 = y.1 ∧ x.2 ≤ y.2) := by simp [ahd]
theorem ahd_total (x y : Nat × Nat) (h : ¬ ahd x y = true) : ahd y x = true := by
  rw [ahd_iff] at h ⊢; omega
theorem ahd_trans {x y z : Nat × Nat} (h : ahd x y = true) (k : ahd y z = true) : ahd x z = true := by
  rw [ahd_iff] at h k ⊢; omega
def insA (z : Nat × Nat) : List (Nat × Nat) → List (Nat × Nat)
  | [] => [z]
  | y :: r => if ahd z y = true then z :: y :: r else y :: insA z r
def srtA : List (Nat × Nat) → List (Nat × Nat)
  | [] => []
  | z :: r => insA z (srtA r)
theorem insA_perm (z : Nat × Nat) (Z : List (Nat × Nat)) : (insA z Z).Perm (z :: Z) := by
  induction Z with
  | nil => exact List.Perm.refl _
  | cons y r ih =>
    rw [insA]
    split
    · exact List.Perm.refl _
    · exact (List.Perm.cons y ih).trans (List.Perm.swap z y r)
theorem srtA_perm (Z : List (Nat × Nat)) : (srtA Z).Perm Z := by
  induction Z with
  | nil => exact List.Perm.refl _
  | cons z r ih => exact (insA_perm z (srtA r)).trans (List.Perm.cons z ih)
theorem insA_sorted (z : Nat × Nat) (Z : List (Nat × Nat)) (h : Z.Pairwise (fun x y => ahd x y = true)) : (insA z Z).Pairwise (fun x y => ahd x y = true) := by
  induction Z with
  | nil => simp [insA]
  | cons y r ih =>
    have hp := List.pairwise_cons.1 h
    rw [insA]
    split
    · rename_i hz
      refine List.pairwise_cons.2 ⟨fun x hx => ?_, h⟩
      rcases List.mem_cons.1 hx with e | e
      · subst e; exact hz
      · exact ahd_trans hz (hp.1 x e)
    · rename_i hz
      refine List.pairwise_cons.2 ⟨fun x hx => ?_, ih hp.2⟩
      rcases List.mem_cons.1 ((insA_perm z r).mem_iff.1 hx) with e | e
      · subst e; exact ahd_total _ _ hz
      · exact hp.1 x e
theorem srtA_sorted (Z : List (Nat × Nat)) : (srtA Z).Pairwise (fun x y => ahd x y = true) := by
  induction Z with
  | nil => simp [srtA]
  | cons z r ih => exact insA_sorted z _ ih

theorem best_ris {L : Nat} {Z0 : List (Nat × Nat)} (h : Best L Z0) (T P : List (Nat × Nat)) (p : Z0.Perm (P ++ T)) (hs : T.Pairwise (fun x y => ahd x y = true)) : RisL T := by
  induction T generalizing P with
  | nil => simp [RisL]
  | cons x T ih =>
    have hp := List.pairwise_cons.1 hs
    refine List.pairwise_cons.2 ⟨fun y hy => ?_, ih (P ++ [x]) (by simpa using p) hp.2⟩
    rcases (ahd_iff x y).1 (hp.1 y hy) with hlt | ⟨_, hle⟩
    · have q : (P ++ x :: T).Perm (x :: y :: (P ++ T.erase y)) := by
        have q1 : (P ++ x :: T).Perm (x :: (P ++ T)) := List.perm_middle
        have q2 : (P ++ T).Perm (y :: (P ++ T.erase y)) := (List.Perm.append_left P (List.perm_cons_erase hy)).trans List.perm_middle
        exact q1.trans (List.Perm.cons x q2)
      exact h.rarer (p.trans q) hlt
    · exact hle

/-- THE LEAST: the best lengths' cost is reached; what is reached is not below. -/
theorem best_reached {L : Nat} {Z0 : List (Nat × Nat)} {B : List Nat} (h : Best L Z0) (hB : Fal B) (hp : (Z0.map (·.1)).Perm B) (h2 : 2 ≤ B.length) (hw : ∀ w ∈ B, 0 < w) : Rch B L B.length 0 (cst Z0) := by
  have p := srtA_perm Z0
  have hs := srtA_sorted Z0
  have hr : RisL (srtA Z0) := best_ris h (srtA Z0) [] (by simpa using p.symm) hs
  have f := h.feas.perm p.symm
  have hfull := h.full (by have := hp.length_eq; rw [List.length_map] at this; omega) (fun z hz => hw z.1 (hp.mem_iff.1 (List.mem_map.2 ⟨z, hz, rfl⟩)))
  rw [krf_perm L p.symm] at hfull
  have hBe : (srtA Z0).map (·.1) = B := by
    refine Fal.unique ?_ hB ((p.map (·.1)).trans hp)
    unfold Fal
    rw [List.pairwise_map]
    exact hs.imp (fun {x y} hxy => by have := (ahd_iff x y).1 hxy; omega)
  obtain ⟨k, c, r1, r2, r3⟩ := reached hr f.lens hfull L (Nat.le_refl _)
  have hcl : cle (srtA Z0) L = (srtA Z0).length := by
    unfold cle
    rw [List.filter_eq_self.2]
    intro z hz
    have := (f.lens z hz).2
    simpa using this
  rw [hcl] at r1 r2 r3
  rw [List.drop_length, Nat.sub_self, Nat.pow_zero, Nat.mul_one] at r2
  have hk0 : k = 0 := by rw [r2]; simp [krf]
  rw [List.take_length] at r3
  have hl0 : lft ((srtA Z0).map (·.1)) (srtA Z0).length = 0 := by
    unfold lft
    rw [← List.map_drop, List.drop_length]; rfl
  rw [hl0, Nat.mul_zero, Nat.add_zero, cst_perm p] at r3
  have hlen : (srtA Z0).length = B.length := by rw [← hBe, List.length_map]
  rw [hBe, hlen, hk0, r3] at r1
  exact r1
#print axioms best_reached
end Go.Proofs.Ytdeigchkpakdaaa
