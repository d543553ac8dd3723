/- What follows where lengths are the best: they leave no room over; rarer symbols are not shorter; more bits, another order, twice the weights. No Go text in sight. -/
import Derived.Test.YtdeigchkpakdaaaLBound
namespace Go.Proofs.Ytdeigchkpakdaaa

theorem Ris.unique {A B : List Nat} (hA : Ris A) (hB : Ris B) (h : A.Perm B) : A = B := by
  induction A generalizing B with
  | nil => exact (List.nil_perm.1 h).symm
  | cons x A ih =>
    cases B with
    | nil => exact absurd h.symm (by simp)
    | cons y B =>
      have hxy : x = y := by
        have h1 : x ∈ y :: B := h.mem_iff.1 (by simp)
        have h2 : y ∈ x :: A := h.mem_iff.2 (by simp)
        rcases List.mem_cons.1 h1 with e | e
        · exact e
        · rcases List.mem_cons.1 h2 with f | f
          · exact f.symm
          · have := hA.head y f; have := hB.head x e; omega
      subst hxy
      rw [ih hA.tail hB.tail (List.Perm.cons_inv h)]

/-- Sorted by weight. -/
def insZ (z : Nat × Nat) : List (Nat × Nat) → List (Nat × Nat)
  | [] => [z]
  | y :: r => if z.1 ≤ y.1 then z :: y :: r else y :: insZ z r
def srtZ : List (Nat × Nat) → List (Nat × Nat)
  | [] => []
  | z :: r => insZ z (srtZ r)
theorem insZ_perm (z : Nat × Nat) (Z : List (Nat × Nat)) : (insZ z Z).Perm (z :: Z) := by
  induction Z with
  | nil => exact List.Perm.refl _
  | cons y r ih =>
    rw [insZ]
    split
    · exact List.Perm.refl _
    · exact (List.Perm.cons y ih).trans (List.Perm.swap z y r)
theorem srtZ_perm (Z : List (Nat × Nat)) : (srtZ Z).Perm Z := by
  induction Z with
  | nil => exact List.Perm.refl _
  | cons z r ih => exact (insZ_perm z (srtZ r)).trans (List.Perm.cons z ih)
theorem insZ_ris (z : Nat × Nat) (Z : List (Nat × Nat)) (h : Ris (Z.map (·.1))) : Ris ((insZ z Z).map (·.1)) := by
  induction Z with
  | nil => simp [insZ, Ris]
  | cons y r ih =>
    rw [insZ]
    split
    · rename_i hz
      rw [List.map_cons]
      refine h.cons fun x hx => ?_
      rw [List.map_cons, List.mem_cons] at hx
      rcases hx with e | e
      · omega
      · rw [List.map_cons] at h
        have := h.head x e; omega
    · rename_i hz
      rw [List.map_cons] at h ⊢
      refine (ih h.tail).cons fun x hx => ?_
      have hp := ((insZ_perm z r).map (·.1)).mem_iff.1 hx
      rw [List.map_cons, List.mem_cons] at hp
      rcases hp with e | e
      · omega
      · exact h.head x e
theorem srtZ_ris (Z : List (Nat × Nat)) : Ris ((srtZ Z).map (·.1)) := by
  induction Z with
  | nil => simp [srtZ, Ris]
  | cons z r ih => exact insZ_ris z _ ih

theorem sum_perm {A B : List Nat} (h : A.Perm B) : A.sum = B.sum := by
  induction h with
  | nil => rfl
  | cons x _ ih => simp [ih]
  | swap x y l => simp; omega
  | trans _ _ h1 h2 => exact h1.trans h2
theorem cst_perm {Z Y : List (Nat × Nat)} (h : Z.Perm Y) : cst Z = cst Y := sum_perm (h.map _)
theorem krf_perm (L : Nat) {Z Y : List (Nat × Nat)} (h : Z.Perm Y) : krf L Z = krf L Y := sum_perm (h.map _)

/-- Lengths that may be. -/
structure Feas (L : Nat) (Z : List (Nat × Nat)) : Prop where
  lens : ∀ z ∈ Z, 1 ≤ z.2 ∧ z.2 ≤ L
  room : krf L Z ≤ 2 ^ L
theorem Feas.perm {L : Nat} {Z Y : List (Nat × Nat)} (h : Feas L Z) (p : Z.Perm Y) : Feas L Y := ⟨fun z hz => h.lens z (p.mem_iff.2 hz), by rw [← krf_perm L p]; exact h.room⟩
/-- The least cost of weights. -/
def ov (L : Nat) (W : List Nat) : Nat := pre (pk ((srtZ (W.map fun w => (w, 0))).map (·.1)) L) (2 * W.length - 2)
theorem map_pair (W : List Nat) : (W.map fun w => (w, 0)).map (·.1) = W := by induction W <;> simp_all
theorem srt_eq {W V : List Nat} (h : W.Perm V) : (srtZ (W.map fun w => (w, 0))).map (·.1) = (srtZ (V.map fun w => (w, 0))).map (·.1) := by
  refine Ris.unique (srtZ_ris _) (srtZ_ris _) ?_
  have p1 := (srtZ_perm (W.map fun w => (w, 0))).map (·.1)
  have p2 := (srtZ_perm (V.map fun w => (w, 0))).map (·.1)
  rw [map_pair] at p1 p2
  exact p1.trans (h.trans p2.symm)
theorem ov_perm (L : Nat) {W V : List Nat} (h : W.Perm V) : ov L W = ov L V := by
  unfold ov; rw [srt_eq h, h.length_eq]
/-- The same, where the weights are sorted in whatever way. -/
theorem ov_sorted (L : Nat) {W A : List Nat} (h : A.Perm W) (hA : Ris A) : ov L W = pre (pk A L) (2 * A.length - 2) := by
  unfold ov
  have : (srtZ (W.map fun w => (w, 0))).map (·.1) = A := by
    refine Ris.unique (srtZ_ris _) hA ?_
    have p1 := (srtZ_perm (W.map fun w => (w, 0))).map (·.1)
    rw [map_pair] at p1
    exact p1.trans h.symm
  rw [this, h.length_eq]
theorem ov_least {L : Nat} {Z : List (Nat × Nat)} (h : Feas L Z) : ov L (Z.map (·.1)) ≤ cst Z := by
  have p := srtZ_perm Z
  rw [ov_sorted L (p.map (·.1)) (srtZ_ris Z), ← cst_perm p, List.length_map]
  have f := h.perm p.symm
  exact best_least L (srtZ Z) (srtZ_ris Z) (fun z hz => (f.lens z hz).2) f.room

/-- The best lengths. -/
structure Best (L : Nat) (Z : List (Nat × Nat)) : Prop where
  feas : Feas L Z
  cost : cst Z = ov L (Z.map (·.1))
theorem Best.least {L : Nat} {Z Y : List (Nat × Nat)} (h : Best L Z) (hY : Feas L Y) (p : (Y.map (·.1)).Perm (Z.map (·.1))) : cst Z ≤ cst Y := by
  rw [h.cost, ← ov_perm L p]; exact ov_least hY

theorem krf_dvd (L m : Nat) (Z : List (Nat × Nat)) (h : ∀ z ∈ Z, z.2 ≤ m) (hm : m ≤ L) : 2 ^ (L - m) ∣ krf L Z := by
  induction Z with
  | nil => simp [krf]
  | cons z Z ih =>
    rw [krf_cons]
    refine Nat.dvd_add ?_ (ih (fun y hy => h y (by simp [hy])))
    have := h z (by simp)
    exact Nat.pow_dvd_pow 2 (by omega)
theorem max_at (Z : List (Nat × Nat)) (h : Z ≠ []) : ∃ z R, Z.Perm (z :: R) ∧ ∀ y ∈ Z, y.2 ≤ z.2 := by
  induction Z with
  | nil => exact absurd rfl h
  | cons z Z ih =>
    by_cases hz : Z = []
    · subst hz
      exact ⟨z, [], List.Perm.refl _, fun y hy => by rw [List.mem_singleton] at hy; subst hy; exact Nat.le_refl _⟩
    · obtain ⟨u, R, p, hu⟩ := ih hz
      by_cases hc : u.2 ≤ z.2
      · exact ⟨z, Z, List.Perm.refl _, fun y hy => by
          rcases List.mem_cons.1 hy with e | e
          · subst e; exact Nat.le_refl _
          · have := hu y e; omega⟩
      · refine ⟨u, z :: R, (List.Perm.cons z p).trans (List.Perm.swap u z R), fun y hy => ?_⟩
        rcases List.mem_cons.1 hy with e | e
        · subst e; omega
        · exact hu y e
/-- The best lengths leave no room over. -/
theorem Best.full {L : Nat} {Z : List (Nat × Nat)} (h : Best L Z) (h2 : 2 ≤ Z.length) (hw : ∀ z ∈ Z, 0 < z.1) : krf L Z = 2 ^ L := by
  obtain ⟨z, R, p, hmax⟩ := max_at Z (by intro e; subst e; simp at h2)
  have f := h.feas.perm p
  have hz := f.lens z (by simp)
  have hle := h.feas.room
  by_cases hlt : krf L Z < 2 ^ L
  · exfalso
    have hd := krf_dvd L z.2 Z hmax hz.2
    obtain ⟨q, hq⟩ := hd
    have e : (2 : Nat) ^ L = 2 ^ (L - z.2) * 2 ^ z.2 := by rw [← Nat.pow_add, show L - z.2 + z.2 = L by omega]
    have hroom : krf L Z + 2 ^ (L - z.2) ≤ 2 ^ L := by
      rw [hq, e] at hlt
      have := Nat.lt_of_mul_lt_mul_left hlt
      rw [hq, e, ← Nat.mul_succ]
      exact Nat.mul_le_mul_left _ this
    by_cases h1 : z.2 = 1
    · obtain ⟨y, R', hR⟩ : ∃ y R', R = y :: R' := by
        cases R with
        | nil => have := p.length_eq; simp at this; omega
        | cons y R' => exact ⟨y, R', rfl⟩
      subst hR
      have hy := hmax y (p.mem_iff.2 (by simp))
      have hy1 := f.lens y (by simp)
      rw [krf_perm L p, krf_cons, krf_cons, show y.2 = 1 by omega, h1] at hlt
      have : (2 : Nat) ^ L = 2 ^ (L - 1) + 2 ^ (L - 1) := by
        have e2 : L = (L - 1) + 1 := by omega
        conv => lhs; rw [e2, Nat.pow_succ]
        omega
      omega
    · have hf' : Feas L ((z.1, z.2 - 1) :: R) := by
        refine ⟨fun y hy => ?_, ?_⟩
        · rcases List.mem_cons.1 hy with e | e
          · subst e; simp; omega
          · exact f.lens y (by simp [e])
        · rw [krf_perm L p, krf_cons] at hroom
          rw [krf_cons]
          have : 2 ^ (L - (z.2 - 1)) = 2 * 2 ^ (L - z.2) := by rw [show L - (z.2 - 1) = (L - z.2) + 1 by omega, Nat.pow_succ]; omega
          simp only at *
          omega
      have hl := h.least hf' ((p.map (·.1)).symm)
      rw [cst_perm p, cst_cons, cst_cons] at hl
      have hw1 := hw z (p.mem_iff.2 (by simp))
      have : z.1 * z.2 = z.1 * (z.2 - 1) + z.1 := by
        obtain ⟨k, hk⟩ : ∃ k, z.2 = k + 1 := ⟨z.2 - 1, by omega⟩
        rw [hk, Nat.mul_succ]; simp
      simp only at hl
      omega
  · omega
/-- A symbol that weighs more is not longer. -/
theorem Best.rarer {L : Nat} {Z R : List (Nat × Nat)} {x y : Nat × Nat} (h : Best L Z) (p : Z.Perm (x :: y :: R)) (hw : y.1 < x.1) : x.2 ≤ y.2 := by
  by_cases hc : x.2 ≤ y.2
  · exact hc
  · exfalso
    have f := h.feas.perm p
    have hx := f.lens x (by simp)
    have hy := f.lens y (by simp)
    have hf' : Feas L ((x.1, y.2) :: (y.1, x.2) :: R) := by
      refine ⟨fun z hz => ?_, ?_⟩
      · rcases List.mem_cons.1 hz with e | e
        · subst e; exact hy
        · rcases List.mem_cons.1 e with e | e
          · subst e; exact hx
          · exact f.lens z (by simp [e])
      · have := f.room
        rw [krf_cons, krf_cons] at this ⊢
        simp only at *
        omega
    have hl := h.least hf' ((p.map (·.1)).symm)
    rw [cst_perm p, cst_cons, cst_cons, cst_cons, cst_cons] at hl
    simp only at hl
    obtain ⟨a, ha⟩ : ∃ a, x.1 = y.1 + a + 1 := ⟨x.1 - y.1 - 1, by omega⟩
    obtain ⟨b, hb⟩ : ∃ b, x.2 = y.2 + b + 1 := ⟨x.2 - y.2 - 1, by omega⟩
    rw [ha, hb] at hl
    simp only [Nat.add_mul, Nat.mul_add] at hl
    omega
/-- Where lengths may be longer the cost is not greater. -/
theorem krf_wider (L m : Nat) (Z : List (Nat × Nat)) (h : ∀ z ∈ Z, z.2 ≤ L) : krf (L + m) Z = krf L Z * 2 ^ m := by
  induction Z with
  | nil => simp [krf]
  | cons z Z ih =>
    rw [krf_cons, krf_cons, ih (fun y hy => h y (by simp [hy])), Nat.add_mul, ← Nat.pow_add]
    have := h z (by simp)
    rw [show L + m - z.2 = L - z.2 + m by omega]
theorem Feas.wider {L : Nat} {Z : List (Nat × Nat)} (h : Feas L Z) (m : Nat) : Feas (L + m) Z := by
  refine ⟨fun z hz => ⟨(h.lens z hz).1, by have := (h.lens z hz).2; omega⟩, ?_⟩
  rw [krf_wider L m Z (fun z hz => (h.lens z hz).2), Nat.pow_add]
  exact Nat.mul_le_mul_right _ h.room
theorem Best.wider {L m : Nat} {Z Y : List (Nat × Nat)} (h : Best L Z) (k : Best (L + m) Y) (p : (Z.map (·.1)).Perm (Y.map (·.1))) : cst Y ≤ cst Z := k.least (h.feas.wider m) p
theorem Best.order {L : Nat} {Z Y : List (Nat × Nat)} (h : Best L Z) (k : Best L Y) (p : (Z.map (·.1)).Perm (Y.map (·.1))) : cst Z = cst Y := by
  rw [h.cost, k.cost, ov_perm L p]
/-- Where all weigh twice as much. -/
def dbl (Z : List (Nat × Nat)) : List (Nat × Nat) := Z.map fun z => (2 * z.1, z.2)
theorem cst_dbl (Z : List (Nat × Nat)) : cst (dbl Z) = 2 * cst Z := by
  induction Z with
  | nil => simp [dbl, cst]
  | cons z Z ih =>
    have e : dbl (z :: Z) = (2 * z.1, z.2) :: dbl Z := rfl
    rw [e, cst_cons, cst_cons, ih, Nat.mul_add, Nat.mul_assoc]
theorem krf_dbl (L : Nat) (Z : List (Nat × Nat)) : krf L (dbl Z) = krf L Z := by
  unfold krf dbl; rw [List.map_map]; rfl
theorem Feas.dbl {L : Nat} {Z : List (Nat × Nat)} (h : Feas L Z) : Feas L (dbl Z) := by
  refine ⟨fun z hz => ?_, by rw [krf_dbl]; exact h.room⟩
  obtain ⟨y, hy, rfl⟩ := List.mem_map.1 hz
  exact h.lens y hy
/-- Half of the weights. -/
def hlf (Z : List (Nat × Nat)) : List (Nat × Nat) := Z.map fun z => (z.1 / 2, z.2)
theorem Feas.hlf {L : Nat} {Z : List (Nat × Nat)} (h : Feas L Z) : Feas L (hlf Z) := by
  refine ⟨fun z hz => ?_, by unfold krf Go.Proofs.Ytdeigchkpakdaaa.hlf; rw [List.map_map]; exact h.room⟩
  obtain ⟨y, hy, rfl⟩ := List.mem_map.1 hz
  exact h.lens y hy
theorem Best.twice {L : Nat} {Z Y : List (Nat × Nat)} (h : Best L Z) (k : Best L Y) (e : Y.map (·.1) = (Z.map (·.1)).map (2 * ·)) : cst Y = 2 * cst Z := by
  have h1 : cst Y ≤ cst (dbl Z) := k.least h.feas.dbl (by rw [e]; unfold dbl; rw [List.map_map, List.map_map]; exact List.Perm.refl _)
  rw [cst_dbl] at h1
  have e2 : (hlf Y).map (·.1) = Z.map (·.1) := by
    have : (hlf Y).map (·.1) = (Y.map (·.1)).map (· / 2) := by unfold hlf; rw [List.map_map, List.map_map]; rfl
    rw [this, e, List.map_map]
    have : ((· / 2) ∘ (2 * ·) : Nat → Nat) = id := by funext x; simp
    rw [this, List.map_id]
  have e3 : dbl (hlf Y) = Y := by
    unfold dbl hlf
    rw [List.map_map]
    conv => rhs; rw [← List.map_id Y]
    apply List.map_congr_left
    intro z hz
    have hm : z.1 ∈ Y.map (·.1) := List.mem_map.2 ⟨z, hz, rfl⟩
    rw [e] at hm
    obtain ⟨w, _, hw⟩ := List.mem_map.1 hm
    have hw' : 2 * w = z.1 := hw
    simp only [Function.comp, id]
    rw [show 2 * (z.1 / 2) = z.1 by omega]
  have h2 : cst Z ≤ cst (hlf Y) := h.least k.feas.hlf (by rw [e2])
  have h3 := cst_dbl (hlf Y)
  rw [e3] at h3
  omega
#print axioms Best.twice
#print axioms Best.full
end Go.Proofs.Ytdeigchkpakdaaa
