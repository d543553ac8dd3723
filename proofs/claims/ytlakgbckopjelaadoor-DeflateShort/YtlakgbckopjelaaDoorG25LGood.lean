/- Several texts, laid together: LCons, LTake, LGood. -/
import Derived.Test.YtlakgbckopjelaaDoorG24LBound
/- What follows where lengths are the best: they leave no room over; rarer symbols are not shorter; more bits, another order, twice the weights. No Go text in sight. -/
namespace Go.Proofs.YtlakgbckopjelaaDoor.L
set_option maxRecDepth 100000

theorem Ris.unique {A B : List Nat} (hA : Ris A) (hB : Ris B) (h : A.Perm B) : A = B := by
  induction A generalizing B with
  | nil => exact (List.nil_perm.1 h).symm
  | cons x A ih =>
    cases B with
    | nil => exact absurd h.symm (by simp)
    | cons y B =>
      have hxy : x = y := by
        have h1 : x ∈ y :: B := h.mem_iff.1 (by simp)
        have h2 : y ∈ x :: A := h.mem_iff.2 (by simp)
        rcases List.mem_cons.1 h1 with e | e
        · exact e
        · rcases List.mem_cons.1 h2 with f | f
          · exact f.symm
          · have := hA.head y f; have := hB.head x e; omega
      subst hxy
      rw [ih hA.tail hB.tail (List.Perm.cons_inv h)]

/-- Sorted by weight. -/
def insZ (z : Nat × Nat) : List (Nat × Nat) → List (Nat × Nat)
  | [] => [z]
  | y :: r => if z.1 ≤ y.1 then z :: y :: r else y :: insZ z r
def srtZ : List (Nat × Nat) → List (Nat × Nat)
  | [] => []
  | z :: r => insZ z (srtZ r)
theorem insZ_perm (z : Nat × Nat) (Z : List (Nat × Nat)) : (insZ z Z).Perm (z :: Z) := by
  induction Z with
  | nil => exact List.Perm.refl _
  | cons y r ih =>
    rw [insZ]
    split
    · exact List.Perm.refl _
    · exact (List.Perm.cons y ih).trans (List.Perm.swap z y r)
theorem srtZ_perm (Z : List (Nat × Nat)) : (srtZ Z).Perm Z := by
  induction Z with
  | nil => exact List.Perm.refl _
  | cons z r ih => exact (insZ_perm z (srtZ r)).trans (List.Perm.cons z ih)
theorem insZ_ris (z : Nat × Nat) (Z : List (Nat × Nat)) (h : Ris (Z.map (·.1))) : Ris ((insZ z Z).map (·.1)) := by
  induction Z with
  | nil => simp [insZ, Ris]
  | cons y r ih =>
    rw [insZ]
    split
    · rename_i hz
      rw [List.map_cons]
      refine h.cons fun x hx => ?_
      rw [List.map_cons, List.mem_cons] at hx
      rcases hx with e | e
      · omega
      · rw [List.map_cons] at h
        have := h.head x e; omega
    · rename_i hz
      rw [List.map_cons] at h ⊢
      refine (ih h.tail).cons fun x hx => ?_
      have hp := ((insZ_perm z r).map (·.1)).mem_iff.1 hx
      rw [List.map_cons, List.mem_cons] at hp
      rcases hp with e | e
      · omega
      · exact h.head x e
theorem srtZ_ris (Z : List (Nat × Nat)) : Ris ((srtZ Z).map (·.1)) := by
  induction Z with
  | nil => simp [srtZ, Ris]
  | cons z r ih => exact insZ_ris z _ ih

theorem sum_perm {A B : List Nat} (h : A.Perm B) : A.sum = B.sum := by
  induction h with
  | nil => rfl
  | cons x _ ih => simp [ih]
  | swap x y l => simp; omega
  | trans _ _ h1 h2 => exact h1.trans h2
theorem cst_perm {Z Y : List (Nat × Nat)} (h : Z.Perm Y) : cst Z = cst Y := sum_perm (h.map _)
theorem krf_perm (L : Nat) {Z Y : List (Nat × Nat)} (h : Z.Perm Y) : krf L Z = krf L Y := sum_perm (h.map _)

/-- Lengths that may be. -/
structure Feas (L : Nat) (Z : List (Nat × Nat)) : Prop where
  lens : ∀ z ∈ Z, 1 ≤ z.2 ∧ z.2 ≤ L
  room : krf L Z ≤ 2 ^ L
theorem Feas.perm {L : Nat} {Z Y : List (Nat × Nat)} (h : Feas L Z) (p : Z.Perm Y) : Feas L Y := ⟨fun z hz => h.lens z (p.mem_iff.2 hz), by rw [← krf_perm L p]; exact h.room⟩
/-- The least cost of weights. -/
def ov (L : Nat) (W : List Nat) : Nat := pre (pk ((srtZ (W.map fun w => (w, 0))).map (·.1)) L) (2 * W.length - 2)
theorem map_pair (W : List Nat) : (W.map fun w => (w, 0)).map (·.1) = W := by induction W <;> simp_all
theorem srt_eq {W V : List Nat} (h : W.Perm V) : (srtZ (W.map fun w => (w, 0))).map (·.1) = (srtZ (V.map fun w => (w, 0))).map (·.1) := by
  refine Ris.unique (srtZ_ris _) (srtZ_ris _) ?_
  have p1 := (srtZ_perm (W.map fun w => (w, 0))).map (·.1)
  have p2 := (srtZ_perm (V.map fun w => (w, 0))).map (·.1)
  rw [map_pair] at p1 p2
  exact p1.trans (h.trans p2.symm)
theorem ov_perm (L : Nat) {W V : List Nat} (h : W.Perm V) : ov L W = ov L V := by
  unfold ov; rw [srt_eq h, h.length_eq]
/-- The same, where the weights are sorted in whatever way. -/
theorem ov_sorted (L : Nat) {W A : List Nat} (h : A.Perm W) (hA : Ris A) : ov L W = pre (pk A L) (2 * A.length - 2) := by
  unfold ov
  have : (srtZ (W.map fun w => (w, 0))).map (·.1) = A := by
    refine Ris.unique (srtZ_ris _) hA ?_
    have p1 := (srtZ_perm (W.map fun w => (w, 0))).map (·.1)
    rw [map_pair] at p1
    exact p1.trans h.symm
  rw [this, h.length_eq]
theorem ov_least {L : Nat} {Z : List (Nat × Nat)} (h : Feas L Z) : ov L (Z.map (·.1)) ≤ cst Z := by
  have p := srtZ_perm Z
  rw [ov_sorted L (p.map (·.1)) (srtZ_ris Z), ← cst_perm p, List.length_map]
  have f := h.perm p.symm
  exact best_least L (srtZ Z) (srtZ_ris Z) (fun z hz => (f.lens z hz).2) f.room

/-- The best lengths. -/
structure Best (L : Nat) (Z : List (Nat × Nat)) : Prop where
  feas : Feas L Z
  cost : cst Z = ov L (Z.map (·.1))
theorem Best.least {L : Nat} {Z Y : List (Nat × Nat)} (h : Best L Z) (hY : Feas L Y) (p : (Y.map (·.1)).Perm (Z.map (·.1))) : cst Z ≤ cst Y := by
  rw [h.cost, ← ov_perm L p]; exact ov_least hY

theorem krf_dvd (L m : Nat) (Z : List (Nat × Nat)) (h : ∀ z ∈ Z, z.2 ≤ m) (hm : m ≤ L) : 2 ^ (L - m) ∣ krf L Z := by
  induction Z with
  | nil => simp [krf]
  | cons z Z ih =>
    rw [krf_cons]
    refine Nat.dvd_add ?_ (ih (fun y hy => h y (by simp [hy])))
    have := h z (by simp)
    exact Nat.pow_dvd_pow 2 (by omega)
theorem max_at (Z : List (Nat × Nat)) (h : Z ≠ []) : ∃ z R, Z.Perm (z :: R) ∧ ∀ y ∈ Z, y.2 ≤ z.2 := by
  induction Z with
  | nil => exact absurd rfl h
  | cons z Z ih =>
    by_cases hz : Z = []
    · subst hz
      exact ⟨z, [], List.Perm.refl _, fun y hy => by rw [List.mem_singleton] at hy; subst hy; exact Nat.le_refl _⟩
    · obtain ⟨u, R, p, hu⟩ := ih hz
      by_cases hc : u.2 ≤ z.2
      · exact ⟨z, Z, List.Perm.refl _, fun y hy => by
          rcases List.mem_cons.1 hy with e | e
          · subst e; exact Nat.le_refl _
          · have := hu y e; omega⟩
      · refine ⟨u, z :: R, (List.Perm.cons z p).trans (List.Perm.swap u z R), fun y hy => ?_⟩
        rcases List.mem_cons.1 hy with e | e
        · subst e; omega
        · exact hu y e
/-- The best lengths leave no room over. -/
theorem Best.full {L : Nat} {Z : List (Nat × Nat)} (h : Best L Z) (h2 : 2 ≤ Z.length) (hw : ∀ z ∈ Z, 0 < z.1) : krf L Z = 2 ^ L := by
  obtain ⟨z, R, p, hmax⟩ := max_at Z (by intro e; subst e; simp at h2)
  have f := h.feas.perm p
  have hz := f.lens z (by simp)
  have hle := h.feas.room
  by_cases hlt : krf L Z < 2 ^ L
  · exfalso
    have hd := krf_dvd L z.2 Z hmax hz.2
    obtain ⟨q, hq⟩ := hd
    have e : (2 : Nat) ^ L = 2 ^ (L - z.2) * 2 ^ z.2 := by rw [← Nat.pow_add, show L - z.2 + z.2 = L by omega]
    have hroom : krf L Z + 2 ^ (L - z.2) ≤ 2 ^ L := by
      rw [hq, e] at hlt
      have := Nat.lt_of_mul_lt_mul_left hlt
      rw [hq, e, ← Nat.mul_succ]
      exact Nat.mul_le_mul_left _ this
    by_cases h1 : z.2 = 1
    · obtain ⟨y, R', hR⟩ : ∃ y R', R = y :: R' := by
        cases R with
        | nil => have := p.length_eq; simp at this; omega
        | cons y R' => exact ⟨y, R', rfl⟩
      subst hR
      have hy := hmax y (p.mem_iff.2 (by simp))
      have hy1 := f.lens y (by simp)
      rw [krf_perm L p, krf_cons, krf_cons, show y.2 = 1 by omega, h1] at hlt
      have : (2 : Nat) ^ L = 2 ^ (L - 1) + 2 ^ (L - 1) := by
        have e2 : L = (L - 1) + 1 := by omega
        conv => lhs; rw [e2, Nat.pow_succ]
        omega
      omega
    · have hf' : Feas L ((z.1, z.2 - 1) :: R) := by
        refine ⟨fun y hy => ?_, ?_⟩
        · rcases List.mem_cons.1 hy with e | e
          · subst e; simp; omega
          · exact f.lens y (by simp [e])
        · rw [krf_perm L p, krf_cons] at hroom
          rw [krf_cons]
          have : 2 ^ (L - (z.2 - 1)) = 2 * 2 ^ (L - z.2) := by rw [show L - (z.2 - 1) = (L - z.2) + 1 by omega, Nat.pow_succ]; omega
          simp only at *
          omega
      have hl := h.least hf' ((p.map (·.1)).symm)
      rw [cst_perm p, cst_cons, cst_cons] at hl
      have hw1 := hw z (p.mem_iff.2 (by simp))
      have : z.1 * z.2 = z.1 * (z.2 - 1) + z.1 := by
        obtain ⟨k, hk⟩ : ∃ k, z.2 = k + 1 := ⟨z.2 - 1, by omega⟩
        rw [hk, Nat.mul_succ]; simp
      simp only at hl
      omega
  · omega
/-- Where all weigh twice as much. -/
def dbl (Z : List (Nat × Nat)) : List (Nat × Nat) := Z.map fun z => (2 * z.1, z.2)
theorem cst_dbl (Z : List (Nat × Nat)) : cst (dbl Z) = 2 * cst Z := by
  induction Z with
  | nil => simp [dbl, cst]
  | cons z Z ih =>
    have e : dbl (z :: Z) = (2 * z.1, z.2) :: dbl Z := rfl
    rw [e, cst_cons, cst_cons, ih, Nat.mul_add, Nat.mul_assoc]
theorem krf_dbl (L : Nat) (Z : List (Nat × Nat)) : krf L (dbl Z) = krf L Z := by
  unfold krf dbl; rw [List.map_map]; rfl
theorem Feas.dbl {L : Nat} {Z : List (Nat × Nat)} (h : Feas L Z) : Feas L (dbl Z) := by
  refine ⟨fun z hz => ?_, by rw [krf_dbl]; exact h.room⟩
  obtain ⟨y, hy, rfl⟩ := List.mem_map.1 hz
  exact h.lens y hy
/-- Half of the weights. -/
def hlf (Z : List (Nat × Nat)) : List (Nat × Nat) := Z.map fun z => (z.1 / 2, z.2)
theorem Feas.hlf {L : Nat} {Z : List (Nat × Nat)} (h : Feas L Z) : Feas L (hlf Z) := by
  refine ⟨fun z hz => ?_, by unfold krf Go.Proofs.YtlakgbckopjelaaDoor.L.hlf; rw [List.map_map]; exact h.room⟩
  obtain ⟨y, hy, rfl⟩ := List.mem_map.1 hz
  exact h.lens y hy
theorem Best.twice {L : Nat} {Z Y : List (Nat × Nat)} (h : Best L Z) (k : Best L Y) (e : Y.map (·.1) = (Z.map (·.1)).map (2 * ·)) : cst Y = 2 * cst Z := by
  have h1 : cst Y ≤ cst (dbl Z) := k.least h.feas.dbl (by rw [e]; unfold dbl; rw [List.map_map, List.map_map]; exact List.Perm.refl _)
  rw [cst_dbl] at h1
  have e2 : (hlf Y).map (·.1) = Z.map (·.1) := by
    have : (hlf Y).map (·.1) = (Y.map (·.1)).map (· / 2) := by unfold hlf; rw [List.map_map, List.map_map]; rfl
    rw [this, e, List.map_map]
    have : ((· / 2) ∘ (2 * ·) : Nat → Nat) = id := by funext x; simp
    rw [this, List.map_id]
  have e3 : dbl (hlf Y) = Y := by
    unfold dbl hlf
    rw [List.map_map]
    conv => rhs; rw [← List.map_id Y]
    apply List.map_congr_left
    intro z hz
    have hm : z.1 ∈ Y.map (·.1) := List.mem_map.2 ⟨z, hz, rfl⟩
    rw [e] at hm
    obtain ⟨w, _, hw⟩ := List.mem_map.1 hm
    have hw' : 2 * w = z.1 := hw
    simp only [Function.comp, id]
    rw [show 2 * (z.1 / 2) = z.1 by omega]
  have h2 : cst Z ≤ cst (hlf Y) := h.least k.feas.hlf (by rw [e2])
  have h3 := cst_dbl (hlf Y)
  rw [e3] at h3
  omega
#print axioms Best.twice
#print axioms Best.full
end Go.Proofs.YtlakgbckopjelaaDoor.L

/- What is taken of what is merged makes the best lengths: a symbol's length is how many levels take it. No Go text in sight. -/
namespace Go.Proofs.YtlakgbckopjelaaDoor.L
set_option maxRecDepth 100000

/-- How many levels take symbol i, where level j takes the first c j. -/
def ll (c : Nat → Nat) (d i : Nat) : Nat := sumD (fun j => if i < c j then 1 else 0) d
theorem ll_le (c : Nat → Nat) (d i : Nat) : ll c d i ≤ d := by
  unfold ll
  induction d with
  | zero => simp [sumD]
  | succ d ih => rw [sumD]; split <;> omega
/-- Weights with lengths. -/
def Zof (A : List Nat) (f : Nat → Nat) : List (Nat × Nat) := (List.range A.length).map fun i => (A.getD i 0, f i)
theorem Zof_length (A : List Nat) (f : Nat → Nat) : (Zof A f).length = A.length := by simp [Zof]
theorem Zof_fst (A : List Nat) (f : Nat → Nat) : (Zof A f).map (·.1) = A := by
  unfold Zof
  rw [List.map_map]
  apply List.ext_getElem?
  intro i
  by_cases h : i < A.length
  · simp [h, List.getD]
  · simp [h]
theorem sum_map_add (l : List Nat) (f g : Nat → Nat) : (l.map fun i => f i + g i).sum = (l.map f).sum + (l.map g).sum := by
  induction l with
  | nil => simp
  | cons x l ih => simp only [List.map_cons, List.sum_cons, ih]; omega
theorem cst_Zof (A : List Nat) (f : Nat → Nat) : cst (Zof A f) = ((List.range A.length).map fun i => A.getD i 0 * f i).sum := by
  unfold cst Zof; rw [List.map_map]; rfl
theorem krf_Zof (L : Nat) (A : List Nat) (f : Nat → Nat) : krf L (Zof A f) = ((List.range A.length).map fun i => 2 ^ (L - f i)).sum := by
  unfold krf Zof; rw [List.map_map]; rfl
theorem sum_if (n c x : Nat) (hc : c ≤ n) : ((List.range n).map fun i => if i < c then x else 0).sum = c * x := by
  induction n generalizing c with
  | zero => have : c = 0 := by omega
            subst this; simp
  | succ n ih =>
    rw [List.range_succ, List.map_append, List.sum_append]
    by_cases h : c ≤ n
    · rw [ih c h]
      have : ¬ n < c := by omega
      simp [this]
    · have hc' : c = n + 1 := by omega
      subst hc'
      have e : ((List.range n).map fun i => if i < n + 1 then x else 0) = (List.range n).map fun i => if i < n then x else 0 := by
        apply List.map_congr_left
        intro i hi
        have : i < n := by simpa using hi
        rw [if_pos (by omega), if_pos this]
      rw [e, ih n (Nat.le_refl _)]
      simp [Nat.add_mul]
theorem pre_sum (A : List Nat) (c : Nat) (hc : c ≤ A.length) : ((List.range A.length).map fun i => A.getD i 0 * if i < c then 1 else 0).sum = pre A c := by
  have key : ∀ n, n ≤ A.length → ((List.range n).map fun i => A.getD i 0 * if i < c then 1 else 0).sum = pre A (min n c) := by
    intro n hn
    induction n with
    | zero => simp [pre_zero]
    | succ n ih =>
      rw [List.range_succ, List.map_append, List.sum_append, ih (by omega)]
      by_cases h : n < c
      · rw [show min n c = n by omega, show min (n + 1) c = n + 1 by omega, pre_succ A n (by omega)]
        simp [h]
      · rw [show min n c = c by omega, show min (n + 1) c = c by omega]
        simp [h]
  have := key A.length (Nat.le_refl _)
  rwa [show min A.length c = c by omega] at this
/-- The cost of such lengths is that of what is taken. -/
theorem cst_ll (A : List Nat) (c : Nat → Nat) (hc : ∀ j, c j ≤ A.length) (d : Nat) : cst (Zof A (ll c d)) = cc A c d := by
  rw [cst_Zof]
  induction d with
  | zero =>
    have : (fun i => A.getD i 0 * ll c 0 i) = fun _ => 0 := by funext i; simp [ll, sumD]
    rw [this, cc]
    have : ∀ l : List Nat, (l.map fun _ => 0).sum = 0 := by intro l; induction l <;> simp_all
    exact this _
  | succ d ih =>
    have e : (fun i => A.getD i 0 * ll c (d + 1) i) = fun i => A.getD i 0 * ll c d i + A.getD i 0 * (if i < c (d + 1) then 1 else 0) := by
      funext i
      rw [← Nat.mul_add]; rfl
    rw [e, sum_map_add, ih, pre_sum A _ (hc _), cc]
/-- One symbol's widths. -/
theorem one_room (c : Nat → Nat) (i d : Nat) : sumD (fun j => if i < c j then 2 ^ j else 0) d + 2 ^ (d + 1 - ll c d i) ≤ 2 ^ (d + 1) := by
  induction d with
  | zero => simp [sumD, ll]
  | succ d ih =>
    have hl := ll_le c d i
    have hle : 2 ^ (d + 1 - ll c d i) ≤ 2 ^ (d + 1) := Nat.pow_le_pow_right (by decide) (by omega)
    have e : ll c (d + 1) i = ll c d i + if i < c (d + 1) then 1 else 0 := rfl
    rw [sumD, e]
    by_cases h : i < c (d + 1)
    · rw [if_pos h, if_pos h, show d + 1 + 1 - (ll c d i + 1) = d + 1 - ll c d i by omega, Nat.pow_succ 2 (d + 1)]
      omega
    · have e5 : d + 1 + 1 - (ll c d i + 0) = (d + 1 - ll c d i) + 1 := by omega
      rw [if_neg h, if_neg h, e5, Nat.pow_succ 2 (d + 1 - ll c d i), Nat.pow_succ 2 (d + 1)]
      omega
theorem sum_le_map (l : List Nat) (f g : Nat → Nat) (h : ∀ i ∈ l, f i ≤ g i) : (l.map f).sum ≤ (l.map g).sum := by
  induction l with
  | nil => simp
  | cons x l ih =>
    have := h x (by simp)
    have := ih (fun i hi => h i (by simp [hi]))
    simp only [List.map_cons, List.sum_cons]; omega
theorem widths (n : Nat) (c : Nat → Nat) (hc : ∀ j, c j ≤ n) (d : Nat) : ((List.range n).map fun i => sumD (fun j => if i < c j then 2 ^ j else 0) d).sum = sumD (fun j => c j * 2 ^ j) d := by
  induction d with
  | zero =>
    have : ∀ l : List Nat, (l.map fun i => sumD (fun j => if i < c j then 2 ^ j else 0) 0).sum = 0 := by intro l; induction l <;> simp_all [sumD]
    exact this _
  | succ d ih =>
    have e : (fun i => sumD (fun j => if i < c j then 2 ^ j else 0) (d + 1)) = fun i => sumD (fun j => if i < c j then 2 ^ j else 0) d + (if i < c (d + 1) then 2 ^ (d + 1) else 0) := rfl
    rw [e, sum_map_add, ih, sum_if n _ _ (hc _), sumD]
/-- What is taken so, with all widths together 2n - 2, are lengths that may be. -/
theorem take_feas (A : List Nat) (c : Nat → Nat) (hc : ∀ j, c j ≤ A.length) (L : Nat) (h2 : 2 ≤ A.length) (hw : sumD (fun j => c j * 2 ^ j) L = (2 * A.length - 2) * 2 ^ L) : Feas L (Zof A (ll c L)) := by
  have hroom : krf L (Zof A (ll c L)) ≤ 2 ^ L := by
    rw [krf_Zof]
    have w := widths A.length c hc L
    have s := sum_le_map (List.range A.length) (fun i => sumD (fun j => if i < c j then 2 ^ j else 0) L + 2 ^ (L + 1 - ll c L i)) (fun _ => 2 ^ (L + 1)) (fun i _ => one_room c i L)
    rw [sum_map_add, w, hw] at s
    have e1 : ((List.range A.length).map fun i => 2 ^ (L + 1 - ll c L i)).sum = 2 * ((List.range A.length).map fun i => 2 ^ (L - ll c L i)).sum := by
      have : ∀ l : List Nat, (l.map fun i => 2 ^ (L + 1 - ll c L i)).sum = 2 * (l.map fun i => 2 ^ (L - ll c L i)).sum := by
        intro l
        induction l with
        | nil => simp
        | cons x l ih =>
          simp only [List.map_cons, List.sum_cons, ih]
          have := ll_le c L x
          rw [show L + 1 - ll c L x = (L - ll c L x) + 1 by omega, Nat.pow_succ]; omega
      exact this _
    have e2 : ∀ l : List Nat, (l.map fun _ => 2 ^ (L + 1)).sum = l.length * 2 ^ (L + 1) := by
      intro l
      induction l with
      | nil => simp
      | cons x l ih => simp only [List.map_cons, List.sum_cons, ih, List.length_cons, Nat.add_mul]; omega
    rw [e1, e2, List.length_range, Nat.pow_succ] at s
    have e3 : (2 * A.length - 2) * 2 ^ L = A.length * (2 ^ L * 2) - 2 * 2 ^ L := by
      rw [Nat.sub_mul, Nat.mul_comm (2 ^ L) 2, ← Nat.mul_assoc, Nat.mul_comm A.length 2]
    have e4 : 2 * 2 ^ L ≤ A.length * (2 ^ L * 2) := by
      have : 1 * (2 ^ L * 2) ≤ A.length * (2 ^ L * 2) := Nat.mul_le_mul_right _ (by omega)
      omega
    omega
  refine ⟨fun z hz => ?_, hroom⟩
  obtain ⟨i, hi, rfl⟩ := List.mem_map.1 hz
  have hi' : i < A.length := by simpa using hi
  refine ⟨?_, ll_le c L i⟩
  by_cases h0 : 1 ≤ ll c L i
  · exact h0
  · exfalso
    have hz0 : ll c L i = 0 := by omega
    rw [krf_Zof] at hroom
    -- two terms at least
    have hp := List.perm_cons_erase hi
    have hs := sum_perm (hp.map fun i => 2 ^ (L - ll c L i))
    rw [List.map_cons, List.sum_cons, hz0, Nat.sub_zero] at hs
    have hne : ((List.range A.length).erase i) ≠ [] := by
      intro e
      have := hp.length_eq
      rw [e] at this
      simp at this; omega
    obtain ⟨y, R, hR⟩ : ∃ y R, (List.range A.length).erase i = y :: R := by
      cases hE : (List.range A.length).erase i with
      | nil => exact absurd hE hne
      | cons y R => exact ⟨y, R, rfl⟩
    rw [hR, List.map_cons, List.sum_cons] at hs
    have := Nat.two_pow_pos (L - ll c L y)
    omega
/-- .. and the best, if they cost as much as the first ones of what is merged. -/
theorem take_best (A : List Nat) (hA : Ris A) (c : Nat → Nat) (hc : ∀ j, c j ≤ A.length) (L : Nat) (h2 : 2 ≤ A.length) (hw : sumD (fun j => c j * 2 ^ j) L = (2 * A.length - 2) * 2 ^ L) (he : cc A c L = pre (pk A L) (2 * A.length - 2)) : Best L (Zof A (ll c L)) := by
  refine ⟨take_feas A c hc L h2 hw, ?_⟩
  rw [cst_ll A c hc L, he, Zof_fst, ov_sorted L (List.Perm.refl A) hA]

/-- How many of the first k of what is laid together come of the first list. -/
def fa : List Nat → List Nat → Nat → Nat
  | _, _, 0 => 0
  | [], _, _ + 1 => 0
  | _ :: A, [], k + 1 => fa A [] k + 1
  | x :: A, y :: B, k + 1 => if x ≤ y then fa A (y :: B) k + 1 else fa (x :: A) B k
theorem fa_all (A : List Nat) (k : Nat) (h : k ≤ A.length) : fa A [] k = k := by
  induction A generalizing k with
  | nil => simp at h; subst h; simp [fa]
  | cons x A ih =>
    cases k with
    | zero => simp [fa]
    | succ k => rw [fa, ih k (by simpa using h)]
theorem fa_nil (B : List Nat) (k : Nat) : fa [] B k = 0 := by cases k <;> simp [fa]
theorem pre_fa (A B : List Nat) (k : Nat) (h : k ≤ A.length + B.length) : fa A B k ≤ A.length ∧ fa A B k ≤ k ∧ k - fa A B k ≤ B.length ∧ pre (mrg A B) k = pre A (fa A B k) + pre B (k - fa A B k) := by
  induction A generalizing B k with
  | nil => rw [fa_nil]; simp [mrg, pre_zero]; simpa using h
  | cons x A ihA =>
    induction B generalizing k with
    | nil =>
      have hk : k ≤ (x :: A).length := by simpa using h
      rw [fa_all (x :: A) k hk]
      simp [mrg, pre_nil]; simpa using hk
    | cons y B ihB =>
      cases k with
      | zero => simp [fa, pre_zero]
      | succ k =>
        rw [fa, mrg]
        by_cases hxy : x ≤ y
        · rw [if_pos hxy, if_pos hxy]
          obtain ⟨a1, a2, a3, a4⟩ := ihA (y :: B) k (by simp at h ⊢; omega)
          refine ⟨by simp; omega, by omega, by omega, ?_⟩
          rw [pre_cons, pre_cons, a4, show k + 1 - (fa A (y :: B) k + 1) = k - fa A (y :: B) k by omega]; omega
        · rw [if_neg hxy, if_neg hxy]
          obtain ⟨a1, a2, a3, a4⟩ := ihB k (by simp at h ⊢; omega)
          refine ⟨a1, by omega, by simp; omega, ?_⟩
          rw [pre_cons, a4, show k + 1 - fa (x :: A) B k = (k - fa (x :: A) B k) + 1 by omega, pre_cons]; omega
/-- The first k of what is merged, level by level. -/
theorem take_chain (A : List Nat) (d k : Nat) (h : k ≤ (pk A d).length) : ∃ c : Nat → Nat, (∀ j, c j ≤ A.length) ∧ pre (pk A d) k = cc A c d ∧ sumD (fun j => c j * 2 ^ j) d = k * 2 ^ d := by
  induction d generalizing k with
  | zero =>
    have : k = 0 := by simpa [pk] using h
    subst this
    exact ⟨fun _ => 0, fun _ => Nat.zero_le _, by simp [pre_zero, cc], by simp [sumD]⟩
  | succ d ih =>
    rw [pk_length] at h
    obtain ⟨a1, a2, a3, a4⟩ := pre_fa A (prs (pk A d)) k (by rw [prs_length]; exact h)
    rw [prs_length] at a3
    obtain ⟨c', b1, b2, b3⟩ := ih (2 * (k - fa A (prs (pk A d)) k)) (by omega)
    have hcc : ∀ e, e ≤ d → cc A (fun j => if j = d + 1 then fa A (prs (pk A d)) k else c' j) e = cc A c' e := by
      intro e he
      induction e with
      | zero => rfl
      | succ e ihe =>
        rw [cc, cc, ihe (by omega)]
        have : ¬ e = d := by omega
        simp [this]
    have hsd : ∀ e, e ≤ d → sumD (fun j => (if j = d + 1 then fa A (prs (pk A d)) k else c' j) * 2 ^ j) e = sumD (fun j => c' j * 2 ^ j) e := by
      intro e he
      induction e with
      | zero => rfl
      | succ e ihe =>
        rw [sumD, sumD, ihe (by omega)]
        have : ¬ e = d := by omega
        simp [this]
    refine ⟨fun j => if j = d + 1 then fa A (prs (pk A d)) k else c' j, fun j => ?_, ?_, ?_⟩
    · by_cases e : j = d + 1
      · simp [e]; exact a1
      · simp [e]; exact b1 j
    · rw [pk, a4, cc, hcc d (Nat.le_refl _), ← b2, pre_prs (pk A d) _ (by omega)]
      simp; omega
    · rw [sumD, hsd d (Nat.le_refl _), b3]
      simp only [if_true]
      rw [Nat.pow_succ, Nat.mul_comm 2 (k - fa A (prs (pk A d)) k), Nat.mul_assoc, Nat.mul_comm 2 (2 ^ d), ← Nat.add_mul]
      congr 1; omega
/-- Where there are enough items the best lengths are there. -/
theorem pk_enough (A : List Nat) (L : Nat) (h1 : 1 ≤ A.length) (hL : A.length ≤ 2 ^ L) : 2 * A.length - 2 ≤ (pk A L).length := by
  have low : ∀ d, 2 * A.length * 2 ^ d ≤ (pk A d).length * 2 ^ d + 2 * A.length + (2 ^ d - 1) := by
    intro d
    induction d with
    | zero => simp [pk]
    | succ d ih =>
      rw [pk_length, Nat.pow_succ]
      have hq : (pk A d).length ≤ 2 * ((pk A d).length / 2) + 1 := by omega
      have hp := Nat.two_pow_pos d
      generalize (pk A d).length / 2 = q at hq ⊢
      have hm : (pk A d).length * 2 ^ d ≤ (2 * q + 1) * 2 ^ d := Nat.mul_le_mul_right _ hq
      have e1 : 2 * A.length * (2 ^ d * 2) = 2 * (2 * A.length * 2 ^ d) := by rw [Nat.mul_comm (2 ^ d) 2, ← Nat.mul_assoc, Nat.mul_comm (2 * A.length) 2, Nat.mul_assoc]
      have e2 : (A.length + q) * (2 ^ d * 2) = 2 * A.length * 2 ^ d + 2 * q * 2 ^ d := by
        rw [Nat.add_mul, Nat.mul_comm (2 ^ d) 2, ← Nat.mul_assoc, ← Nat.mul_assoc, Nat.mul_comm A.length 2, Nat.mul_comm q 2]
      have e3 : (2 * q + 1) * 2 ^ d = 2 * q * 2 ^ d + 2 ^ d := by rw [Nat.add_mul, Nat.one_mul]
      rw [e1, e2]
      omega
  have := low L
  have hp := Nat.two_pow_pos L
  apply Classical.byContradiction
  intro hn
  have hlt : (pk A L).length + 1 ≤ 2 * A.length - 2 := by omega
  have hm : ((pk A L).length + 1) * 2 ^ L ≤ (2 * A.length - 2) * 2 ^ L := Nat.mul_le_mul_right _ hlt
  rw [Nat.add_mul, Nat.one_mul, Nat.sub_mul] at hm
  omega
#print axioms take_best
#print axioms take_chain
#print axioms pk_enough
end Go.Proofs.YtlakgbckopjelaaDoor.L

/- What lengthen gives the symbols are the best lengths. -/
namespace Go.Proofs.YtlakgbckopjelaaDoor.L
set_option maxRecDepth 100000

def wts (xs : List (Int × Bool)) : List Nat := xs.map fun p => p.1.toNat
theorem wts_length (xs : List (Int × Bool)) : (wts xs).length = xs.length := by simp [wts]
def Pos (xs : List (Int × Bool)) : Prop := ∀ p ∈ xs, 0 ≤ p.1
theorem wts_mrgP (A B : List (Int × Bool)) (hA : Pos A) (hB : Pos B) : wts (mrgP A B) = mrg (wts A) (wts B) := by
  induction A generalizing B with
  | nil => simp [mrgP, wts, mrg]
  | cons x A ihA =>
    induction B with
    | nil => simp [mrgP, wts, mrg]
    | cons y B ihB =>
      have hx := hA x (by simp)
      have hy := hB y (by simp)
      have hA' : Pos A := fun p hp => hA p (by simp [hp])
      have hB' : Pos B := fun p hp => hB p (by simp [hp])
      have e1 : wts (x :: A) = x.1.toNat :: wts A := rfl
      have e2 : wts (y :: B) = y.1.toNat :: wts B := rfl
      rw [mrgP, e1, e2, mrg]
      by_cases h : x.1 ≤ y.1
      · rw [if_pos h, if_pos (by omega), ← e2, ← ihA (y :: B) hA' hB]; rfl
      · rw [if_neg h, if_neg (by omega), ← e1, ← ihB hB']; rfl
theorem cnt_mrgP (A B : List (Int × Bool)) (hA : Pos A) (hB : Pos B) (uA : ∀ p ∈ A, p.2 = false) (uB : ∀ p ∈ B, p.2 = true) (T : Nat) (hT : T ≤ A.length + B.length) : cnt (mrgP A B) T = fa (wts A) (wts B) T := by
  have cz : ∀ (B : List (Int × Bool)), (∀ p ∈ B, p.2 = true) → ∀ T, T ≤ B.length → cnt B T = 0 := by
    intro B h T
    induction T with
    | zero => intro _; rfl
    | succ T ih =>
      intro hT
      rw [cnt, ih (by omega), px_in (by omega), h _ (List.getElem_mem _)]
      simp
  induction A generalizing B T with
  | nil =>
    rw [show mrgP [] B = B by simp [mrgP], show wts [] = [] from rfl, fa_nil]
    exact cz B uB T (by simpa using hT)
  | cons x A ihA =>
    have hx := hA x (by simp)
    have ux := uA x (by simp)
    have hA' : Pos A := fun p hp => hA p (by simp [hp])
    have uA' : ∀ p ∈ A, p.2 = false := fun p hp => uA p (by simp [hp])
    induction B generalizing T with
    | nil =>
      cases T with
      | zero => simp [cnt, fa]
      | succ T =>
        have i := ihA [] hA' hB uA' uB T (by simp at hT ⊢; omega)
        rw [mrgP_nil] at i
        rw [show mrgP (x :: A) [] = x :: A by simp [mrgP], cnt_cons, i, ux, show wts (x :: A) = x.1.toNat :: wts A from rfl, show wts [] = [] from rfl, fa]
        simp; omega
    | cons y B ihB =>
      have hy := hB y (by simp)
      have uy := uB y (by simp)
      have hB' : Pos B := fun p hp => hB p (by simp [hp])
      have uB' : ∀ p ∈ B, p.2 = true := fun p hp => uB p (by simp [hp])
      have e1 : wts (x :: A) = x.1.toNat :: wts A := rfl
      have e2 : wts (y :: B) = y.1.toNat :: wts B := rfl
      cases T with
      | zero => simp [cnt, fa]
      | succ T =>
        rw [mrgP, e1, e2, fa]
        by_cases h : x.1 ≤ y.1
        · rw [if_pos h, if_pos (by omega), cnt_cons, ux, ihA (y :: B) hA' hB uA' uB T (by simp at hT ⊢; omega), e2]
          simp; omega
        · rw [if_neg h, if_neg (by omega), cnt_cons, uy, ihB hB' uB' T (by simp at hT ⊢; omega), e1]
          simp
theorem prs_at : ∀ (A : List Nat) (i : Nat), i < A.length / 2 → (prs A)[i]? = some (A.getD (2 * i) 0 + A.getD (2 * i + 1) 0)
  | [], i, h => by simp at h
  | [_], i, h => by simp at h
  | x :: y :: r, 0, _ => by simp [prs]
  | x :: y :: r, i + 1, h => by
    rw [prs, List.getElem?_cons_succ, prs_at r i (by simp only [List.length_cons] at h; omega)]
    have e1 : 2 * (i + 1) = 2 * i + 1 + 1 := by omega
    rw [e1]
    simp [List.getD]
theorem wts_prsP (xs : List (Int × Bool)) (h : Pos xs) : wts (prsP xs) = prs (wts xs) := by
  apply List.ext_getElem?
  intro i
  by_cases hi : i < xs.length / 2
  · rw [prs_at _ i (by rw [wts_length]; exact hi)]
    have e : ∀ j, j < xs.length → (wts xs).getD j 0 = (px xs j).1.toNat := by
      intro j hj
      rw [px_in hj]; simp [wts, List.getD, hj]
    have p : ∀ j, j < xs.length → 0 ≤ (px xs j).1 := by
      intro j hj
      rw [px_in hj]; exact h _ (List.getElem_mem hj)
    rw [e _ (by omega), e _ (by omega)]
    have p1 := p (2 * i) (by omega)
    have p2 := p (2 * i + 1) (by omega)
    simp [wts, prsP, hi]
    omega
  · rw [List.getElem?_eq_none (by rw [wts_length, prsP_length]; omega), List.getElem?_eq_none (by rw [prs_length, wts_length]; omega)]
theorem mrgP_pos {A B : List (Int × Bool)} (hA : Pos A) (hB : Pos B) : Pos (mrgP A B) := by
  induction A generalizing B with
  | nil => simpa [mrgP] using hB
  | cons x A ihA =>
    induction B with
    | nil => simpa [mrgP] using hA
    | cons y B ihB =>
      intro p hp
      rw [mrgP] at hp
      split at hp
      · rcases List.mem_cons.1 hp with rfl | hp
        · exact hA _ (by simp)
        · exact ihA (fun q hq => hA q (by simp [hq])) hB p hp
      · rcases List.mem_cons.1 hp with rfl | hp
        · exact hB _ (by simp)
        · exact ihB (fun q hq => hB q (by simp [hq])) p hp
theorem prsP_pos {A : List (Int × Bool)} (h : Pos A) : Pos (prsP A) := by
  intro p hp
  obtain ⟨i, hi, rfl⟩ := List.mem_map.1 hp
  have hi' : i < A.length / 2 := by simpa using hi
  have p : ∀ j, j < A.length → 0 ≤ (px A j).1 := by
    intro j hj
    rw [px_in hj]; exact h _ (List.getElem_mem hj)
  have p1 := p (2 * i) (by omega)
  have p2 := p (2 * i + 1) (by omega)
  simp only; omega
theorem prsP_packed (A : List (Int × Bool)) : ∀ p ∈ prsP A, p.2 = true := by
  intro p hp
  obtain ⟨i, _, rfl⟩ := List.mem_map.1 hp
  rfl
theorem rowsP_pos {S : List (Int × Bool)} (h : Pos S) (k : Nat) : Pos (rowsP S k) := by
  induction k with
  | zero => exact h
  | succ k ih => exact mrgP_pos h (prsP_pos ih)
theorem wts_rowsP {S : List (Int × Bool)} (h : Pos S) (k : Nat) : wts (rowsP S k) = pk (wts S) (k + 1) := by
  induction k with
  | zero => rw [rowsP, pk, pk, show prs [] = [] from rfl, mrg_nil]
  | succ k ih => rw [rowsP, wts_mrgP S _ h (prsP_pos (rowsP_pos h k)), wts_prsP _ (rowsP_pos h k), ih]; rfl
theorem cnt_rowsP {S : List (Int × Bool)} (h : Pos S) (u : ∀ p ∈ S, p.2 = false) (k T : Nat) (hT : T ≤ (rowsP S k).length) : cnt (rowsP S k) T = fa (wts S) (prs (pk (wts S) k)) T := by
  cases k with
  | zero =>
    have := cnt_mrgP S [] h (fun p hp => by simp at hp) u (fun p hp => by simp at hp) T (by simpa [rowsP] using hT)
    rw [mrgP_nil] at this
    rw [rowsP, this, pk]; rfl
  | succ k =>
    rw [rowsP] at hT ⊢
    rw [mrgP_length] at hT
    rw [cnt_mrgP S _ h (prsP_pos (rowsP_pos h k)) u (prsP_packed _) T hT, wts_prsP _ (rowsP_pos h k), wts_rowsP h k]

/-- How many of each level are taken. -/
def cOf (A : List Nat) : Nat → Nat → Nat → Nat
  | 0, _, _ => 0
  | d + 1, k, j => if j = d + 1 then fa A (prs (pk A d)) k else cOf A d (2 * (k - fa A (prs (pk A d)) k)) j
theorem cOf_chain (A : List Nat) (d k : Nat) (h : k ≤ (pk A d).length) : (∀ j, cOf A d k j ≤ A.length) ∧ pre (pk A d) k = cc A (cOf A d k) d ∧ sumD (fun j => cOf A d k j * 2 ^ j) d = k * 2 ^ d := by
  induction d generalizing k with
  | zero =>
    have : k = 0 := by simpa [pk] using h
    subst this
    exact ⟨fun _ => Nat.zero_le _, by simp [pre_zero, cc], by simp [sumD]⟩
  | succ d ih =>
    rw [pk_length] at h
    obtain ⟨a1, a2, a3, a4⟩ := pre_fa A (prs (pk A d)) k (by rw [prs_length]; exact h)
    rw [prs_length] at a3
    obtain ⟨b1, b2, b3⟩ := ih (2 * (k - fa A (prs (pk A d)) k)) (by omega)
    have hcc : ∀ e, e ≤ d → cc A (cOf A (d + 1) k) e = cc A (cOf A d (2 * (k - fa A (prs (pk A d)) k))) e := by
      intro e he
      induction e with
      | zero => rfl
      | succ e ihe =>
        rw [cc, cc, ihe (by omega), cOf, if_neg (by omega)]
    have hsd : ∀ e, e ≤ d → sumD (fun j => cOf A (d + 1) k j * 2 ^ j) e = sumD (fun j => cOf A d (2 * (k - fa A (prs (pk A d)) k)) j * 2 ^ j) e := by
      intro e he
      induction e with
      | zero => rfl
      | succ e ihe =>
        rw [sumD, sumD, ihe (by omega), cOf, if_neg (by omega)]
    refine ⟨fun j => ?_, ?_, ?_⟩
    · rw [cOf]; split
      · exact a1
      · exact b1 j
    · rw [pk, a4, cc, hcc d (Nat.le_refl _), ← b2, pre_prs (pk A d) _ (by omega), cOf, if_pos rfl]
      omega
    · rw [sumD, hsd d (Nat.le_refl _), b3, cOf, if_pos rfl]
      rw [Nat.pow_succ, Nat.mul_comm 2 (k - fa A (prs (pk A d)) k), Nat.mul_assoc, Nat.mul_comm 2 (2 ^ d), ← Nat.add_mul]
      congr 1; omega
theorem ll_cOf (A : List Nat) (d k x : Nat) : ll (cOf A (d + 1) k) (d + 1) x = ll (cOf A d (2 * (k - fa A (prs (pk A d)) k))) d x + if x < fa A (prs (pk A d)) k then 1 else 0 := by
  unfold ll
  rw [sumD]
  have hsd : ∀ e, e ≤ d → sumD (fun j => if x < cOf A (d + 1) k j then 1 else 0) e = sumD (fun j => if x < cOf A d (2 * (k - fa A (prs (pk A d)) k)) j then 1 else 0) e := by
    intro e he
    induction e with
    | zero => rfl
    | succ e ihe =>
      have e1 : cOf A (d + 1) k (e + 1) = cOf A d (2 * (k - fa A (prs (pk A d)) k)) (e + 1) := by rw [cOf, if_neg (by omega)]
      rw [sumD, sumD, ihe (by omega), e1]
  rw [hsd d (Nat.le_refl _), cOf, if_pos rfl]
theorem takeOk {S : List (Int × Bool)} (h : Pos S) (u : ∀ p ∈ S, p.2 = false) (L T : Nat) (hT : T ≤ (pk (wts S) L).length) : TakeOk S S.length L T := by
  induction L generalizing T with
  | zero => trivial
  | succ k ih =>
    have hl : (rowsP S k).length = (pk (wts S) (k + 1)).length := by rw [← wts_rowsP h k, wts_length]
    have hc := cnt_rowsP h u k T (by rw [hl]; exact hT)
    rw [pk_length] at hT
    obtain ⟨a1, a2, a3, a4⟩ := pre_fa (wts S) (prs (pk (wts S) k)) T (by rw [prs_length]; exact hT)
    rw [prs_length] at a3
    refine ⟨by rw [hl, pk_length]; exact hT, by rw [hc, ← wts_length S]; exact a1, ?_⟩
    rw [hc]
    exact ih _ (by omega)

/-- Symbols that are told apart. -/
def Dist (d : List Int) (n : Nat) : Prop := (∀ i, i < d.length → 0 ≤ ln d i ∧ (ln d i).toNat < n) ∧ (∀ i j, i < d.length → j < d.length → (ln d i).toNat = (ln d j).toNat → i = j)
theorem incD_at {E d : List Int} (hd : Dist d E.length) (m x : Nat) (hm : m ≤ d.length) (hx : x < d.length) : ln (incD E d m) (ln d x).toNat = ln E (ln d x).toNat + if x < m then 1 else 0 := by
  induction m with
  | zero => simp [incD]
  | succ m ih =>
    rw [incD, ln_set _ _ _ (by rw [incD_length]; exact (hd.1 m (by omega)).2)]
    by_cases e : (ln d x).toNat = (ln d m).toNat
    · have e' := hd.2 x m hx (by omega) e
      subst e'
      rw [if_pos rfl, ih (by omega), if_neg (by omega), if_pos (by omega)]; omega
    · have e' : x ≠ m := fun h => e (by rw [h])
      rw [if_neg e, ih (by omega)]
      by_cases c : x < m
      · rw [if_pos c, if_pos (by omega)]
      · rw [if_neg c, if_neg (by omega)]
theorem incD_out {E d : List Int} (hd : Dist d E.length) (m y : Nat) (hm : m ≤ d.length) (hy : ∀ x, x < d.length → (ln d x).toNat ≠ y) : ln (incD E d m) y = ln E y := by
  induction m with
  | zero => simp [incD]
  | succ m ih =>
    rw [incD, ln_set _ _ _ (by rw [incD_length]; exact (hd.1 m (by omega)).2), if_neg (fun e => hy m (by omega) e.symm), ih (by omega)]
theorem lenGo_length (S : List (Int × Bool)) (d : List Int) (L T : Nat) (E : List Int) : (lenGo S d L T E).length = E.length := by
  induction L generalizing T E with
  | zero => rfl
  | succ k ih => rw [lenGo, ih, incD_length]
theorem lenGo_at {S : List (Int × Bool)} (h : Pos S) (u : ∀ p ∈ S, p.2 = false) {d : List Int} (hS : S.length = d.length) (L T : Nat) (hT : T ≤ (pk (wts S) L).length) (E : List Int) (hd : Dist d E.length) (x : Nat) (hx : x < d.length) :
    ln (lenGo S d L T E) (ln d x).toNat = ln E (ln d x).toNat + ll (cOf (wts S) L T) L x := by
  induction L generalizing T E with
  | zero => simp [lenGo, ll, sumD]
  | succ k ih =>
    have tk := takeOk h u (k + 1) T hT
    have hl : (rowsP S k).length = (pk (wts S) (k + 1)).length := by rw [← wts_rowsP h k, wts_length]
    have hc := cnt_rowsP h u k T (by rw [hl]; exact hT)
    have c2 := tk.2.1
    rw [pk_length] at hT
    obtain ⟨a1, a2, a3, a4⟩ := pre_fa (wts S) (prs (pk (wts S) k)) T (by rw [prs_length]; exact hT)
    rw [prs_length] at a3
    rw [lenGo, hc]
    rw [hc] at c2
    rw [ih _ (by omega) _ (by rw [incD_length]; exact hd), incD_at hd _ x (by omega) hx, ll_cOf]
    push_cast
    split <;> omega
theorem lenGo_out {S : List (Int × Bool)} {d : List Int} (hS : S.length = d.length) (L T : Nat) (ht : TakeOk S S.length L T) (E : List Int) (hd : Dist d E.length) (y : Nat) (hy : ∀ x, x < d.length → (ln d x).toNat ≠ y) : ln (lenGo S d L T E) y = ln E y := by
  induction L generalizing T E with
  | zero => rfl
  | succ k ih =>
    obtain ⟨t1, t2, t3⟩ := ht
    rw [lenGo, ih _ t3 _ (by rw [incD_length]; exact hd), incD_out hd _ y (by omega) hy]

theorem occ_nodup (ls : List Int) (n : Nat) : (occ ls n).Nodup := by
  induction n with
  | zero => simp [occ]
  | succ n ih =>
    rw [occ]
    split
    · refine List.nodup_append.2 ⟨ih, by simp, ?_⟩
      intro a ha b hb e
      rw [List.mem_singleton] at hb
      obtain ⟨i, h1, h2, _⟩ := (occ_mem ls n a).1 ha
      omega
    · exact ih
theorem dist_of {ls d : List Int} (h : d.Perm (occ ls ls.length)) : Dist d ls.length := by
  have hm : ∀ i, i < d.length → ∃ j : Nat, ln d i = j ∧ j < ls.length ∧ 0 < ln ls j := by
    intro i hi
    rw [ln_in hi]
    exact (occ_mem ls ls.length _).1 (h.mem_iff.1 (List.getElem_mem hi))
  have hn : d.Nodup := h.nodup_iff.2 (occ_nodup ls ls.length)
  refine ⟨fun i hi => ?_, fun i j hi hj e => ?_⟩
  · obtain ⟨j, e, hj, _⟩ := hm i hi
    rw [e]; omega
  · obtain ⟨x, e1, _⟩ := hm i hi
    obtain ⟨y, e2, _⟩ := hm j hj
    have e3 : d[i] = d[j] := by rw [← ln_in hi, ← ln_in hj]; omega
    exact (List.getElem_inj hn).1 e3
/-- The symbols of a list with their weights and lengths. -/
def zOf (ls F d : List Int) : List (Nat × Nat) := d.map fun x => ((keyOf ls x).toNat, (keyOf F x).toNat)
theorem zOf_perm {ls F d e : List Int} (h : d.Perm e) : (zOf ls F d).Perm (zOf ls F e) := h.map _
theorem zOf_fst (ls F d : List Int) : (zOf ls F d).map (·.1) = d.map fun x => (keyOf ls x).toNat := by simp [zOf]
theorem Best.perm {L : Nat} {Z Y : List (Nat × Nat)} (h : Best L Z) (p : Z.Perm Y) : Best L Y := ⟨h.feas.perm p, by rw [← cst_perm p, h.cost, ov_perm L (p.map (·.1))]⟩
/-- What Lengths tells. -/
structure LGoodR (ls : List Int) (L : Nat) (F : List Int) : Prop where
  len : F.length = ls.length
  zero : ∀ i, ¬ (i < ls.length ∧ 0 < ln ls i) → ln F i = 0
  pos : ∀ i, 0 ≤ ln F i
  one : (occ ls ls.length).length = 1 → ∀ i, i < ls.length → 0 < ln ls i → ln F i = 1
  best : 2 ≤ (occ ls ls.length).length → Best L (zOf ls F (occ ls ls.length))
theorem wts_symP (ls d : List Int) : wts (symP ls d) = d.map fun x => (keyOf ls x).toNat := by simp [wts, symP]
theorem ris_of {ls d : List Int} (h : Srt (keyOf ls) d 0 d.length) : Ris (wts (symP ls d)) := by
  rw [wts_symP]
  unfold Ris
  rw [List.pairwise_iff_getElem]
  intro i j hi hj hij
  simp only [List.length_map] at hi hj
  have := h i j (Nat.zero_le _) (by omega) hj
  rw [ln_in hi, ln_in hj] at this
  simp only [List.getElem_map]
  omega
theorem good_of {ls d : List Int} {L : Nat} (hp : d.Perm (occ ls ls.length)) (hs : Srt (keyOf ls) d 0 d.length) (h2 : 2 ≤ d.length) (hL : d.length ≤ 2 ^ L) :
    TakeOk (symP ls d) d.length L (2 * d.length - 2) ∧ LGoodR ls L (lenGo (symP ls d) d L (2 * d.length - 2) (List.replicate ls.length 0)) := by
  have hm : ∀ x ∈ d, ∃ j : Nat, x = j ∧ j < ls.length ∧ 0 < ln ls j := fun x hx => (occ_mem ls ls.length x).1 (hp.mem_iff.1 hx)
  have hpos : Pos (symP ls d) := by
    intro p hp'
    obtain ⟨x, hx, rfl⟩ := List.mem_map.1 hp'
    obtain ⟨j, rfl, _, h0⟩ := hm x hx
    simp only [keyOf, Int.toNat_natCast]; omega
  have hu : ∀ p ∈ symP ls d, p.2 = false := by
    intro p hp'
    obtain ⟨x, hx, rfl⟩ := List.mem_map.1 hp'
    rfl
  have hSl := symP_length ls d
  have hwl : (wts (symP ls d)).length = d.length := by rw [wts_length, hSl]
  have hen := pk_enough (wts (symP ls d)) L (by omega) (by omega)
  rw [hwl] at hen
  have tk := takeOk hpos hu L (2 * d.length - 2) hen
  rw [hSl] at tk
  have hdist := dist_of hp
  have hdE : Dist d (List.replicate ls.length (0 : Int)).length := by rw [List.length_replicate]; exact hdist
  have h0 : ∀ i, ln (List.replicate ls.length (0 : Int)) i = 0 := by
    intro i
    by_cases hi : i < ls.length
    · rw [ln_in (by simpa using hi)]; simp
    · exact ln_out (by simpa using hi)
  have hat : ∀ x, x < d.length → ln (lenGo (symP ls d) d L (2 * d.length - 2) (List.replicate ls.length 0)) (ln d x).toNat = ll (cOf (wts (symP ls d)) L (2 * d.length - 2)) L x := by
    intro x hx
    rw [lenGo_at hpos hu hSl L _ hen _ hdE x hx, h0]; omega
  have hex : ∀ i, (i < ls.length ∧ 0 < ln ls i) → ∃ x, x < d.length ∧ (ln d x).toNat = i := by
    intro i hi
    have : (i : Int) ∈ d := hp.mem_iff.2 ((occ_mem ls ls.length _).2 ⟨i, rfl, hi.1, hi.2⟩)
    obtain ⟨x, hx, e⟩ := List.getElem_of_mem this
    exact ⟨x, hx, by rw [ln_in hx, e]; simp⟩
  have hout : ∀ i, ¬ (i < ls.length ∧ 0 < ln ls i) → ln (lenGo (symP ls d) d L (2 * d.length - 2) (List.replicate ls.length 0)) i = 0 := by
    intro i hi
    rw [lenGo_out hSl L _ (by rw [hSl]; exact tk) _ hdE i ?_, h0]
    intro x hx e
    obtain ⟨j, e1, e2, e3⟩ := hm (ln d x) (by rw [ln_in hx]; exact List.getElem_mem hx)
    apply hi
    rw [← e, e1]; simpa using ⟨e2, e3⟩
  refine ⟨tk, ⟨by rw [lenGo_length, List.length_replicate], hout, fun i => ?_, fun h1 => ?_, fun _ => ?_⟩⟩
  · by_cases hi : i < ls.length ∧ 0 < ln ls i
    · obtain ⟨x, hx, e⟩ := hex i hi
      have := hat x hx
      rw [e] at this
      rw [this]; omega
    · rw [hout i hi]; omega
  · rw [← hp.length_eq] at h1; omega
  · refine Best.perm ?_ (zOf_perm hp)
    obtain ⟨c1, c2, c3⟩ := cOf_chain (wts (symP ls d)) L (2 * d.length - 2) hen
    have hb := take_best (wts (symP ls d)) (ris_of hs) (cOf (wts (symP ls d)) L (2 * d.length - 2)) c1 L (by omega) (by rw [c3, hwl]) (by rw [← c2, hwl])
    have e : zOf ls (lenGo (symP ls d) d L (2 * d.length - 2) (List.replicate ls.length 0)) d = Zof (wts (symP ls d)) (ll (cOf (wts (symP ls d)) L (2 * d.length - 2)) L) := by
      unfold Zof
      rw [hwl]
      apply List.ext_getElem?
      intro i
      by_cases hi : i < d.length
      · have h1 := hat i hi
        rw [ln_in hi] at h1
        simp only [zOf, List.getElem?_map, List.getElem?_eq_getElem hi, Option.map_some, List.getElem?_range hi]
        rw [show keyOf (lenGo (symP ls d) d L (2 * d.length - 2) (List.replicate ls.length 0)) d[i] = _ from h1]
        simp [wts_symP, List.getD, hi]
      · rw [List.getElem?_eq_none (by simp [zOf]; omega), List.getElem?_eq_none (by simp; omega)]
    rw [e]; exact hb
#print axioms good_of
end Go.Proofs.YtlakgbckopjelaaDoor.L
