/- Symbols in another order; all symbols twice as often. -/
import Derived.Test.YtdeigchkpakdaabLAlive
namespace Go.Proofs.Ytdeigchkpakdaab

theorem occ_take (ls : List Int) (n : Nat) (hn : n ≤ ls.length) : (occ ls n).map (keyOf ls) = (ls.take n).filter (fun x => decide (0 < x)) := by
  induction n with
  | zero => simp [occ]
  | succ n ih =>
    rw [List.take_succ_eq_append_getElem (show n < ls.length by omega), List.filter_append, ← ih (by omega)]
    by_cases h : 0 < ln ls n
    · rw [occ_succ_pos h, List.map_append]
      rw [ln_in (show n < ls.length by omega)] at h
      congr 1
      simp [keyOf, h, ln_in (show n < ls.length by omega)]
    · rw [occ_succ_zero h]
      rw [ln_in (show n < ls.length by omega)] at h
      simp [h]
theorem wts_occ (ls F : List Int) : (zOf ls F (occ ls ls.length)).map (·.1) = (ls.filter (fun x => decide (0 < x))).map Int.toNat := by
  rw [zOf_fst]
  have := occ_take ls ls.length (Nat.le_refl _)
  rw [List.take_length] at this
  rw [← this, List.map_map]
  rfl
theorem nocc_filter (ls : List Int) : nocc ls = (ls.filter (fun x => decide (0 < x))).length := by
  have := occ_take ls ls.length (Nat.le_refl _)
  rw [List.take_length] at this
  rw [← this, List.length_map]; rfl
theorem alwTo_iff (ls : List Int) : AlwTo ls ls.length ↔ ∀ x ∈ ls, 0 ≤ x ∧ x ≤ 1073741824 := by
  constructor
  · intro h x hx
    obtain ⟨i, hi, rfl⟩ := List.getElem_of_mem hx
    have := h i hi
    rwa [ln_in hi] at this
  · intro h i hi
    rw [ln_in hi]; exact h _ (List.getElem_mem hi)
theorem fits_perm {ls ms : List Int} {most : Int} (p : ls.Perm ms) : FitsP ls most ↔ FitsP ms most := by
  have key : ∀ {ls ms : List Int}, ls.Perm ms → FitsP ls most → FitsP ms most := by
    intro ls ms p h
    obtain ⟨⟨h1, h2, h3, h4⟩, h5⟩ := h
    refine ⟨⟨by rw [← p.length_eq]; exact h1, h2, h3, ?_⟩, ?_⟩
    · rw [alwTo_iff] at h4 ⊢
      exact fun x hx => h4 x (p.mem_iff.2 hx)
    · rw [nocc_filter] at h5 ⊢
      rw [← (p.filter _).length_eq]; exact h5
  exact ⟨key p, key p.symm⟩
/-- What lengths of one bit cost, or none. -/
theorem cst_few {ls F : List Int} {L : Nat} (h : LGoodR ls L F) (h1 : nocc ls ≤ 1) : cst (zOf ls F (occ ls ls.length)) = ((zOf ls F (occ ls ls.length)).map (·.1)).sum := by
  by_cases h0 : nocc ls = 0
  · rw [List.eq_nil_of_length_eq_zero (show (occ ls ls.length).length = 0 from h0)]; rfl
  · have h1 : nocc ls = 1 := by omega
    obtain ⟨x, hx⟩ := List.length_eq_one_iff.1 (show (occ ls ls.length).length = 1 from h1)
    have hm : x ∈ occ ls ls.length := by rw [hx]; simp
    obtain ⟨i, rfl, hi, h0⟩ := (occ_mem ls ls.length x).1 hm
    have e := h.one h1 i hi h0
    rw [hx]
    simp [zOf, cst, keyOf, e]
theorem cst_order {ls ms F G : List Int} {L : Nat} (p : ls.Perm ms) (h : LGoodR ls L F) (k : LGoodR ms L G) : cst (zOf ls F (occ ls ls.length)) = cst (zOf ms G (occ ms ms.length)) := by
  have pw : ((zOf ls F (occ ls ls.length)).map (·.1)).Perm ((zOf ms G (occ ms ms.length)).map (·.1)) := by
    rw [wts_occ, wts_occ]; exact (p.filter _).map _
  have hn : nocc ls = nocc ms := by rw [nocc_filter, nocc_filter]; exact (p.filter _).length_eq
  by_cases h1 : nocc ls ≤ 1
  · rw [cst_few h h1, cst_few k (by omega), sum_perm pw]
  · exact (h.best (show 2 ≤ nocc ls by omega)).order (k.best (show 2 ≤ nocc ms by omega)) pw
/-- All twice as often. -/
def dblL (ls : List Int) : List Int := ls.map (2 * ·)
theorem dblL_length (ls : List Int) : (dblL ls).length = ls.length := by simp [dblL]
theorem dblL_at (ls : List Int) (i : Nat) : ln (dblL ls) i = 2 * ln ls i := by
  by_cases h : i < ls.length
  · rw [ln_in (by rw [dblL_length]; exact h), ln_in h]; simp [dblL]
  · rw [ln_out (by rw [dblL_length]; omega), ln_out (by omega)]; omega
theorem occ_dbl (ls : List Int) (n : Nat) : occ (dblL ls) n = occ ls n := by
  induction n with
  | zero => rfl
  | succ n ih =>
    rw [occ, occ, ih, dblL_at]
    by_cases h : 0 < ln ls n
    · rw [if_pos h, if_pos (by omega)]
    · rw [if_neg h, if_neg (by omega)]
theorem nocc_dbl (ls : List Int) : nocc (dblL ls) = nocc ls := by unfold nocc; rw [dblL_length, occ_dbl]
theorem fits_dbl {ls : List Int} {most : Int} (hb : ∀ i, i < ls.length → 0 ≤ ln ls i ∧ ln ls i ≤ 536870912) : FitsP ls most ↔ FitsP (dblL ls) most := by
  unfold FitsP Alw
  rw [nocc_dbl, dblL_length]
  constructor
  · rintro ⟨⟨h1, h2, h3, h4⟩, h5⟩
    exact ⟨⟨h1, h2, h3, fun i hi => by rw [dblL_at]; have := hb i hi; omega⟩, h5⟩
  · rintro ⟨⟨h1, h2, h3, h4⟩, h5⟩
    exact ⟨⟨h1, h2, h3, fun i hi => by have := hb i hi; omega⟩, h5⟩
theorem cst_dblL {ls F G : List Int} {L : Nat} (h : LGoodR ls L F) (k : LGoodR (dblL ls) L G) : cst (zOf (dblL ls) G (occ (dblL ls) (dblL ls).length)) = 2 * cst (zOf ls F (occ ls ls.length)) := by
  have e : (zOf (dblL ls) G (occ (dblL ls) (dblL ls).length)).map (·.1) = ((zOf ls F (occ ls ls.length)).map (·.1)).map (2 * ·) := by
    rw [zOf_fst, zOf_fst, dblL_length, occ_dbl, List.map_map]
    apply List.map_congr_left
    intro x _
    show (keyOf (dblL ls) x).toNat = 2 * (keyOf ls x).toNat
    unfold keyOf
    rw [dblL_at]; omega
  by_cases h1 : nocc ls ≤ 1
  · rw [cst_few h h1, cst_few k (by rw [nocc_dbl]; exact h1), e]
    have : ∀ A : List Nat, (A.map (2 * ·)).sum = 2 * A.sum := by
      intro A
      induction A with
      | nil => rfl
      | cons x A ih => simp only [List.map_cons, List.sum_cons, ih]; omega
    exact this _
  · have h2 : 2 ≤ nocc ls := by omega
    exact (h.best h2).twice (k.best (by have := nocc_dbl ls; show 2 ≤ nocc (dblL ls); omega)) e
#print axioms cst_dblL
#print axioms cst_order
end Go.Proofs.Ytdeigchkpakdaab
