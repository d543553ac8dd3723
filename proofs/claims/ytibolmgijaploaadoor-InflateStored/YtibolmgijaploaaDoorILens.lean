/- How many lengths a dynamic block tells, and that they are lengths. No Go text in sight. -/
import Derived.Test.YtibolmgijaploaaDoorIStored
namespace Go.Proofs.YtibolmgijaploaaDoor
set_option maxRecDepth 100000

theorem fit_set {L : List Int} (h : Fit L) (i : Nat) {x : Int} (hx : 0 ≤ x ∧ x ≤ 15) : Fit (L.set i x) := fun y hy => by
  rcases List.mem_or_eq_of_mem_set hy with hy | rfl
  · exact h y hy
  · exact hx
theorem fit_app {L M : List Int} (h : Fit L) (k : Fit M) : Fit (L ++ M) := fun y hy => by
  rcases List.mem_append.1 hy with hy | hy
  · exact h y hy
  · exact k y hy
theorem iRd3_fit {b : Nat → Nat} (hb : ∀ i, b i ≤ 1) {T n p i : Nat} {first : List Int} (hf : Fit first) {q : Nat} {f : List Int} (h : iRd3 b T n p i first = .ok (q, f)) : f.length = first.length ∧ Fit f := by
  induction n generalizing p i first with
  | zero => cases h; exact ⟨rfl, hf⟩
  | succ n ih =>
    rw [iRd3] at h
    obtain ⟨q1, v, h1, h⟩ := iThen_ok h
    have hv := iNum_lt hb p 3
    rw [← (iTk_got h1).2.2] at hv
    have := ih (fit_set hf _ (by omega)) h
    rw [List.length_set] at this
    exact this
/-- One number more, of those that tell lengths. -/
theorem iLen_got {first : List Int} {many : Nat} {b : Nat → Nat} {T p : Nat} {all : List Int} {q : Nat} {c : Bool} {t : List Int} (hl : all.length < many) (hf : Fit all) (h : iLen first many b T p all = .ok (q, (c, t))) : t.length ≤ many ∧ Fit t ∧ c = decide (t.length < many) ∧ all.length < t.length := by
  unfold iLen at h
  obtain ⟨q1, v, -, h⟩ := iThen_ok h
  split at h
  · cases h
    refine ⟨by simp; omega, fit_app hf fun y hy => ?_, by simp, by simp⟩
    rw [List.mem_singleton.1 hy]; omega
  · split at h
    · cases h
    · obtain ⟨q2, x, -, h⟩ := iThen_ok h
      have hpos : 3 ≤ x + (if v = 18 then 11 else 3) := by split <;> omega
      generalize x + (if v = 18 then 11 else 3) = n at h hpos
      split at h
      · cases h
      · cases h
        refine ⟨by simp; omega, fit_app hf fun y hy => ?_, by simp, by simp; omega⟩
        rw [List.eq_of_mem_replicate hy]
        split
        · exact ln_fit hf _
        · omega
theorem iLens_got {first : List Int} {many : Nat} {b : Nat → Nat} {T p : Nat} (hm : 0 < many) {q : Nat} {t : List Int} (h : iLoop T (iLen first many b T) p [] = .ok (q, t)) : t.length = many ∧ Fit t := by
  obtain ⟨p', s', h1, h2⟩ := iLoop_fin (fun l => l.length < many ∧ Fit l) (fun p s q t hs e => by
    have := iLen_got hs.1 hs.2 e
    exact ⟨by have := this.2.2.1; simpa using this.symm, this.2.1⟩) (fun p s => iGo_len first many b T p s) p [] ⟨by simpa using hm, fun y hy => absurd hy (by simp)⟩ q t h
  obtain ⟨g1, g2, g3, -⟩ := iLen_got h1.1 h1.2 h2
  have : ¬ t.length < many := by simpa using g3.symm
  exact ⟨by omega, g2⟩
/-- What a dynamic block's codes are. -/
theorem iHdr_got {b : Nat → Nat} {T p q : Nat} {S D : List Int} (h : iHdr b T p = .ok (q, (S, D))) : 257 ≤ S.length ∧ S.length ≤ 286 ∧ 1 ≤ D.length ∧ D.length ≤ 30 ∧ check S true = 0 ∧ check D true = 0 := by
  unfold iHdr at h
  obtain ⟨q1, x, -, h⟩ := iThen_ok h
  obtain ⟨q2, y, -, h⟩ := iThen_ok h
  obtain ⟨q3, z, -, h⟩ := iThen_ok h
  split at h
  · cases h
  · rename_i hxy
    obtain ⟨q4, first, -, h⟩ := iThen_ok h
    split at h
    · cases h
    · obtain ⟨q5, all, ha, h⟩ := iThen_ok h
      have hg := (iLens_got (by omega) ha).1
      split at h
      · cases h
      · rename_i hc
        cases h
        simp only [List.length_take, List.length_drop]
        exact ⟨by omega, by omega, by omega, by omega, Decidable.not_not.1 fun e => hc (.inr (.inl e)), Decidable.not_not.1 fun e => hc (.inr (.inr e))⟩
end Go.Proofs.YtibolmgijaploaaDoor
