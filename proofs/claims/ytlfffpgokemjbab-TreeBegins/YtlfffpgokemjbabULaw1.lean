/- The laws on Check, Can, Project: walks. -/
import Derived.Test.YtlfffpgokemjbabVAli
import Derived.Test.YtlfffpgokemjbabVSam
import Derived.Test.YtlfffpgokemjbabUTh2
import Derived.Test.YtlfffpgokemjbabUCan
namespace Go.Proofs.Ytlfffpgokemjbab.U
set_option maxRecDepth 100000
open Go Go.RowKit
set_option linter.unusedVariables false
/-- A law's call that answers true and writes nothing that was there. -/
def Yes (w : World) (e : Ending) (w' : World) : Prop := e = .returned (.bool true) ∧ Below w.heap.size w w'
theorem Tells.ex {es : List En} {i : Nat} {m : En} (h : ¬ Clean1 es i m) : ∃ c, Tells es i m c := by
  unfold Clean1 at h
  by_cases hr : Right m
  · by_cases hd : m.data.size ≤ 1048576
    · by_cases ht : Twice es i m
      · exact ⟨161, .inr (.inr (.inl ⟨hr, hd, ht, rfl⟩))⟩
      · refine ⟨160, .inr (.inr (.inr ⟨hr, hd, ht, ?_, rfl⟩))⟩
        apply Classical.byContradiction
        intro g
        exact h ⟨hr, hd, ht, fun q => g (.inl q), fun q => g (.inr q)⟩
    · exact ⟨162, .inr (.inl ⟨hr, by omega, rfl⟩)⟩
  · exact ⟨160, .inl ⟨hr, rfl⟩⟩
theorem Chk.ex (es : List En) : ∃ c, Chk es c := by
  by_cases hl : 1000 < es.length
  · exact ⟨162, .inl ⟨hl, rfl⟩⟩
  · have key : ∀ n, (∀ (j : Nat) p, j < n → es[j]? = some p → Clean1 es j p) ∨ ∃ (i : Nat) (m : En), es[i]? = some m ∧ (∀ (j : Nat) p, j < i → es[j]? = some p → Clean1 es j p) ∧ ¬ Clean1 es i m := by
      intro n
      induction n with
      | zero => exact .inl fun j p h => by omega
      | succ n ih =>
        rcases ih with h | h
        · by_cases hn : ∃ m, es[n]? = some m ∧ ¬ Clean1 es n m
          · obtain ⟨m, hm, hc⟩ := hn
            exact .inr ⟨n, m, hm, h, hc⟩
          · refine .inl fun j p hj hp => ?_
            by_cases e : j = n
            · subst e
              apply Classical.byContradiction
              intro g
              exact hn ⟨p, hp, g⟩
            · exact h j p (by omega) hp
        · exact .inr h
    rcases key es.length with h | ⟨i, m, hm, h, hc⟩
    · exact ⟨0, .inr ⟨by omega, .inl ⟨rfl, fun i m hm => h i m (List.getElem?_eq_some_iff.1 hm).1 hm⟩⟩⟩
    · obtain ⟨c, ht⟩ := Tells.ex hc
      exact ⟨c, .inr ⟨by omega, .inr ⟨i, m, hm, h, ht⟩⟩⟩
def Sm (es : List En) : Prop := ∀ m ∈ es, m.path.size ≤ 1048576 ∧ m.target.size ≤ 1048576 ∧ m.data.size ≤ 1048576
def Tm (es : List En) : Prop := ∀ m ∈ es, -9223372036854775808 ≤ m.time ∧ m.time ≤ 9223372036854775807
theorem few_no {n : Nat} (h : fewB n = true) : n ≤ 1010 := by
  unfold fewB at h
  simp at h
  omega
end Go.Proofs.Ytlfffpgokemjbab.U
