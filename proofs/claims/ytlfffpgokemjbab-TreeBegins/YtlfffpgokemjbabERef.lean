/- The reference's Parents, parts, Clean: contracts. -/
import Derived.Test.YtlfffpgokemjbabEPar
import Derived.Test.YtlfffpgokemjbabEClean
import Derived.Deep.DeepCutAuto
namespace Go.Proofs.Ytlfffpgokemjbab.E
set_option maxRecDepth 100000
open Go Go.RowKit
set_option linter.unusedVariables false

/-- How far parts has come: what is told, from where the next part begins. -/
def Pt (l : List UInt8) (i f : Nat) (O : List (List UInt8)) : Prop := O.length ≤ i ∧ ((i ≤ l.length ∧ f ≤ i ∧ spl l = O ++ spl (l.drop f) ∧ ∀ j, f ≤ j → j < i → bt l j ≠ 47) ∨ (i = l.length + 1 ∧ spl l = O))
theorem seg_no {l : List UInt8} {f i : Nat} (hfi : f ≤ i) (hi : i ≤ l.length) (h : ∀ j, f ≤ j → j < i → bt l j ≠ 47) : 47 ∉ (l.drop f).take (i - f) := fun m => by
  obtain ⟨k, hk, e⟩ := List.getElem_of_mem m
  have hk2 : k < i - f := by rw [List.length_take] at hk; omega
  have := h (f + k) (by omega) (by omega)
  apply this
  rw [List.getElem_take, List.getElem_drop] at e
  unfold bt
  rw [List.getD, List.getElem?_eq_getElem (by omega), Option.getD_some, e]
  rfl
theorem Pt.skip {l : List UInt8} {i f : Nat} {O : List (List UInt8)} (h : Pt l i f O) (hi : i < l.length) (h47 : bt l i ≠ 47) : Pt l (i + 1) f O := by
  obtain ⟨h0, ⟨h1, h2, h3, h4⟩ | ⟨h1, _⟩⟩ := h
  · refine ⟨by omega, .inl ⟨by omega, by omega, h3, fun j q1 q2 => ?_⟩⟩
    rcases Nat.lt_or_ge j i with q | q
    · exact h4 j q1 q
    · obtain rfl : j = i := by omega
      exact h47
  · omega
theorem Pt.from_ {l : List UInt8} {i f : Nat} {O : List (List UInt8)} (h : Pt l i f O) (hi : i ≤ l.length) : f ≤ i := by
  obtain ⟨h0, ⟨h1, h2, h3, h4⟩ | ⟨h1, _⟩⟩ := h
  · exact h2
  · omega
theorem Pt.cut {l : List UInt8} {i f : Nat} {O : List (List UInt8)} (h : Pt l i f O) (hi : i < l.length) (h47 : bt l i = 47) : Pt l (i + 1) (i + 1) (O ++ [(l.drop f).take (i - f)]) := by
  obtain ⟨h0, ⟨h1, h2, h3, h4⟩ | ⟨h1, _⟩⟩ := h
  · refine ⟨by rw [List.length_append, List.length_singleton]; omega, .inl ⟨by omega, Nat.le_refl _, ?_, fun j q1 q2 => by omega⟩⟩
    have e : l.drop f = (l.drop f).take (i - f) ++ 47 :: l.drop (i + 1) := by
      have hc : (47 : UInt8) = l[i] := by
        apply UInt8.toNat_inj.1
        have : bt l i = (l[i]).toNat := by simp [bt, List.getD, hi]
        rw [← this, h47]
        rfl
      conv => lhs; rw [← List.take_append_drop (i - f) (l.drop f)]
      rw [List.drop_drop, show f + (i - f) = i by omega, List.drop_eq_getElem_cons hi, hc]
    have hs := seg_no h2 (by omega) h4
    rw [h3, e, spl_part _ _ hs, ← e, List.append_assoc]
    rfl
  · omega
theorem Pt.last {l : List UInt8} {f : Nat} {O : List (List UInt8)} (h : Pt l l.length f O) : Pt l (l.length + 1) (l.length + 1) (O ++ [(l.drop f).take (l.length - f)]) := by
  obtain ⟨h0, ⟨h1, h2, h3, h4⟩ | ⟨h1, _⟩⟩ := h
  · refine ⟨by rw [List.length_append, List.length_singleton]; omega, .inr ⟨rfl, ?_⟩⟩
    have hs := seg_no h2 (Nat.le_refl _) h4
    have e : (l.drop f).take (l.length - f) = l.drop f := List.take_of_length_le (by rw [List.length_drop]; exact Nat.le_refl _)
    rw [e] at hs
    rw [h3, e, spl_one _ hs]
  · omega
theorem spl_sub : ∀ (l p : List UInt8), p ∈ spl l → p.length ≤ l.length := by
  intro l
  induction l with
  | nil => intro p hp; simp only [spl, List.mem_singleton] at hp; subst hp; exact Nat.le_refl _
  | cons c t ih =>
    intro p hp
    by_cases h : c = 47
    · subst h
      rw [spl_47] at hp
      rcases List.mem_cons.1 hp with rfl | hp
      · exact Nat.zero_le _
      · have := ih p hp; rw [List.length_cons]; omega
    · rw [spl, if_neg h] at hp
      cases hs : spl t with
      | nil => exact absurd hs (spl_ne t)
      | cons q qs =>
        rw [hs] at hp ih
        rcases List.mem_cons.1 hp with rfl | hp
        · have := ih q (List.mem_cons_self ..); rw [List.length_cons, List.length_cons]; omega
        · have := ih p (List.mem_cons_of_mem _ hp); rw [List.length_cons]; omega
theorem Pt.all {l : List UInt8} {f : Nat} {O : List (List UInt8)} (h : Pt l (l.length + 1) f O) : O = spl l := by
  obtain ⟨h0, ⟨h1, _⟩ | ⟨_, h2⟩⟩ := h
  · omega
  · exact h2.symm
def PrtOk (l : List UInt8) (w : World) (e : Ending) (w' : World) : Prop := ∃ v, e = .returned v ∧ Own 9 fS w' w.heap.size v (spl l) ∧ Below w.heap.size w w'

theorem add_tx (a b : List UInt8) (h : a.length + b.length ≤ 9223372036854775807) (W : World) : (Op.stringOp .add (tx a) (tx b)).run Try.prog W = .ok (.string (tx (a ++ b))) W := by
  rw [run_string_add_sum W (tx a) (tx b) (by rw [tx_size, tx_size]; exact h)]
  have := ByteArray.mk_append_mk a b
  exact congrArg (fun x => Result.ok (Value.string x) W) this
end Go.Proofs.Ytlfffpgokemjbab.E
