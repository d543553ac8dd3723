/- PROVED: the contract of the reference's Octal. -/
import Derived.Test.YtodkpmnkdplpiabDoorBytes
namespace Go.Proofs.YtodkpmnkdplpiabDoor
open Go Go.RowKit

def Fine (o : Option Nat) : Prop := ∀ m, o = some m → m ≤ 4611686018427387904
theorem fine_zero : Fine (some 0) := fun m h => by cases h; omega
theorem fine_add (o : Option Nat) (b d : Nat) : Fine (add o b d) := fun _ h => add_le h
theorem ans_none {o : Option Nat} (h : en o < 0) : ans o = (0, 31) := by
  cases o with
  | none => rfl
  | some n => exact absurd h (by simp [en])
theorem ans_some {o : Option Nat} (h : ¬ en o < 0) : ans o = (en o, 0) := by
  cases o with
  | none => exact absurd (show en none < 0 by simp [en]) h
  | some n => rfl

theorem octB_end {xs : List UInt8} {k : Nat} (h : ¬ k < xs.length ∨ (xs.getD k 0).toNat ≠ 32) : octB (xs.drop k) = octD (xs.drop k) (some 0) := by
  by_cases hk : k < xs.length
  · have h2 := h.resolve_left (fun h => h hk)
    rw [drop_getD xs k hk]
    simp only [octB]
    rw [if_neg h2]
  · rw [List.drop_of_length_le (by omega)]
    rfl
theorem octD_end {xs : List UInt8} {k : Nat} {o : Option Nat} (h : ¬ k < xs.length ∨ ¬ (48 ≤ (xs.getD k 0).toNat ∧ (xs.getD k 0).toNat ≤ 55)) : octD (xs.drop k) o = octT (xs.drop k) o := by
  by_cases hk : k < xs.length
  · have h2 := h.resolve_left (fun h => h hk)
    rw [drop_getD xs k hk]
    simp only [octD]
    rw [if_neg]
    intro h3
    exact h2 (of_decide_eq_true h3)
  · rw [List.drop_of_length_le (by omega)]
    rfl

end Go.Proofs.YtodkpmnkdplpiabDoor
