/- PROVED: the contract of the reference's Decimal. -/
import Derived.Test.YtodkpmnkdplpiabDoorRefOct
import Derived.Deep.DeepFit
namespace Go.Proofs.YtodkpmnkdplpiabDoor
open Go Go.RowKit
set_option linter.unusedVariables false

theorem rn_all : ∀ (l : List UInt8), rn l = l.length → ∀ c ∈ l, isD c = true
  | [], _ => by simp
  | c :: r, h => by
    by_cases hc : isD c = true
    · rw [rn_cons_yes hc] at h
      have := rn_all r (by simpa using h)
      intro d hd
      rcases List.mem_cons.1 hd with rfl | hd
      · exact hc
      · exact this d hd
    · rw [rn_cons_no (by simpa using hc)] at h
      simp at h
theorem rn_le : ∀ (l : List UInt8), rn l ≤ l.length
  | [] => by simp [rn]
  | c :: r => by
    have := rn_le r
    unfold rn
    split
    · simp; omega
    · simp
theorem ext_list (s : ByteArray) (i : Nat) : (s.extract i s.size).data.toList = s.data.toList.drop i := by
  rw [ByteArray.data_extract, Array.toList_extract]
  simp only [List.extract_eq_take_drop]
  exact List.take_of_length_le (by rw [List.length_drop, len_eq]; exact Nat.le_refl _)
theorem ext_list_to (s : ByteArray) (i : Nat) : (s.extract 0 i).data.toList = s.data.toList.take i := by
  rw [ByteArray.data_extract, Array.toList_extract]
  simp only [List.extract_eq_take_drop]
  rw [List.drop_zero, Nat.sub_zero]
theorem ext_size (s : ByteArray) (i : Nat) : (s.extract i s.size).size = s.size - i := by
  rw [← len_eq, ext_list, List.length_drop, len_eq]
theorem numF_le (b z : Nat) : ∀ (l : List UInt8) (o : Option Nat), Fine o → Fine (numF b z l o)
  | [], _, h => h
  | _ :: r, o, _ => numF_le b z r _ (fine_add _ _ _)
theorem head_of (s : ByteArray) (h : 0 < s.size) : s.data.toList.head? = some (s[0]'h) := by
  have := drop_at s 0 h
  rw [List.drop_zero] at this
  rw [this]
  rfl

end Go.Proofs.YtodkpmnkdplpiabDoor
