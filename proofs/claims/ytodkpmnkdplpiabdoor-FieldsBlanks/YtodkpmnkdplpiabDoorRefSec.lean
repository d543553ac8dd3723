/- PROVED: the contract of the reference's Seconds. -/
import Derived.Test.YtodkpmnkdplpiabDoorRefDec
import Derived.Test.YtodkpmnkdplpiabDoorPure2
namespace Go.Proofs.YtodkpmnkdplpiabDoor
open Go Go.RowKit
set_option linter.unusedVariables false

theorem rn_take (l : List UInt8) : ∀ c ∈ l.take (rn l), isD c = true := by
  induction l with
  | nil => simp
  | cons c r ih =>
    by_cases hc : isD c = true
    · rw [rn_cons_yes hc, List.take_succ_cons]
      intro d hd
      rcases List.mem_cons.1 hd with rfl | hd
      · exact hc
      · exact ih d hd
    · rw [rn_cons_no (by simpa using hc)]
      simp
theorem ansS_neg (n : Nat) : ansS true (some (some n)) = (-(n : Int), 0) := rfl
theorem ansS_pos (n : Nat) : ansS false (some (some n)) = ((n : Int), 0) := rfl
theorem ne_zero_b {n : Nat} (h : n ≠ 0) : ((n : Int) == 0) = false := by
  have : ¬ (n : Int) = 0 := by omega
  simpa using this

end Go.Proofs.YtodkpmnkdplpiabDoor
