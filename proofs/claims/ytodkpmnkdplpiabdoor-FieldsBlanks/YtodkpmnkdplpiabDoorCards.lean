/-
  DERIVED. GIVEN WITH THE SEED: THE CARDS: each row of YtodkpmnkdplpiabDoorRows.lean that lists a variable, with what it lists TIED to the program's text (the seventh form; the later family's looks); each row that meets fmt, with fmt's text TOLD by the authors' own Lean function (tested against real Go, not proved from fmt's source: count such statements apart). THE CARD IS WHAT COUNTS. Prove the row's statement (the work); the ties are given (YtodkpmnkdplpiabDoorTie.lean); close each card by the builder's one call (the guide's Derived/Test/ToyasCard.lean, 'card_holds'). Laid BY PROGRAM, IN A SANDBOX (cutbox-door.mjs). By AI agents, Wed Nov 11 2026. No macro, syntax, notation, axiom, sorry.
-/
import Derived.Test.YtodkpmnkdplpiabDoorRows
import GoSem.ClaimSeven
namespace Go.Proofs.YtodkpmnkdplpiabDoor
namespace Rows

/-- THE TIED CARD OF 'wainloadlaw03.FieldsBlanks'. -/
def fieldsBlanksCard : Claim7 := { stood := { row := fieldsBlanksRow, standIns := [], harness := (true, "be662a6082874c76766b44675fa830ac943d2d6f1a651f2a1b1d65197988f327"), looks := false }, kinds := [], alts := [], laidByText := true, laidKinds := [.data, .data, .data, .data, .pinned], laidTests := true, laidLooks := .later }
def FieldsBlanksCardSaid : Prop := Claim7.holds Tryd.pinned (.plain (OpenSpec.ofChange fieldsBlanksSpec)) fieldsBlanksCard

/-- THE SECOND FORM's CARD OF 'wainloadlaw03.FieldsBlanks'. -/
def fieldsBlanksUptoCard : Claim7 := { stood := { row := fieldsBlanksUptoRow, standIns := [], harness := (true, "be662a6082874c76766b44675fa830ac943d2d6f1a651f2a1b1d65197988f327"), looks := false }, kinds := [], alts := [], laidByText := true, laidKinds := [.data, .data, .data, .data, .pinned], laidTests := true, laidLooks := .later }
def FieldsBlanksUptoCardSaid : Prop := Claim7.holds Tryd.pinned (.plain (OpenSpec.upto fieldsBlanksSpec)) fieldsBlanksUptoCard
end Rows
end Go.Proofs.YtodkpmnkdplpiabDoor
