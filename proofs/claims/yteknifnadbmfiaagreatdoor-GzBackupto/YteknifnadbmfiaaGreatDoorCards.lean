/-
  DERIVED. GIVEN WITH THE SEED: THE CARDS: each row of YteknifnadbmfiaaGreatDoorRows.lean that lists a variable, with what it lists TIED to the program's text (the seventh form; the later family's looks); each row that meets fmt, with fmt's text TOLD by the authors' own Lean function (tested against real Go, not proved from fmt's source: count such statements apart). THE CARD IS WHAT COUNTS. Prove the row's statement (the work); the ties are given (YteknifnadbmfiaaGreatDoorTie.lean); close each card by the builder's one call (the guide's Derived/Test/ToyasCard.lean, 'card_holds'). Laid BY PROGRAM, IN A SANDBOX (cutbox-door.mjs). By AI agents, Wed Nov 11 2026. No macro, syntax, notation, axiom, sorry.
-/
import Derived.Test.YteknifnadbmfiaaGreatDoorRows
import GoSem.ClaimSeven
namespace Go.Proofs.YteknifnadbmfiaaGreatDoor
namespace Rows

/-- THE TIED CARD OF 'wainloadlaw09.GzBack'. -/
def gzBackCard : Claim7 := { stood := { row := gzBackRow, standIns := [], harness := (true, "616cf558ef5a64bb4f54c654ba63a9a48016fe1e1dfefc281a95bd69b524942d"), looks := false }, kinds := [], alts := [], laidByText := true, laidKinds := [.data, .data], laidTests := true, laidLooks := .later }
def GzBackCardSaid : Prop := Claim7.holds Tryz.pinned (.plain (OpenSpec.ofChange gzBackSpec)) gzBackCard

/-- THE SECOND FORM's CARD OF 'wainloadlaw09.GzBack'. -/
def gzBackUptoCard : Claim7 := { stood := { row := gzBackUptoRow, standIns := [], harness := (true, "616cf558ef5a64bb4f54c654ba63a9a48016fe1e1dfefc281a95bd69b524942d"), looks := false }, kinds := [], alts := [], laidByText := true, laidKinds := [.data, .data], laidTests := true, laidLooks := .later }
def GzBackUptoCardSaid : Prop := Claim7.holds Tryz.pinned (.plain (OpenSpec.upto gzBackSpec)) gzBackUptoCard
end Rows
end Go.Proofs.YteknifnadbmfiaaGreatDoor
