/-
  DERIVED. GIVEN WITH THE SEED: THE CARDS: each row of YtlakgbckopjelabDoorRows.lean that lists a variable, with what it lists TIED to the program's text (the seventh form; the later family's looks); each row that meets fmt, with fmt's text TOLD by the authors' own Lean function (tested against real Go, not proved from fmt's source: count such statements apart). THE CARD IS WHAT COUNTS. Prove the row's statement (the work); the ties are given (YtlakgbckopjelabDoorTie.lean); close each card by the builder's one call (the guide's Derived/Test/ToyasCard.lean, 'card_holds'). Laid BY PROGRAM, IN A SANDBOX (cutbox-door.mjs). By AI agents, Wed Nov 11 2026. No macro, syntax, notation, axiom, sorry.
-/
import Derived.Test.YtlakgbckopjelabDoorRows
import GoSem.ClaimSeven
namespace Go.Proofs.YtlakgbckopjelabDoor
namespace Rows

/-- THE TIED CARD OF 'wainloadlaw08.DeflateAgain'. -/
def deflateAgainCard : Claim7 := { stood := { row := deflateAgainRow, standIns := [], harness := (true, "68638bdf5c239db87d4418571a0b79b1bee5a987b068453aade413d3fc7f3f0e"), looks := false }, kinds := [], alts := [], laidByText := true, laidKinds := [.data], laidTests := true, laidLooks := .later }
def DeflateAgainCardSaid : Prop := Claim7.holds Tryd.pinned (.plain (OpenSpec.ofChange deflateAgainSpec)) deflateAgainCard

/-- THE SECOND FORM's CARD OF 'wainloadlaw08.DeflateAgain'. -/
def deflateAgainUptoCard : Claim7 := { stood := { row := deflateAgainUptoRow, standIns := [], harness := (true, "68638bdf5c239db87d4418571a0b79b1bee5a987b068453aade413d3fc7f3f0e"), looks := false }, kinds := [], alts := [], laidByText := true, laidKinds := [.data], laidTests := true, laidLooks := .later }
def DeflateAgainUptoCardSaid : Prop := Claim7.holds Tryd.pinned (.plain (OpenSpec.upto deflateAgainSpec)) deflateAgainUptoCard
end Rows
end Go.Proofs.YtlakgbckopjelabDoor
