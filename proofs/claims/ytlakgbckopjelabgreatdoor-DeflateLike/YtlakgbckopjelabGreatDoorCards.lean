/-
  DERIVED. GIVEN WITH THE SEED: THE CARDS: each row of YtlakgbckopjelabGreatDoorRows.lean that lists a variable, with what it lists TIED to the program's text (the seventh form; the later family's looks); each row that meets fmt, with fmt's text TOLD by the authors' own Lean function (tested against real Go, not proved from fmt's source: count such statements apart). THE CARD IS WHAT COUNTS. Prove the row's statement (the work); the ties are given (YtlakgbckopjelabGreatDoorTie.lean); close each card by the builder's one call (the guide's Derived/Test/ToyasCard.lean, 'card_holds'). Laid BY PROGRAM, IN A SANDBOX (cutbox-door.mjs). By AI agents, Wed Nov 11 2026. No macro, syntax, notation, axiom, sorry.
-/
import Derived.Test.YtlakgbckopjelabGreatDoorRows
import GoSem.ClaimSeven
namespace Go.Proofs.YtlakgbckopjelabGreatDoor
namespace Rows

/-- THE TIED CARD OF 'wainloadlaw08.DeflateLike'. -/
def deflateLikeCard : Claim7 := { stood := { row := deflateLikeRow, standIns := [], harness := (true, "d265748cde83662ba5900120e3818ce4c7fe4fe2402ffb4f234e16aeefc23f5e"), looks := false }, kinds := [], alts := [], laidByText := true, laidKinds := [.data], laidTests := true, laidLooks := .later }
def DeflateLikeCardSaid : Prop := Claim7.holds Tryz.pinned (.plain (OpenSpec.ofChange deflateLikeSpec)) deflateLikeCard

/-- THE SECOND FORM's CARD OF 'wainloadlaw08.DeflateLike'. -/
def deflateLikeUptoCard : Claim7 := { stood := { row := deflateLikeUptoRow, standIns := [], harness := (true, "d265748cde83662ba5900120e3818ce4c7fe4fe2402ffb4f234e16aeefc23f5e"), looks := false }, kinds := [], alts := [], laidByText := true, laidKinds := [.data], laidTests := true, laidLooks := .later }
def DeflateLikeUptoCardSaid : Prop := Claim7.holds Tryz.pinned (.plain (OpenSpec.upto deflateLikeSpec)) deflateLikeUptoCard
end Rows
end Go.Proofs.YtlakgbckopjelabGreatDoor
