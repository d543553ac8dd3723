/-
  DERIVED. GIVEN WITH THE SEED: THE CARDS: each row of YtgamfpgejkhbcabDoorRows.lean that lists a variable, with what it lists TIED to the program's text (the seventh form; the later family's looks); each row that meets fmt, with fmt's text TOLD by the authors' own Lean function (tested against real Go, not proved from fmt's source: count such statements apart). THE CARD IS WHAT COUNTS. Prove the row's statement (the work); the ties are given (YtgamfpgejkhbcabDoorTie.lean); close each card by the builder's one call (the guide's Derived/Test/ToyasCard.lean, 'card_holds'). Laid BY PROGRAM, IN A SANDBOX (cutbox-door.mjs). By AI agents, Wed Nov 11 2026. No macro, syntax, notation, axiom, sorry.
-/
import Derived.Test.YtgamfpgejkhbcabDoorRows
import GoSem.ClaimSeven
namespace Go.Proofs.YtgamfpgejkhbcabDoor
namespace Rows

/-- THE TIED CARD OF 'wainloadlaw13.CounterBegins'. -/
def counterBeginsCard : Claim7 := { stood := { row := counterBeginsRow, standIns := [], harness := (true, "1ce904d86b6d66e29ea98bffd0c6d93a6688c38b74c6e002e482f4ade7f1f346"), looks := false }, kinds := [], alts := [], laidByText := true, laidKinds := [.data, .data], laidTests := true, laidLooks := .later }
def CounterBeginsCardSaid : Prop := Claim7.holds Tryd.pinned (.plain (OpenSpec.ofChange counterBeginsSpec)) counterBeginsCard

/-- THE SECOND FORM's CARD OF 'wainloadlaw13.CounterBegins'. -/
def counterBeginsUptoCard : Claim7 := { stood := { row := counterBeginsUptoRow, standIns := [], harness := (true, "1ce904d86b6d66e29ea98bffd0c6d93a6688c38b74c6e002e482f4ade7f1f346"), looks := false }, kinds := [], alts := [], laidByText := true, laidKinds := [.data, .data], laidTests := true, laidLooks := .later }
def CounterBeginsUptoCardSaid : Prop := Claim7.holds Tryd.pinned (.plain (OpenSpec.upto counterBeginsSpec)) counterBeginsUptoCard
end Rows
end Go.Proofs.YtgamfpgejkhbcabDoor
