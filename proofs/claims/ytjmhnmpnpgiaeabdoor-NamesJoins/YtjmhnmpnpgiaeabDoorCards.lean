/-
  DERIVED. GIVEN WITH THE SEED: THE CARDS: each row of YtjmhnmpnpgiaeabDoorRows.lean that lists a variable, with what it lists TIED to the program's text (the seventh form; the later family's looks); each row that meets fmt, with fmt's text TOLD by the authors' own Lean function (tested against real Go, not proved from fmt's source: count such statements apart). THE CARD IS WHAT COUNTS. Prove the row's statement (the work); the ties are given (YtjmhnmpnpgiaeabDoorTie.lean); close each card by the builder's one call (the guide's Derived/Test/ToyasCard.lean, 'card_holds'). Laid BY PROGRAM, IN A SANDBOX (cutbox-door.mjs). By AI agents, Wed Nov 11 2026. No macro, syntax, notation, axiom, sorry.
-/
import Derived.Test.YtjmhnmpnpgiaeabDoorRows
import GoSem.ClaimSeven
namespace Go.Proofs.YtjmhnmpnpgiaeabDoor
namespace Rows

/-- THE TIED CARD OF 'wainloadlaw14.NamesJoins'. -/
def namesJoinsCard : Claim7 := { stood := { row := namesJoinsRow, standIns := [], harness := (true, "12488b0d91a3ccfdd7753af49aecf339aeb919d9a55156b829e83929f1243fa1"), looks := false }, kinds := [], alts := [], laidByText := true, laidKinds := [.data], laidTests := true, laidLooks := .later }
def NamesJoinsCardSaid : Prop := Claim7.holds Tryd.pinned (.plain (OpenSpec.ofChange namesJoinsSpec)) namesJoinsCard

/-- THE SECOND FORM's CARD OF 'wainloadlaw14.NamesJoins'. -/
def namesJoinsUptoCard : Claim7 := { stood := { row := namesJoinsUptoRow, standIns := [], harness := (true, "12488b0d91a3ccfdd7753af49aecf339aeb919d9a55156b829e83929f1243fa1"), looks := false }, kinds := [], alts := [], laidByText := true, laidKinds := [.data], laidTests := true, laidLooks := .later }
def NamesJoinsUptoCardSaid : Prop := Claim7.holds Tryd.pinned (.plain (OpenSpec.upto namesJoinsSpec)) namesJoinsUptoCard
end Rows
end Go.Proofs.YtjmhnmpnpgiaeabDoor
