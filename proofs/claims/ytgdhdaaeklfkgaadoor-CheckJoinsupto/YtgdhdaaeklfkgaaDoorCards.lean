/-
  DERIVED. GIVEN WITH THE SEED: THE CARDS: each row of YtgdhdaaeklfkgaaDoorRows.lean that lists a variable, with what it lists TIED to the program's text (the seventh form; the later family's looks); each row that meets fmt, with fmt's text TOLD by the authors' own Lean function (tested against real Go, not proved from fmt's source: count such statements apart). THE CARD IS WHAT COUNTS. Prove the row's statement (the work); the ties are given (YtgdhdaaeklfkgaaDoorTie.lean); close each card by the builder's one call (the guide's Derived/Test/ToyasCard.lean, 'card_holds'). Laid BY PROGRAM, IN A SANDBOX (cutbox-door.mjs). By AI agents, Wed Nov 11 2026. No macro, syntax, notation, axiom, sorry.
-/
import Derived.Test.YtgdhdaaeklfkgaaDoorRows
import GoSem.ClaimSeven
namespace Go.Proofs.YtgdhdaaeklfkgaaDoor
namespace Rows

/-- THE TIED CARD OF 'wainloadlaw02.CheckJoins'. -/
def checkJoinsCard : Claim7 := { stood := { row := checkJoinsRow, standIns := [], harness := (true, "262ed8c93a67686a1aa6bfebdd86580a1d0605453ff95d2556fc7e9c8fdb80c9"), looks := false }, kinds := [], alts := [], laidByText := true, laidKinds := [.data], laidTests := true, laidLooks := .later }
def CheckJoinsCardSaid : Prop := Claim7.holds Tryd.pinned (.plain (OpenSpec.ofChange checkJoinsSpec)) checkJoinsCard

/-- THE TIED CARD OF 'wainloadlaw02.CheckAny'. -/
def checkAnyCard : Claim7 := { stood := { row := checkAnyRow, standIns := [], harness := (true, "262ed8c93a67686a1aa6bfebdd86580a1d0605453ff95d2556fc7e9c8fdb80c9"), looks := false }, kinds := [], alts := [], laidByText := true, laidKinds := [.data], laidTests := true, laidLooks := .later }
def CheckAnyCardSaid : Prop := Claim7.holds Tryd.pinned (.plain (OpenSpec.ofChange checkAnySpec)) checkAnyCard

/-- THE SECOND FORM's CARD OF 'wainloadlaw02.CheckJoins'. -/
def checkJoinsUptoCard : Claim7 := { stood := { row := checkJoinsUptoRow, standIns := [], harness := (true, "262ed8c93a67686a1aa6bfebdd86580a1d0605453ff95d2556fc7e9c8fdb80c9"), looks := false }, kinds := [], alts := [], laidByText := true, laidKinds := [.data], laidTests := true, laidLooks := .later }
def CheckJoinsUptoCardSaid : Prop := Claim7.holds Tryd.pinned (.plain (OpenSpec.upto checkJoinsSpec)) checkJoinsUptoCard

/-- THE SECOND FORM's CARD OF 'wainloadlaw02.CheckAny'. -/
def checkAnyUptoCard : Claim7 := { stood := { row := checkAnyUptoRow, standIns := [], harness := (true, "262ed8c93a67686a1aa6bfebdd86580a1d0605453ff95d2556fc7e9c8fdb80c9"), looks := false }, kinds := [], alts := [], laidByText := true, laidKinds := [.data], laidTests := true, laidLooks := .later }
def CheckAnyUptoCardSaid : Prop := Claim7.holds Tryd.pinned (.plain (OpenSpec.upto checkAnySpec)) checkAnyUptoCard
end Rows
end Go.Proofs.YtgdhdaaeklfkgaaDoor
