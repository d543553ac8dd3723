/-
  DERIVED. GIVEN WITH THE SEED: THE CARDS: each row of YtjmhnmpnpgiaeaaDoorRows.lean that lists a variable, with what it lists TIED to the program's text (the seventh form; the later family's looks); each row that meets fmt, with fmt's text TOLD by the authors' own Lean function (tested against real Go, not proved from fmt's source: count such statements apart). THE CARD IS WHAT COUNTS. Prove the row's statement (the work); the ties are given (YtjmhnmpnpgiaeaaDoorTie.lean); close each card by the builder's one call (the guide's Derived/Test/ToyasCard.lean, 'card_holds'). Laid BY PROGRAM, IN A SANDBOX (cutbox-door.mjs). By AI agents, Wed Nov 11 2026. No macro, syntax, notation, axiom, sorry.
-/
import Derived.Test.YtjmhnmpnpgiaeaaDoorRows
import GoSem.ClaimSeven
namespace Go.Proofs.YtjmhnmpnpgiaeaaDoor
namespace Rows

/-- THE TIED CARD OF 'wainloadlaw14.NamesCleans'. -/
def namesCleansCard : Claim7 := { stood := { row := namesCleansRow, standIns := [], harness := (true, "20b0d5cfe7705963a1f35e6e32a16819107d097e24052b614a2055d73f302604"), looks := false }, kinds := [], alts := [], laidByText := true, laidKinds := [.data], laidTests := true, laidLooks := .later }
def NamesCleansCardSaid : Prop := Claim7.holds Tryd.pinned (.plain (OpenSpec.ofChange namesCleansSpec)) namesCleansCard

/-- THE TIED CARD OF 'wainloadlaw14.NamesAgain'. -/
def namesAgainCard : Claim7 := { stood := { row := namesAgainRow, standIns := [], harness := (true, "20b0d5cfe7705963a1f35e6e32a16819107d097e24052b614a2055d73f302604"), looks := false }, kinds := [], alts := [], laidByText := true, laidKinds := [.data], laidTests := true, laidLooks := .later }
def NamesAgainCardSaid : Prop := Claim7.holds Tryd.pinned (.plain (OpenSpec.ofChange namesAgainSpec)) namesAgainCard

/-- THE TIED CARD OF 'wainloadlaw14.NamesParents'. -/
def namesParentsCard : Claim7 := { stood := { row := namesParentsRow, standIns := [], harness := (true, "20b0d5cfe7705963a1f35e6e32a16819107d097e24052b614a2055d73f302604"), looks := false }, kinds := [], alts := [], laidByText := true, laidKinds := [.data], laidTests := true, laidLooks := .later }
def NamesParentsCardSaid : Prop := Claim7.holds Tryd.pinned (.plain (OpenSpec.ofChange namesParentsSpec)) namesParentsCard

/-- THE TIED CARD OF 'wainloadlaw14.NamesOem'. -/
def namesOemCard : Claim7 := { stood := { row := namesOemRow, standIns := [], harness := (true, "20b0d5cfe7705963a1f35e6e32a16819107d097e24052b614a2055d73f302604"), looks := false }, kinds := [], alts := [], laidByText := true, laidKinds := [.data], laidTests := true, laidLooks := .later }
def NamesOemCardSaid : Prop := Claim7.holds Tryd.pinned (.plain (OpenSpec.ofChange namesOemSpec)) namesOemCard

/-- THE TIED CARD OF 'wainloadlaw14.NamesLetters'. -/
def namesLettersCard : Claim7 := { stood := { row := namesLettersRow, standIns := [], harness := (true, "20b0d5cfe7705963a1f35e6e32a16819107d097e24052b614a2055d73f302604"), looks := false }, kinds := [], alts := [], laidByText := true, laidKinds := [.data], laidTests := true, laidLooks := .later }
def NamesLettersCardSaid : Prop := Claim7.holds Tryd.pinned (.plain (OpenSpec.ofChange namesLettersSpec)) namesLettersCard

/-- THE TIED CARD OF 'wainloadlaw14.NamesValid'. -/
def namesValidCard : Claim7 := { stood := { row := namesValidRow, standIns := [], harness := (true, "20b0d5cfe7705963a1f35e6e32a16819107d097e24052b614a2055d73f302604"), looks := false }, kinds := [], alts := [], laidByText := true, laidKinds := [.data], laidTests := true, laidLooks := .later }
def NamesValidCardSaid : Prop := Claim7.holds Tryd.pinned (.plain (OpenSpec.ofChange namesValidSpec)) namesValidCard

/-- THE SECOND FORM's CARD OF 'wainloadlaw14.NamesCleans'. -/
def namesCleansUptoCard : Claim7 := { stood := { row := namesCleansUptoRow, standIns := [], harness := (true, "20b0d5cfe7705963a1f35e6e32a16819107d097e24052b614a2055d73f302604"), looks := false }, kinds := [], alts := [], laidByText := true, laidKinds := [.data], laidTests := true, laidLooks := .later }
def NamesCleansUptoCardSaid : Prop := Claim7.holds Tryd.pinned (.plain (OpenSpec.upto namesCleansSpec)) namesCleansUptoCard

/-- THE SECOND FORM's CARD OF 'wainloadlaw14.NamesAgain'. -/
def namesAgainUptoCard : Claim7 := { stood := { row := namesAgainUptoRow, standIns := [], harness := (true, "20b0d5cfe7705963a1f35e6e32a16819107d097e24052b614a2055d73f302604"), looks := false }, kinds := [], alts := [], laidByText := true, laidKinds := [.data], laidTests := true, laidLooks := .later }
def NamesAgainUptoCardSaid : Prop := Claim7.holds Tryd.pinned (.plain (OpenSpec.upto namesAgainSpec)) namesAgainUptoCard

/-- THE SECOND FORM's CARD OF 'wainloadlaw14.NamesParents'. -/
def namesParentsUptoCard : Claim7 := { stood := { row := namesParentsUptoRow, standIns := [], harness := (true, "20b0d5cfe7705963a1f35e6e32a16819107d097e24052b614a2055d73f302604"), looks := false }, kinds := [], alts := [], laidByText := true, laidKinds := [.data], laidTests := true, laidLooks := .later }
def NamesParentsUptoCardSaid : Prop := Claim7.holds Tryd.pinned (.plain (OpenSpec.upto namesParentsSpec)) namesParentsUptoCard

/-- THE SECOND FORM's CARD OF 'wainloadlaw14.NamesOem'. -/
def namesOemUptoCard : Claim7 := { stood := { row := namesOemUptoRow, standIns := [], harness := (true, "20b0d5cfe7705963a1f35e6e32a16819107d097e24052b614a2055d73f302604"), looks := false }, kinds := [], alts := [], laidByText := true, laidKinds := [.data], laidTests := true, laidLooks := .later }
def NamesOemUptoCardSaid : Prop := Claim7.holds Tryd.pinned (.plain (OpenSpec.upto namesOemSpec)) namesOemUptoCard

/-- THE SECOND FORM's CARD OF 'wainloadlaw14.NamesLetters'. -/
def namesLettersUptoCard : Claim7 := { stood := { row := namesLettersUptoRow, standIns := [], harness := (true, "20b0d5cfe7705963a1f35e6e32a16819107d097e24052b614a2055d73f302604"), looks := false }, kinds := [], alts := [], laidByText := true, laidKinds := [.data], laidTests := true, laidLooks := .later }
def NamesLettersUptoCardSaid : Prop := Claim7.holds Tryd.pinned (.plain (OpenSpec.upto namesLettersSpec)) namesLettersUptoCard

/-- THE SECOND FORM's CARD OF 'wainloadlaw14.NamesValid'. -/
def namesValidUptoCard : Claim7 := { stood := { row := namesValidUptoRow, standIns := [], harness := (true, "20b0d5cfe7705963a1f35e6e32a16819107d097e24052b614a2055d73f302604"), looks := false }, kinds := [], alts := [], laidByText := true, laidKinds := [.data], laidTests := true, laidLooks := .later }
def NamesValidUptoCardSaid : Prop := Claim7.holds Tryd.pinned (.plain (OpenSpec.upto namesValidSpec)) namesValidUptoCard
end Rows
end Go.Proofs.YtjmhnmpnpgiaeaaDoor
