/-
  DERIVED. GIVEN WITH THE SEED: THE CARDS: each row of YtibolmgijaploaaDoorRows.lean that lists a variable, with what it lists TIED to the program's text (the seventh form; the later family's looks); each row that meets fmt, with fmt's text TOLD by the authors' own Lean function (tested against real Go, not proved from fmt's source: count such statements apart). THE CARD IS WHAT COUNTS. Prove the row's statement (the work); the ties are given (YtibolmgijaploaaDoorTie.lean); close each card by the builder's one call (the guide's Derived/Test/ToyasCard.lean, 'card_holds'). Laid BY PROGRAM, IN A SANDBOX (cutbox-door.mjs). By AI agents, Wed Nov 11 2026. No macro, syntax, notation, axiom, sorry.
-/
import Derived.Test.YtibolmgijaploaaDoorRows
import GoSem.ClaimSeven
namespace Go.Proofs.YtibolmgijaploaaDoor
namespace Rows

/-- THE TIED CARD OF 'wainloadlaw06.InflateReads'. -/
def inflateReadsCard : Claim7 := { stood := { row := inflateReadsRow, standIns := [], harness := (true, "e4fc9d590e68880622b9c2edf7d642af724a720d23880d15b4af56cf0d7d4162"), looks := false }, kinds := [], alts := [], laidByText := true, laidKinds := [.data], laidTests := true, laidLooks := .later }
def InflateReadsCardSaid : Prop := Claim7.holds Tryd.pinned (.plain (OpenSpec.ofChange inflateReadsSpec)) inflateReadsCard

/-- THE TIED CARD OF 'wainloadlaw06.InflateMore'. -/
def inflateMoreCard : Claim7 := { stood := { row := inflateMoreRow, standIns := [], harness := (true, "e4fc9d590e68880622b9c2edf7d642af724a720d23880d15b4af56cf0d7d4162"), looks := false }, kinds := [], alts := [], laidByText := true, laidKinds := [.data], laidTests := true, laidLooks := .later }
def InflateMoreCardSaid : Prop := Claim7.holds Tryd.pinned (.plain (OpenSpec.ofChange inflateMoreSpec)) inflateMoreCard

/-- THE TIED CARD OF 'wainloadlaw06.InflateMost'. -/
def inflateMostCard : Claim7 := { stood := { row := inflateMostRow, standIns := [], harness := (true, "e4fc9d590e68880622b9c2edf7d642af724a720d23880d15b4af56cf0d7d4162"), looks := false }, kinds := [], alts := [], laidByText := true, laidKinds := [.data], laidTests := true, laidLooks := .later }
def InflateMostCardSaid : Prop := Claim7.holds Tryd.pinned (.plain (OpenSpec.ofChange inflateMostSpec)) inflateMostCard

/-- THE TIED CARD OF 'wainloadlaw06.InflateStored'. -/
def inflateStoredCard : Claim7 := { stood := { row := inflateStoredRow, standIns := [], harness := (true, "e4fc9d590e68880622b9c2edf7d642af724a720d23880d15b4af56cf0d7d4162"), looks := false }, kinds := [], alts := [], laidByText := true, laidKinds := [.data], laidTests := true, laidLooks := .later }
def InflateStoredCardSaid : Prop := Claim7.holds Tryd.pinned (.plain (OpenSpec.ofChange inflateStoredSpec)) inflateStoredCard

/-- THE TIED CARD OF 'wainloadlaw06.InflateCuts'. -/
def inflateCutsCard : Claim7 := { stood := { row := inflateCutsRow, standIns := [], harness := (true, "e4fc9d590e68880622b9c2edf7d642af724a720d23880d15b4af56cf0d7d4162"), looks := false }, kinds := [], alts := [], laidByText := true, laidKinds := [.data], laidTests := true, laidLooks := .later }
def InflateCutsCardSaid : Prop := Claim7.holds Tryd.pinned (.plain (OpenSpec.ofChange inflateCutsSpec)) inflateCutsCard

/-- THE TIED CARD OF 'wainloadlaw06.InflateBehind'. -/
def inflateBehindCard : Claim7 := { stood := { row := inflateBehindRow, standIns := [], harness := (true, "e4fc9d590e68880622b9c2edf7d642af724a720d23880d15b4af56cf0d7d4162"), looks := false }, kinds := [], alts := [], laidByText := true, laidKinds := [.data], laidTests := true, laidLooks := .later }
def InflateBehindCardSaid : Prop := Claim7.holds Tryd.pinned (.plain (OpenSpec.ofChange inflateBehindSpec)) inflateBehindCard

/-- THE SECOND FORM's CARD OF 'wainloadlaw06.InflateReads'. -/
def inflateReadsUptoCard : Claim7 := { stood := { row := inflateReadsUptoRow, standIns := [], harness := (true, "e4fc9d590e68880622b9c2edf7d642af724a720d23880d15b4af56cf0d7d4162"), looks := false }, kinds := [], alts := [], laidByText := true, laidKinds := [.data], laidTests := true, laidLooks := .later }
def InflateReadsUptoCardSaid : Prop := Claim7.holds Tryd.pinned (.plain (OpenSpec.upto inflateReadsSpec)) inflateReadsUptoCard

/-- THE SECOND FORM's CARD OF 'wainloadlaw06.InflateMore'. -/
def inflateMoreUptoCard : Claim7 := { stood := { row := inflateMoreUptoRow, standIns := [], harness := (true, "e4fc9d590e68880622b9c2edf7d642af724a720d23880d15b4af56cf0d7d4162"), looks := false }, kinds := [], alts := [], laidByText := true, laidKinds := [.data], laidTests := true, laidLooks := .later }
def InflateMoreUptoCardSaid : Prop := Claim7.holds Tryd.pinned (.plain (OpenSpec.upto inflateMoreSpec)) inflateMoreUptoCard

/-- THE SECOND FORM's CARD OF 'wainloadlaw06.InflateMost'. -/
def inflateMostUptoCard : Claim7 := { stood := { row := inflateMostUptoRow, standIns := [], harness := (true, "e4fc9d590e68880622b9c2edf7d642af724a720d23880d15b4af56cf0d7d4162"), looks := false }, kinds := [], alts := [], laidByText := true, laidKinds := [.data], laidTests := true, laidLooks := .later }
def InflateMostUptoCardSaid : Prop := Claim7.holds Tryd.pinned (.plain (OpenSpec.upto inflateMostSpec)) inflateMostUptoCard

/-- THE SECOND FORM's CARD OF 'wainloadlaw06.InflateStored'. -/
def inflateStoredUptoCard : Claim7 := { stood := { row := inflateStoredUptoRow, standIns := [], harness := (true, "e4fc9d590e68880622b9c2edf7d642af724a720d23880d15b4af56cf0d7d4162"), looks := false }, kinds := [], alts := [], laidByText := true, laidKinds := [.data], laidTests := true, laidLooks := .later }
def InflateStoredUptoCardSaid : Prop := Claim7.holds Tryd.pinned (.plain (OpenSpec.upto inflateStoredSpec)) inflateStoredUptoCard

/-- THE SECOND FORM's CARD OF 'wainloadlaw06.InflateCuts'. -/
def inflateCutsUptoCard : Claim7 := { stood := { row := inflateCutsUptoRow, standIns := [], harness := (true, "e4fc9d590e68880622b9c2edf7d642af724a720d23880d15b4af56cf0d7d4162"), looks := false }, kinds := [], alts := [], laidByText := true, laidKinds := [.data], laidTests := true, laidLooks := .later }
def InflateCutsUptoCardSaid : Prop := Claim7.holds Tryd.pinned (.plain (OpenSpec.upto inflateCutsSpec)) inflateCutsUptoCard

/-- THE SECOND FORM's CARD OF 'wainloadlaw06.InflateBehind'. -/
def inflateBehindUptoCard : Claim7 := { stood := { row := inflateBehindUptoRow, standIns := [], harness := (true, "e4fc9d590e68880622b9c2edf7d642af724a720d23880d15b4af56cf0d7d4162"), looks := false }, kinds := [], alts := [], laidByText := true, laidKinds := [.data], laidTests := true, laidLooks := .later }
def InflateBehindUptoCardSaid : Prop := Claim7.holds Tryd.pinned (.plain (OpenSpec.upto inflateBehindSpec)) inflateBehindUptoCard
end Rows
end Go.Proofs.YtibolmgijaploaaDoor
