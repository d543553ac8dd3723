/-
  DERIVED. GIVEN WITH THE SEED: THE CARDS: each row of YtgjafmppkfgkfaaGreatDoorRows.lean that lists a variable, with what it lists TIED to the program's text (the seventh form; the later family's looks); each row that meets fmt, with fmt's text TOLD by the authors' own Lean function (tested against real Go, not proved from fmt's source: count such statements apart). THE CARD IS WHAT COUNTS. Prove the row's statement (the work); the ties are given (YtgjafmppkfgkfaaGreatDoorTie.lean); close each card by the builder's one call (the guide's Derived/Test/ToyasCard.lean, 'card_holds'). Laid BY PROGRAM, IN A SANDBOX (cutbox-door.mjs). By AI agents, Wed Nov 11 2026. No macro, syntax, notation, axiom, sorry.
-/
import Derived.Test.YtgjafmppkfgkfaaGreatDoorRows
import GoSem.ClaimSeven
namespace Go.Proofs.YtgjafmppkfgkfaaGreatDoor
namespace Rows

/-- THE TIED CARD OF 'wainloadlaw09.GzReads'. -/
def gzReadsCard : Claim7 := { stood := { row := gzReadsRow, standIns := [], harness := (true, "1c8c8f8128ca3f878b973eedcddb64809d17fa79d09dd4f5fca122586cff8c62"), looks := false }, kinds := [], alts := [], laidByText := true, laidKinds := [.data, .data], laidTests := true, laidLooks := .later }
def GzReadsCardSaid : Prop := Claim7.holds Tryz.pinned (.plain (OpenSpec.ofChange gzReadsSpec)) gzReadsCard

/-- THE TIED CARD OF 'wainloadlaw09.GzWrites'. -/
def gzWritesCard : Claim7 := { stood := { row := gzWritesRow, standIns := [], harness := (true, "1c8c8f8128ca3f878b973eedcddb64809d17fa79d09dd4f5fca122586cff8c62"), looks := false }, kinds := [], alts := [], laidByText := true, laidKinds := [.data, .data], laidTests := true, laidLooks := .later }
def GzWritesCardSaid : Prop := Claim7.holds Tryz.pinned (.plain (OpenSpec.ofChange gzWritesSpec)) gzWritesCard

/-- THE TIED CARD OF 'wainloadlaw09.GzBack'. -/
def gzBackCard : Claim7 := { stood := { row := gzBackRow, standIns := [], harness := (true, "1c8c8f8128ca3f878b973eedcddb64809d17fa79d09dd4f5fca122586cff8c62"), looks := false }, kinds := [], alts := [], laidByText := true, laidKinds := [.data, .data], laidTests := true, laidLooks := .later }
def GzBackCardSaid : Prop := Claim7.holds Tryz.pinned (.plain (OpenSpec.ofChange gzBackSpec)) gzBackCard

/-- THE TIED CARD OF 'wainloadlaw09.GzCuts'. -/
def gzCutsCard : Claim7 := { stood := { row := gzCutsRow, standIns := [], harness := (true, "1c8c8f8128ca3f878b973eedcddb64809d17fa79d09dd4f5fca122586cff8c62"), looks := false }, kinds := [], alts := [], laidByText := true, laidKinds := [.data, .data], laidTests := true, laidLooks := .later }
def GzCutsCardSaid : Prop := Claim7.holds Tryz.pinned (.plain (OpenSpec.ofChange gzCutsSpec)) gzCutsCard

/-- THE TIED CARD OF 'wainloadlaw09.GzSums'. -/
def gzSumsCard : Claim7 := { stood := { row := gzSumsRow, standIns := [], harness := (true, "1c8c8f8128ca3f878b973eedcddb64809d17fa79d09dd4f5fca122586cff8c62"), looks := false }, kinds := [], alts := [], laidByText := true, laidKinds := [.data, .data], laidTests := true, laidLooks := .later }
def GzSumsCardSaid : Prop := Claim7.holds Tryz.pinned (.plain (OpenSpec.ofChange gzSumsSpec)) gzSumsCard

/-- THE TIED CARD OF 'wainloadlaw09.GzOver'. -/
def gzOverCard : Claim7 := { stood := { row := gzOverRow, standIns := [], harness := (true, "1c8c8f8128ca3f878b973eedcddb64809d17fa79d09dd4f5fca122586cff8c62"), looks := false }, kinds := [], alts := [], laidByText := true, laidKinds := [.data, .data], laidTests := true, laidLooks := .later }
def GzOverCardSaid : Prop := Claim7.holds Tryz.pinned (.plain (OpenSpec.ofChange gzOverSpec)) gzOverCard

/-- THE SECOND FORM's CARD OF 'wainloadlaw09.GzReads'. -/
def gzReadsUptoCard : Claim7 := { stood := { row := gzReadsUptoRow, standIns := [], harness := (true, "1c8c8f8128ca3f878b973eedcddb64809d17fa79d09dd4f5fca122586cff8c62"), looks := false }, kinds := [], alts := [], laidByText := true, laidKinds := [.data, .data], laidTests := true, laidLooks := .later }
def GzReadsUptoCardSaid : Prop := Claim7.holds Tryz.pinned (.plain (OpenSpec.upto gzReadsSpec)) gzReadsUptoCard

/-- THE SECOND FORM's CARD OF 'wainloadlaw09.GzWrites'. -/
def gzWritesUptoCard : Claim7 := { stood := { row := gzWritesUptoRow, standIns := [], harness := (true, "1c8c8f8128ca3f878b973eedcddb64809d17fa79d09dd4f5fca122586cff8c62"), looks := false }, kinds := [], alts := [], laidByText := true, laidKinds := [.data, .data], laidTests := true, laidLooks := .later }
def GzWritesUptoCardSaid : Prop := Claim7.holds Tryz.pinned (.plain (OpenSpec.upto gzWritesSpec)) gzWritesUptoCard

/-- THE SECOND FORM's CARD OF 'wainloadlaw09.GzBack'. -/
def gzBackUptoCard : Claim7 := { stood := { row := gzBackUptoRow, standIns := [], harness := (true, "1c8c8f8128ca3f878b973eedcddb64809d17fa79d09dd4f5fca122586cff8c62"), looks := false }, kinds := [], alts := [], laidByText := true, laidKinds := [.data, .data], laidTests := true, laidLooks := .later }
def GzBackUptoCardSaid : Prop := Claim7.holds Tryz.pinned (.plain (OpenSpec.upto gzBackSpec)) gzBackUptoCard

/-- THE SECOND FORM's CARD OF 'wainloadlaw09.GzCuts'. -/
def gzCutsUptoCard : Claim7 := { stood := { row := gzCutsUptoRow, standIns := [], harness := (true, "1c8c8f8128ca3f878b973eedcddb64809d17fa79d09dd4f5fca122586cff8c62"), looks := false }, kinds := [], alts := [], laidByText := true, laidKinds := [.data, .data], laidTests := true, laidLooks := .later }
def GzCutsUptoCardSaid : Prop := Claim7.holds Tryz.pinned (.plain (OpenSpec.upto gzCutsSpec)) gzCutsUptoCard

/-- THE SECOND FORM's CARD OF 'wainloadlaw09.GzSums'. -/
def gzSumsUptoCard : Claim7 := { stood := { row := gzSumsUptoRow, standIns := [], harness := (true, "1c8c8f8128ca3f878b973eedcddb64809d17fa79d09dd4f5fca122586cff8c62"), looks := false }, kinds := [], alts := [], laidByText := true, laidKinds := [.data, .data], laidTests := true, laidLooks := .later }
def GzSumsUptoCardSaid : Prop := Claim7.holds Tryz.pinned (.plain (OpenSpec.upto gzSumsSpec)) gzSumsUptoCard

/-- THE SECOND FORM's CARD OF 'wainloadlaw09.GzOver'. -/
def gzOverUptoCard : Claim7 := { stood := { row := gzOverUptoRow, standIns := [], harness := (true, "1c8c8f8128ca3f878b973eedcddb64809d17fa79d09dd4f5fca122586cff8c62"), looks := false }, kinds := [], alts := [], laidByText := true, laidKinds := [.data, .data], laidTests := true, laidLooks := .later }
def GzOverUptoCardSaid : Prop := Claim7.holds Tryz.pinned (.plain (OpenSpec.upto gzOverSpec)) gzOverUptoCard
end Rows
end Go.Proofs.YtgjafmppkfgkfaaGreatDoor
