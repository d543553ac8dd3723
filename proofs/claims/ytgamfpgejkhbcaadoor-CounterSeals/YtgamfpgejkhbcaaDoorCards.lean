/-
  DERIVED. GIVEN WITH THE SEED: THE CARDS: each row of YtgamfpgejkhbcaaDoorRows.lean that lists a variable, with what it lists TIED to the program's text (the seventh form; the later family's looks); each row that meets fmt, with fmt's text TOLD by the authors' own Lean function (tested against real Go, not proved from fmt's source: count such statements apart). THE CARD IS WHAT COUNTS. Prove the row's statement (the work); the ties are given (YtgamfpgejkhbcaaDoorTie.lean); close each card by the builder's one call (the guide's Derived/Test/ToyasCard.lean, 'card_holds'). Laid BY PROGRAM, IN A SANDBOX (cutbox-door.mjs). By AI agents, Wed Nov 11 2026. No macro, syntax, notation, axiom, sorry.
-/
import Derived.Test.YtgamfpgejkhbcaaDoorRows
import GoSem.ClaimSeven
namespace Go.Proofs.YtgamfpgejkhbcaaDoor
namespace Rows

/-- THE TIED CARD OF 'wainloadlaw13.CounterStreams'. -/
def counterStreamsCard : Claim7 := { stood := { row := counterStreamsRow, standIns := [], harness := (true, "016a6a2456bed85d29e65a75ccd0fbe40d6cfd16f2cbf8156b4ab62a8a749eb7"), looks := false }, kinds := [], alts := [], laidByText := true, laidKinds := [.data, .data], laidTests := true, laidLooks := .later }
def CounterStreamsCardSaid : Prop := Claim7.holds Tryd.pinned (.plain (OpenSpec.ofChange counterStreamsSpec)) counterStreamsCard

/-- THE TIED CARD OF 'wainloadlaw13.CounterSeals'. -/
def counterSealsCard : Claim7 := { stood := { row := counterSealsRow, standIns := [], harness := (true, "016a6a2456bed85d29e65a75ccd0fbe40d6cfd16f2cbf8156b4ab62a8a749eb7"), looks := false }, kinds := [], alts := [], laidByText := true, laidKinds := [.data, .data], laidTests := true, laidLooks := .later }
def CounterSealsCardSaid : Prop := Claim7.holds Tryd.pinned (.plain (OpenSpec.ofChange counterSealsSpec)) counterSealsCard

/-- THE TIED CARD OF 'wainloadlaw13.CounterOpens'. -/
def counterOpensCard : Claim7 := { stood := { row := counterOpensRow, standIns := [], harness := (true, "016a6a2456bed85d29e65a75ccd0fbe40d6cfd16f2cbf8156b4ab62a8a749eb7"), looks := false }, kinds := [], alts := [], laidByText := true, laidKinds := [.data, .data], laidTests := true, laidLooks := .later }
def CounterOpensCardSaid : Prop := Claim7.holds Tryd.pinned (.plain (OpenSpec.ofChange counterOpensSpec)) counterOpensCard

/-- THE TIED CARD OF 'wainloadlaw13.CounterBack'. -/
def counterBackCard : Claim7 := { stood := { row := counterBackRow, standIns := [], harness := (true, "016a6a2456bed85d29e65a75ccd0fbe40d6cfd16f2cbf8156b4ab62a8a749eb7"), looks := false }, kinds := [], alts := [], laidByText := true, laidKinds := [.data, .data], laidTests := true, laidLooks := .later }
def CounterBackCardSaid : Prop := Claim7.holds Tryd.pinned (.plain (OpenSpec.ofChange counterBackSpec)) counterBackCard

/-- THE TIED CARD OF 'wainloadlaw13.CounterTwice'. -/
def counterTwiceCard : Claim7 := { stood := { row := counterTwiceRow, standIns := [], harness := (true, "016a6a2456bed85d29e65a75ccd0fbe40d6cfd16f2cbf8156b4ab62a8a749eb7"), looks := false }, kinds := [], alts := [], laidByText := true, laidKinds := [.data, .data], laidTests := true, laidLooks := .later }
def CounterTwiceCardSaid : Prop := Claim7.holds Tryd.pinned (.plain (OpenSpec.ofChange counterTwiceSpec)) counterTwiceCard

/-- THE TIED CARD OF 'wainloadlaw13.CounterTags'. -/
def counterTagsCard : Claim7 := { stood := { row := counterTagsRow, standIns := [], harness := (true, "016a6a2456bed85d29e65a75ccd0fbe40d6cfd16f2cbf8156b4ab62a8a749eb7"), looks := false }, kinds := [], alts := [], laidByText := true, laidKinds := [.data, .data], laidTests := true, laidLooks := .later }
def CounterTagsCardSaid : Prop := Claim7.holds Tryd.pinned (.plain (OpenSpec.ofChange counterTagsSpec)) counterTagsCard

/-- THE SECOND FORM's CARD OF 'wainloadlaw13.CounterStreams'. -/
def counterStreamsUptoCard : Claim7 := { stood := { row := counterStreamsUptoRow, standIns := [], harness := (true, "016a6a2456bed85d29e65a75ccd0fbe40d6cfd16f2cbf8156b4ab62a8a749eb7"), looks := false }, kinds := [], alts := [], laidByText := true, laidKinds := [.data, .data], laidTests := true, laidLooks := .later }
def CounterStreamsUptoCardSaid : Prop := Claim7.holds Tryd.pinned (.plain (OpenSpec.upto counterStreamsSpec)) counterStreamsUptoCard

/-- THE SECOND FORM's CARD OF 'wainloadlaw13.CounterSeals'. -/
def counterSealsUptoCard : Claim7 := { stood := { row := counterSealsUptoRow, standIns := [], harness := (true, "016a6a2456bed85d29e65a75ccd0fbe40d6cfd16f2cbf8156b4ab62a8a749eb7"), looks := false }, kinds := [], alts := [], laidByText := true, laidKinds := [.data, .data], laidTests := true, laidLooks := .later }
def CounterSealsUptoCardSaid : Prop := Claim7.holds Tryd.pinned (.plain (OpenSpec.upto counterSealsSpec)) counterSealsUptoCard

/-- THE SECOND FORM's CARD OF 'wainloadlaw13.CounterOpens'. -/
def counterOpensUptoCard : Claim7 := { stood := { row := counterOpensUptoRow, standIns := [], harness := (true, "016a6a2456bed85d29e65a75ccd0fbe40d6cfd16f2cbf8156b4ab62a8a749eb7"), looks := false }, kinds := [], alts := [], laidByText := true, laidKinds := [.data, .data], laidTests := true, laidLooks := .later }
def CounterOpensUptoCardSaid : Prop := Claim7.holds Tryd.pinned (.plain (OpenSpec.upto counterOpensSpec)) counterOpensUptoCard

/-- THE SECOND FORM's CARD OF 'wainloadlaw13.CounterBack'. -/
def counterBackUptoCard : Claim7 := { stood := { row := counterBackUptoRow, standIns := [], harness := (true, "016a6a2456bed85d29e65a75ccd0fbe40d6cfd16f2cbf8156b4ab62a8a749eb7"), looks := false }, kinds := [], alts := [], laidByText := true, laidKinds := [.data, .data], laidTests := true, laidLooks := .later }
def CounterBackUptoCardSaid : Prop := Claim7.holds Tryd.pinned (.plain (OpenSpec.upto counterBackSpec)) counterBackUptoCard

/-- THE SECOND FORM's CARD OF 'wainloadlaw13.CounterTwice'. -/
def counterTwiceUptoCard : Claim7 := { stood := { row := counterTwiceUptoRow, standIns := [], harness := (true, "016a6a2456bed85d29e65a75ccd0fbe40d6cfd16f2cbf8156b4ab62a8a749eb7"), looks := false }, kinds := [], alts := [], laidByText := true, laidKinds := [.data, .data], laidTests := true, laidLooks := .later }
def CounterTwiceUptoCardSaid : Prop := Claim7.holds Tryd.pinned (.plain (OpenSpec.upto counterTwiceSpec)) counterTwiceUptoCard

/-- THE SECOND FORM's CARD OF 'wainloadlaw13.CounterTags'. -/
def counterTagsUptoCard : Claim7 := { stood := { row := counterTagsUptoRow, standIns := [], harness := (true, "016a6a2456bed85d29e65a75ccd0fbe40d6cfd16f2cbf8156b4ab62a8a749eb7"), looks := false }, kinds := [], alts := [], laidByText := true, laidKinds := [.data, .data], laidTests := true, laidLooks := .later }
def CounterTagsUptoCardSaid : Prop := Claim7.holds Tryd.pinned (.plain (OpenSpec.upto counterTagsSpec)) counterTagsUptoCard
end Rows
end Go.Proofs.YtgamfpgejkhbcaaDoor
