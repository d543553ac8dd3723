/-
  DERIVED. GIVEN WITH THE SEED: THE CARDS: each row of YtlakgbckopjelaaGreatDoorRows.lean that lists a variable, with what it lists TIED to the program's text (the seventh form; the later family's looks); each row that meets fmt, with fmt's text TOLD by the authors' own Lean function (tested against real Go, not proved from fmt's source: count such statements apart). THE CARD IS WHAT COUNTS. Prove the row's statement (the work); the ties are given (YtlakgbckopjelaaGreatDoorTie.lean); close each card by the builder's one call (the guide's Derived/Test/ToyasCard.lean, 'card_holds'). Laid BY PROGRAM, IN A SANDBOX (cutbox-door.mjs). By AI agents, Wed Nov 11 2026. No macro, syntax, notation, axiom, sorry.
-/
import Derived.Test.YtlakgbckopjelaaGreatDoorRows
import GoSem.ClaimSeven
namespace Go.Proofs.YtlakgbckopjelaaGreatDoor
namespace Rows

/-- THE TIED CARD OF 'wainloadlaw08.DeflateStored'. -/
def deflateStoredCard : Claim7 := { stood := { row := deflateStoredRow, standIns := [], harness := (true, "136fe2b61287914a1706dcbe2dac08e179685c3554d84bcdcd72145dddbed894"), looks := false }, kinds := [], alts := [], laidByText := true, laidKinds := [.data], laidTests := true, laidLooks := .later }
def DeflateStoredCardSaid : Prop := Claim7.holds Tryz.pinned (.plain (OpenSpec.ofChange deflateStoredSpec)) deflateStoredCard

/-- THE TIED CARD OF 'wainloadlaw08.DeflateFixed'. -/
def deflateFixedCard : Claim7 := { stood := { row := deflateFixedRow, standIns := [], harness := (true, "136fe2b61287914a1706dcbe2dac08e179685c3554d84bcdcd72145dddbed894"), looks := false }, kinds := [], alts := [], laidByText := true, laidKinds := [.data], laidTests := true, laidLooks := .later }
def DeflateFixedCardSaid : Prop := Claim7.holds Tryz.pinned (.plain (OpenSpec.ofChange deflateFixedSpec)) deflateFixedCard

/-- THE TIED CARD OF 'wainloadlaw08.DeflateDynamic'. -/
def deflateDynamicCard : Claim7 := { stood := { row := deflateDynamicRow, standIns := [], harness := (true, "136fe2b61287914a1706dcbe2dac08e179685c3554d84bcdcd72145dddbed894"), looks := false }, kinds := [], alts := [], laidByText := true, laidKinds := [.data], laidTests := true, laidLooks := .later }
def DeflateDynamicCardSaid : Prop := Claim7.holds Tryz.pinned (.plain (OpenSpec.ofChange deflateDynamicSpec)) deflateDynamicCard

/-- THE TIED CARD OF 'wainloadlaw08.DeflateCodes'. -/
def deflateCodesCard : Claim7 := { stood := { row := deflateCodesRow, standIns := [], harness := (true, "136fe2b61287914a1706dcbe2dac08e179685c3554d84bcdcd72145dddbed894"), looks := false }, kinds := [], alts := [], laidByText := true, laidKinds := [.data], laidTests := true, laidLooks := .later }
def DeflateCodesCardSaid : Prop := Claim7.holds Tryz.pinned (.plain (OpenSpec.ofChange deflateCodesSpec)) deflateCodesCard

/-- THE TIED CARD OF 'wainloadlaw08.DeflateBack'. -/
def deflateBackCard : Claim7 := { stood := { row := deflateBackRow, standIns := [], harness := (true, "136fe2b61287914a1706dcbe2dac08e179685c3554d84bcdcd72145dddbed894"), looks := false }, kinds := [], alts := [], laidByText := true, laidKinds := [.data], laidTests := true, laidLooks := .later }
def DeflateBackCardSaid : Prop := Claim7.holds Tryz.pinned (.plain (OpenSpec.ofChange deflateBackSpec)) deflateBackCard

/-- THE SECOND FORM's CARD OF 'wainloadlaw08.DeflateStored'. -/
def deflateStoredUptoCard : Claim7 := { stood := { row := deflateStoredUptoRow, standIns := [], harness := (true, "136fe2b61287914a1706dcbe2dac08e179685c3554d84bcdcd72145dddbed894"), looks := false }, kinds := [], alts := [], laidByText := true, laidKinds := [.data], laidTests := true, laidLooks := .later }
def DeflateStoredUptoCardSaid : Prop := Claim7.holds Tryz.pinned (.plain (OpenSpec.upto deflateStoredSpec)) deflateStoredUptoCard

/-- THE SECOND FORM's CARD OF 'wainloadlaw08.DeflateFixed'. -/
def deflateFixedUptoCard : Claim7 := { stood := { row := deflateFixedUptoRow, standIns := [], harness := (true, "136fe2b61287914a1706dcbe2dac08e179685c3554d84bcdcd72145dddbed894"), looks := false }, kinds := [], alts := [], laidByText := true, laidKinds := [.data], laidTests := true, laidLooks := .later }
def DeflateFixedUptoCardSaid : Prop := Claim7.holds Tryz.pinned (.plain (OpenSpec.upto deflateFixedSpec)) deflateFixedUptoCard

/-- THE SECOND FORM's CARD OF 'wainloadlaw08.DeflateDynamic'. -/
def deflateDynamicUptoCard : Claim7 := { stood := { row := deflateDynamicUptoRow, standIns := [], harness := (true, "136fe2b61287914a1706dcbe2dac08e179685c3554d84bcdcd72145dddbed894"), looks := false }, kinds := [], alts := [], laidByText := true, laidKinds := [.data], laidTests := true, laidLooks := .later }
def DeflateDynamicUptoCardSaid : Prop := Claim7.holds Tryz.pinned (.plain (OpenSpec.upto deflateDynamicSpec)) deflateDynamicUptoCard

/-- THE SECOND FORM's CARD OF 'wainloadlaw08.DeflateCodes'. -/
def deflateCodesUptoCard : Claim7 := { stood := { row := deflateCodesUptoRow, standIns := [], harness := (true, "136fe2b61287914a1706dcbe2dac08e179685c3554d84bcdcd72145dddbed894"), looks := false }, kinds := [], alts := [], laidByText := true, laidKinds := [.data], laidTests := true, laidLooks := .later }
def DeflateCodesUptoCardSaid : Prop := Claim7.holds Tryz.pinned (.plain (OpenSpec.upto deflateCodesSpec)) deflateCodesUptoCard

/-- THE SECOND FORM's CARD OF 'wainloadlaw08.DeflateBack'. -/
def deflateBackUptoCard : Claim7 := { stood := { row := deflateBackUptoRow, standIns := [], harness := (true, "136fe2b61287914a1706dcbe2dac08e179685c3554d84bcdcd72145dddbed894"), looks := false }, kinds := [], alts := [], laidByText := true, laidKinds := [.data], laidTests := true, laidLooks := .later }
def DeflateBackUptoCardSaid : Prop := Claim7.holds Tryz.pinned (.plain (OpenSpec.upto deflateBackSpec)) deflateBackUptoCard
end Rows
end Go.Proofs.YtlakgbckopjelaaGreatDoor
