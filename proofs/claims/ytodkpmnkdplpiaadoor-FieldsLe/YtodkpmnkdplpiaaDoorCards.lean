/-
  DERIVED. GIVEN WITH THE SEED: THE CARDS: each row of YtodkpmnkdplpiaaDoorRows.lean that lists a variable, with what it lists TIED to the program's text (the seventh form; the later family's looks); each row that meets fmt, with fmt's text TOLD by the authors' own Lean function (tested against real Go, not proved from fmt's source: count such statements apart). THE CARD IS WHAT COUNTS. Prove the row's statement (the work); the ties are given (YtodkpmnkdplpiaaDoorTie.lean); close each card by the builder's one call (the guide's Derived/Test/ToyasCard.lean, 'card_holds'). Laid BY PROGRAM, IN A SANDBOX (cutbox-door.mjs). By AI agents, Wed Nov 11 2026. No macro, syntax, notation, axiom, sorry.
-/
import Derived.Test.YtodkpmnkdplpiaaDoorRows
import GoSem.ClaimSeven
namespace Go.Proofs.YtodkpmnkdplpiaaDoor
namespace Rows

/-- THE TIED CARD OF 'wainloadlaw03.FieldsLe'. -/
def fieldsLeCard : Claim7 := { stood := { row := fieldsLeRow, standIns := [], harness := (true, "0c4cf45e069cd088dc5cec4072058ee645f503df4c904dd886315a9a81146181"), looks := false }, kinds := [], alts := [], laidByText := true, laidKinds := [.data, .data, .data, .data, .pinned], laidTests := true, laidLooks := .later }
def FieldsLeCardSaid : Prop := Claim7.holds Tryd.pinned (.plain (OpenSpec.ofChange fieldsLeSpec)) fieldsLeCard

/-- THE TIED CARD OF 'wainloadlaw03.FieldsOctals'. -/
def fieldsOctalsCard : Claim7 := { stood := { row := fieldsOctalsRow, standIns := [], harness := (true, "0c4cf45e069cd088dc5cec4072058ee645f503df4c904dd886315a9a81146181"), looks := false }, kinds := [], alts := [], laidByText := true, laidKinds := [.data, .data, .data, .data, .pinned], laidTests := true, laidLooks := .later }
def FieldsOctalsCardSaid : Prop := Claim7.holds Tryd.pinned (.plain (OpenSpec.ofChange fieldsOctalsSpec)) fieldsOctalsCard

/-- THE TIED CARD OF 'wainloadlaw03.FieldsPuts'. -/
def fieldsPutsCard : Claim7 := { stood := { row := fieldsPutsRow, standIns := [], harness := (true, "0c4cf45e069cd088dc5cec4072058ee645f503df4c904dd886315a9a81146181"), looks := false }, kinds := [], alts := [], laidByText := true, laidKinds := [.data, .data, .data, .data, .pinned], laidTests := true, laidLooks := .later }
def FieldsPutsCardSaid : Prop := Claim7.holds Tryd.pinned (.plain (OpenSpec.ofChange fieldsPutsSpec)) fieldsPutsCard

/-- THE TIED CARD OF 'wainloadlaw03.FieldsDecimals'. -/
def fieldsDecimalsCard : Claim7 := { stood := { row := fieldsDecimalsRow, standIns := [], harness := (true, "0c4cf45e069cd088dc5cec4072058ee645f503df4c904dd886315a9a81146181"), looks := false }, kinds := [], alts := [], laidByText := true, laidKinds := [.data, .data, .data, .data, .pinned], laidTests := true, laidLooks := .later }
def FieldsDecimalsCardSaid : Prop := Claim7.holds Tryd.pinned (.plain (OpenSpec.ofChange fieldsDecimalsSpec)) fieldsDecimalsCard

/-- THE TIED CARD OF 'wainloadlaw03.FieldsSeconds'. -/
def fieldsSecondsCard : Claim7 := { stood := { row := fieldsSecondsRow, standIns := [], harness := (true, "0c4cf45e069cd088dc5cec4072058ee645f503df4c904dd886315a9a81146181"), looks := false }, kinds := [], alts := [], laidByText := true, laidKinds := [.data, .data, .data, .data, .pinned], laidTests := true, laidLooks := .later }
def FieldsSecondsCardSaid : Prop := Claim7.holds Tryd.pinned (.plain (OpenSpec.ofChange fieldsSecondsSpec)) fieldsSecondsCard

/-- THE TIED CARD OF 'wainloadlaw03.FieldsTimes'. -/
def fieldsTimesCard : Claim7 := { stood := { row := fieldsTimesRow, standIns := [], harness := (true, "0c4cf45e069cd088dc5cec4072058ee645f503df4c904dd886315a9a81146181"), looks := false }, kinds := [], alts := [], laidByText := true, laidKinds := [.data, .data, .data, .data, .pinned], laidTests := true, laidLooks := .later }
def FieldsTimesCardSaid : Prop := Claim7.holds Tryd.pinned (.plain (OpenSpec.ofChange fieldsTimesSpec)) fieldsTimesCard

/-- THE SECOND FORM's CARD OF 'wainloadlaw03.FieldsLe'. -/
def fieldsLeUptoCard : Claim7 := { stood := { row := fieldsLeUptoRow, standIns := [], harness := (true, "0c4cf45e069cd088dc5cec4072058ee645f503df4c904dd886315a9a81146181"), looks := false }, kinds := [], alts := [], laidByText := true, laidKinds := [.data, .data, .data, .data, .pinned], laidTests := true, laidLooks := .later }
def FieldsLeUptoCardSaid : Prop := Claim7.holds Tryd.pinned (.plain (OpenSpec.upto fieldsLeSpec)) fieldsLeUptoCard

/-- THE SECOND FORM's CARD OF 'wainloadlaw03.FieldsOctals'. -/
def fieldsOctalsUptoCard : Claim7 := { stood := { row := fieldsOctalsUptoRow, standIns := [], harness := (true, "0c4cf45e069cd088dc5cec4072058ee645f503df4c904dd886315a9a81146181"), looks := false }, kinds := [], alts := [], laidByText := true, laidKinds := [.data, .data, .data, .data, .pinned], laidTests := true, laidLooks := .later }
def FieldsOctalsUptoCardSaid : Prop := Claim7.holds Tryd.pinned (.plain (OpenSpec.upto fieldsOctalsSpec)) fieldsOctalsUptoCard

/-- THE SECOND FORM's CARD OF 'wainloadlaw03.FieldsPuts'. -/
def fieldsPutsUptoCard : Claim7 := { stood := { row := fieldsPutsUptoRow, standIns := [], harness := (true, "0c4cf45e069cd088dc5cec4072058ee645f503df4c904dd886315a9a81146181"), looks := false }, kinds := [], alts := [], laidByText := true, laidKinds := [.data, .data, .data, .data, .pinned], laidTests := true, laidLooks := .later }
def FieldsPutsUptoCardSaid : Prop := Claim7.holds Tryd.pinned (.plain (OpenSpec.upto fieldsPutsSpec)) fieldsPutsUptoCard

/-- THE SECOND FORM's CARD OF 'wainloadlaw03.FieldsDecimals'. -/
def fieldsDecimalsUptoCard : Claim7 := { stood := { row := fieldsDecimalsUptoRow, standIns := [], harness := (true, "0c4cf45e069cd088dc5cec4072058ee645f503df4c904dd886315a9a81146181"), looks := false }, kinds := [], alts := [], laidByText := true, laidKinds := [.data, .data, .data, .data, .pinned], laidTests := true, laidLooks := .later }
def FieldsDecimalsUptoCardSaid : Prop := Claim7.holds Tryd.pinned (.plain (OpenSpec.upto fieldsDecimalsSpec)) fieldsDecimalsUptoCard

/-- THE SECOND FORM's CARD OF 'wainloadlaw03.FieldsSeconds'. -/
def fieldsSecondsUptoCard : Claim7 := { stood := { row := fieldsSecondsUptoRow, standIns := [], harness := (true, "0c4cf45e069cd088dc5cec4072058ee645f503df4c904dd886315a9a81146181"), looks := false }, kinds := [], alts := [], laidByText := true, laidKinds := [.data, .data, .data, .data, .pinned], laidTests := true, laidLooks := .later }
def FieldsSecondsUptoCardSaid : Prop := Claim7.holds Tryd.pinned (.plain (OpenSpec.upto fieldsSecondsSpec)) fieldsSecondsUptoCard

/-- THE SECOND FORM's CARD OF 'wainloadlaw03.FieldsTimes'. -/
def fieldsTimesUptoCard : Claim7 := { stood := { row := fieldsTimesUptoRow, standIns := [], harness := (true, "0c4cf45e069cd088dc5cec4072058ee645f503df4c904dd886315a9a81146181"), looks := false }, kinds := [], alts := [], laidByText := true, laidKinds := [.data, .data, .data, .data, .pinned], laidTests := true, laidLooks := .later }
def FieldsTimesUptoCardSaid : Prop := Claim7.holds Tryd.pinned (.plain (OpenSpec.upto fieldsTimesSpec)) fieldsTimesUptoCard
end Rows
end Go.Proofs.YtodkpmnkdplpiaaDoor
