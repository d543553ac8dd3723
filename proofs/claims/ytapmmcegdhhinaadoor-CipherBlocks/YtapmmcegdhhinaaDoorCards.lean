/-
  DERIVED. GIVEN WITH THE SEED: THE CARDS: each row of YtapmmcegdhhinaaDoorRows.lean that lists a variable, with what it lists TIED to the program's text (the seventh form; the later family's looks); each row that meets fmt, with fmt's text TOLD by the authors' own Lean function (tested against real Go, not proved from fmt's source: count such statements apart). THE CARD IS WHAT COUNTS. Prove the row's statement (the work); the ties are given (YtapmmcegdhhinaaDoorTie.lean); close each card by the builder's one call (the guide's Derived/Test/ToyasCard.lean, 'card_holds'). Laid BY PROGRAM, IN A SANDBOX (cutbox-door.mjs). By AI agents, Wed Nov 11 2026. No macro, syntax, notation, axiom, sorry.
-/
import Derived.Test.YtapmmcegdhhinaaDoorRows
import GoSem.ClaimSeven
namespace Go.Proofs.YtapmmcegdhhinaaDoor
namespace Rows

/-- THE TIED CARD OF 'wainloadlaw12.CipherBytes'. -/
def cipherBytesCard : Claim7 := { stood := { row := cipherBytesRow, standIns := [], harness := (true, "3b2f872571bfc2d4391139a82dec8457b7ec9aafa8013f217440049a21f4b5e7"), looks := false }, kinds := [], alts := [], laidByText := true, laidKinds := [.data, .data], laidTests := true, laidLooks := .later }
def CipherBytesCardSaid : Prop := Claim7.holds Tryd.pinned (.plain (OpenSpec.ofChange cipherBytesSpec)) cipherBytesCard

/-- THE TIED CARD OF 'wainloadlaw12.CipherBlocks'. -/
def cipherBlocksCard : Claim7 := { stood := { row := cipherBlocksRow, standIns := [], harness := (true, "3b2f872571bfc2d4391139a82dec8457b7ec9aafa8013f217440049a21f4b5e7"), looks := false }, kinds := [], alts := [], laidByText := true, laidKinds := [.data, .data], laidTests := true, laidLooks := .later }
def CipherBlocksCardSaid : Prop := Claim7.holds Tryd.pinned (.plain (OpenSpec.ofChange cipherBlocksSpec)) cipherBlocksCard

/-- THE TIED CARD OF 'wainloadlaw12.CipherUnlike'. -/
def cipherUnlikeCard : Claim7 := { stood := { row := cipherUnlikeRow, standIns := [], harness := (true, "3b2f872571bfc2d4391139a82dec8457b7ec9aafa8013f217440049a21f4b5e7"), looks := false }, kinds := [], alts := [], laidByText := true, laidKinds := [.data, .data], laidTests := true, laidLooks := .later }
def CipherUnlikeCardSaid : Prop := Claim7.holds Tryd.pinned (.plain (OpenSpec.ofChange cipherUnlikeSpec)) cipherUnlikeCard

/-- THE TIED CARD OF 'wainloadlaw12.CipherLaws'. -/
def cipherLawsCard : Claim7 := { stood := { row := cipherLawsRow, standIns := [], harness := (true, "3b2f872571bfc2d4391139a82dec8457b7ec9aafa8013f217440049a21f4b5e7"), looks := false }, kinds := [], alts := [], laidByText := true, laidKinds := [.data, .data], laidTests := true, laidLooks := .later }
def CipherLawsCardSaid : Prop := Claim7.holds Tryd.pinned (.plain (OpenSpec.ofChange cipherLawsSpec)) cipherLawsCard

/-- THE TIED CARD OF 'wainloadlaw12.CipherBox'. -/
def cipherBoxCard : Claim7 := { stood := { row := cipherBoxRow, standIns := [], harness := (true, "3b2f872571bfc2d4391139a82dec8457b7ec9aafa8013f217440049a21f4b5e7"), looks := false }, kinds := [], alts := [], laidByText := true, laidKinds := [.data, .data], laidTests := true, laidLooks := .later }
def CipherBoxCardSaid : Prop := Claim7.holds Tryd.pinned (.plain (OpenSpec.ofChange cipherBoxSpec)) cipherBoxCard

/-- THE TIED CARD OF 'wainloadlaw12.CipherKeeps'. -/
def cipherKeepsCard : Claim7 := { stood := { row := cipherKeepsRow, standIns := [], harness := (true, "3b2f872571bfc2d4391139a82dec8457b7ec9aafa8013f217440049a21f4b5e7"), looks := false }, kinds := [], alts := [], laidByText := true, laidKinds := [.data, .data], laidTests := true, laidLooks := .later }
def CipherKeepsCardSaid : Prop := Claim7.holds Tryd.pinned (.plain (OpenSpec.ofChange cipherKeepsSpec)) cipherKeepsCard

/-- THE SECOND FORM's CARD OF 'wainloadlaw12.CipherBytes'. -/
def cipherBytesUptoCard : Claim7 := { stood := { row := cipherBytesUptoRow, standIns := [], harness := (true, "3b2f872571bfc2d4391139a82dec8457b7ec9aafa8013f217440049a21f4b5e7"), looks := false }, kinds := [], alts := [], laidByText := true, laidKinds := [.data, .data], laidTests := true, laidLooks := .later }
def CipherBytesUptoCardSaid : Prop := Claim7.holds Tryd.pinned (.plain (OpenSpec.upto cipherBytesSpec)) cipherBytesUptoCard

/-- THE SECOND FORM's CARD OF 'wainloadlaw12.CipherBlocks'. -/
def cipherBlocksUptoCard : Claim7 := { stood := { row := cipherBlocksUptoRow, standIns := [], harness := (true, "3b2f872571bfc2d4391139a82dec8457b7ec9aafa8013f217440049a21f4b5e7"), looks := false }, kinds := [], alts := [], laidByText := true, laidKinds := [.data, .data], laidTests := true, laidLooks := .later }
def CipherBlocksUptoCardSaid : Prop := Claim7.holds Tryd.pinned (.plain (OpenSpec.upto cipherBlocksSpec)) cipherBlocksUptoCard

/-- THE SECOND FORM's CARD OF 'wainloadlaw12.CipherUnlike'. -/
def cipherUnlikeUptoCard : Claim7 := { stood := { row := cipherUnlikeUptoRow, standIns := [], harness := (true, "3b2f872571bfc2d4391139a82dec8457b7ec9aafa8013f217440049a21f4b5e7"), looks := false }, kinds := [], alts := [], laidByText := true, laidKinds := [.data, .data], laidTests := true, laidLooks := .later }
def CipherUnlikeUptoCardSaid : Prop := Claim7.holds Tryd.pinned (.plain (OpenSpec.upto cipherUnlikeSpec)) cipherUnlikeUptoCard

/-- THE SECOND FORM's CARD OF 'wainloadlaw12.CipherLaws'. -/
def cipherLawsUptoCard : Claim7 := { stood := { row := cipherLawsUptoRow, standIns := [], harness := (true, "3b2f872571bfc2d4391139a82dec8457b7ec9aafa8013f217440049a21f4b5e7"), looks := false }, kinds := [], alts := [], laidByText := true, laidKinds := [.data, .data], laidTests := true, laidLooks := .later }
def CipherLawsUptoCardSaid : Prop := Claim7.holds Tryd.pinned (.plain (OpenSpec.upto cipherLawsSpec)) cipherLawsUptoCard

/-- THE SECOND FORM's CARD OF 'wainloadlaw12.CipherBox'. -/
def cipherBoxUptoCard : Claim7 := { stood := { row := cipherBoxUptoRow, standIns := [], harness := (true, "3b2f872571bfc2d4391139a82dec8457b7ec9aafa8013f217440049a21f4b5e7"), looks := false }, kinds := [], alts := [], laidByText := true, laidKinds := [.data, .data], laidTests := true, laidLooks := .later }
def CipherBoxUptoCardSaid : Prop := Claim7.holds Tryd.pinned (.plain (OpenSpec.upto cipherBoxSpec)) cipherBoxUptoCard

/-- THE SECOND FORM's CARD OF 'wainloadlaw12.CipherKeeps'. -/
def cipherKeepsUptoCard : Claim7 := { stood := { row := cipherKeepsUptoRow, standIns := [], harness := (true, "3b2f872571bfc2d4391139a82dec8457b7ec9aafa8013f217440049a21f4b5e7"), looks := false }, kinds := [], alts := [], laidByText := true, laidKinds := [.data, .data], laidTests := true, laidLooks := .later }
def CipherKeepsUptoCardSaid : Prop := Claim7.holds Tryd.pinned (.plain (OpenSpec.upto cipherKeepsSpec)) cipherKeepsUptoCard
end Rows
end Go.Proofs.YtapmmcegdhhinaaDoor
