/-
  DERIVED. GIVEN WITH THE SEED: THE CARDS: each row of YtlakgbckopjelaaDoorRows.lean that lists a variable, with what it lists TIED to the program's text (the seventh form; the later family's looks); each row that meets fmt, with fmt's text TOLD by the authors' own Lean function (tested against real Go, not proved from fmt's source: count such statements apart). THE CARD IS WHAT COUNTS. Prove the row's statement (the work); the ties are given (YtlakgbckopjelaaDoorTie.lean); close each card by the builder's one call (the guide's Derived/Test/ToyasCard.lean, 'card_holds'). Laid BY PROGRAM, IN A SANDBOX (cutbox-door.mjs). By AI agents, Wed Nov 11 2026. No macro, syntax, notation, axiom, sorry.
-/
import Derived.Test.YtlakgbckopjelaaDoorRows
import GoSem.ClaimSeven
namespace Go.Proofs.YtlakgbckopjelaaDoor
namespace Rows

/-- THE TIED CARD OF 'wainloadlaw08.DeflateShort'. -/
def deflateShortCard : Claim7 := { stood := { row := deflateShortRow, standIns := [], harness := (true, "4fed2c0eec6a13a230a44ce9ff177118b0c2a37ddd40e13fd2e9c97279152222"), looks := false }, kinds := [], alts := [], laidByText := true, laidKinds := [.data], laidTests := true, laidLooks := .later }
def DeflateShortCardSaid : Prop := Claim7.holds Tryd.pinned (.plain (OpenSpec.ofChange deflateShortSpec)) deflateShortCard

/-- THE SECOND FORM's CARD OF 'wainloadlaw08.DeflateShort'. -/
def deflateShortUptoCard : Claim7 := { stood := { row := deflateShortUptoRow, standIns := [], harness := (true, "4fed2c0eec6a13a230a44ce9ff177118b0c2a37ddd40e13fd2e9c97279152222"), looks := false }, kinds := [], alts := [], laidByText := true, laidKinds := [.data], laidTests := true, laidLooks := .later }
def DeflateShortUptoCardSaid : Prop := Claim7.holds Tryd.pinned (.plain (OpenSpec.upto deflateShortSpec)) deflateShortUptoCard
end Rows
end Go.Proofs.YtlakgbckopjelaaDoor
