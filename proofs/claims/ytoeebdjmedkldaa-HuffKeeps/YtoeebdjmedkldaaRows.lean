/-
  No cell of these rows narrows 'for every input' (looked for: loops, veiled, ifaces, maps, wideKeys, modest, calm, conditions, laid).
  DERIVED. THE GIVEN ROWS OF THIS SEAT. 6 by the template 'for every input the law returns true; each argument reads behind the call as it read before'; 0 by the template 'total and deterministic' (their statements: YtoeebdjmedkldaaTotals.lean).
  GIVEN WITH THE SEED: the statements are not yours to turn. If you find one false, say at which input.
  Laid BY PROGRAM, IN A SANDBOX (cutbox-rows.mjs): the forced cells as the released guide's own fill.sh prints them over the translation c048b539104877a9… (all of the seat's roots in one cut). By AI agents, Wed Nov 11 2026. No macro, syntax, notation, axiom, sorry.
-/
import Derived.Test.YtoeebdjmedkldaaChecked
import GoSem.Claim
import GoSem.ClaimJoined
import GoSem.ClaimMapViews
import Derived.JoinedTies
import Derived.KernelRfl
namespace Go.Proofs.Ytoeebdjmedkldaa
/- THE CELL 'sum', in the pinned program and in every row, IS THE sha256 OF THE DUMP (.gsa) THAT YtoeebdjmedkldaaProg.lean LOADS. Nothing in Lean hashes anything: it is a label: what it is worth is what the hold of that sum in a sandbox is worth. -/
noncomputable def Try.pinned : Pinned := { name := "ytoeebdjmedkldaa", sum := "c048b539104877a916a7be9fd45c9e180becd1bf712deaa3c6188964903d1bab", checked := Try.checked }
namespace Rows
def none {H : Type} : Left H := { results := [], args := [] }

/-- 'wainloadlaw04.HuffMakes': WHATEVER THE INPUT: true; the input reads as it did. -/
def huffMakesSpec : ChangeSpec := { name := "huffMakes", fn := fun _ => fun
  | [d1, d2] => { results := [.lit (.bool true)], args := [d1, d2] }
  | _ => none }
def huffMakesRow : OpenClaim := { program := "ytoeebdjmedkldaa", sum := "c048b539104877a916a7be9fd45c9e180becd1bf712deaa3c6188964903d1bab", func := "wainload/wainloadlaw04.HuffMakes", spec := "huffMakes", unfollowed := true, recurses := true, apart := false }
def HuffMakesSaid : Prop := huffMakesRow.holds Try.pinned (OpenSpec.ofChange huffMakesSpec)

/-- ITS FALSE NEIGHBOUR: 'it returns false'. Refute it at one input. -/
def huffMakesWrong : ChangeSpec := { name := "huffMakes", fn := fun _ => fun
  | [d1, d2] => { results := [.lit (.bool false)], args := [d1, d2] }
  | _ => none }
def HuffMakesWrongFalsely : Prop := huffMakesRow.holds Try.pinned (OpenSpec.ofChange huffMakesWrong)

/-- 'wainloadlaw04.HuffCodes': WHATEVER THE INPUT: true; the input reads as it did. -/
def huffCodesSpec : ChangeSpec := { name := "huffCodes", fn := fun _ => fun
  | [d] => { results := [.lit (.bool true)], args := [d] }
  | _ => none }
def huffCodesRow : OpenClaim := { program := "ytoeebdjmedkldaa", sum := "c048b539104877a916a7be9fd45c9e180becd1bf712deaa3c6188964903d1bab", func := "wainload/wainloadlaw04.HuffCodes", spec := "huffCodes", unfollowed := true, recurses := true, apart := false }
def HuffCodesSaid : Prop := huffCodesRow.holds Try.pinned (OpenSpec.ofChange huffCodesSpec)

/-- ITS FALSE NEIGHBOUR: 'it returns false'. Refute it at one input. -/
def huffCodesWrong : ChangeSpec := { name := "huffCodes", fn := fun _ => fun
  | [d] => { results := [.lit (.bool false)], args := [d] }
  | _ => none }
def HuffCodesWrongFalsely : Prop := huffCodesRow.holds Try.pinned (OpenSpec.ofChange huffCodesWrong)

/-- 'wainloadlaw04.HuffReads': WHATEVER THE INPUT: true; the input reads as it did. -/
def huffReadsSpec : ChangeSpec := { name := "huffReads", fn := fun _ => fun
  | [d1, d2] => { results := [.lit (.bool true)], args := [d1, d2] }
  | _ => none }
def huffReadsRow : OpenClaim := { program := "ytoeebdjmedkldaa", sum := "c048b539104877a916a7be9fd45c9e180becd1bf712deaa3c6188964903d1bab", func := "wainload/wainloadlaw04.HuffReads", spec := "huffReads", unfollowed := true, recurses := true, apart := false }
def HuffReadsSaid : Prop := huffReadsRow.holds Try.pinned (OpenSpec.ofChange huffReadsSpec)

/-- ITS FALSE NEIGHBOUR: 'it returns false'. Refute it at one input. -/
def huffReadsWrong : ChangeSpec := { name := "huffReads", fn := fun _ => fun
  | [d1, d2] => { results := [.lit (.bool false)], args := [d1, d2] }
  | _ => none }
def HuffReadsWrongFalsely : Prop := huffReadsRow.holds Try.pinned (OpenSpec.ofChange huffReadsWrong)

/-- 'wainloadlaw04.HuffBack': WHATEVER THE INPUT: true; the input reads as it did. -/
def huffBackSpec : ChangeSpec := { name := "huffBack", fn := fun _ => fun
  | [d1, d2, d3] => { results := [.lit (.bool true)], args := [d1, d2, d3] }
  | _ => none }
def huffBackRow : OpenClaim := { program := "ytoeebdjmedkldaa", sum := "c048b539104877a916a7be9fd45c9e180becd1bf712deaa3c6188964903d1bab", func := "wainload/wainloadlaw04.HuffBack", spec := "huffBack", unfollowed := true, recurses := true, apart := false }
def HuffBackSaid : Prop := huffBackRow.holds Try.pinned (OpenSpec.ofChange huffBackSpec)

/-- ITS FALSE NEIGHBOUR: 'it returns false'. Refute it at one input. -/
def huffBackWrong : ChangeSpec := { name := "huffBack", fn := fun _ => fun
  | [d1, d2, d3] => { results := [.lit (.bool false)], args := [d1, d2, d3] }
  | _ => none }
def HuffBackWrongFalsely : Prop := huffBackRow.holds Try.pinned (OpenSpec.ofChange huffBackWrong)

/-- 'wainloadlaw04.HuffFull': WHATEVER THE INPUT: true; the input reads as it did. -/
def huffFullSpec : ChangeSpec := { name := "huffFull", fn := fun _ => fun
  | [d1, d2] => { results := [.lit (.bool true)], args := [d1, d2] }
  | _ => none }
def huffFullRow : OpenClaim := { program := "ytoeebdjmedkldaa", sum := "c048b539104877a916a7be9fd45c9e180becd1bf712deaa3c6188964903d1bab", func := "wainload/wainloadlaw04.HuffFull", spec := "huffFull", unfollowed := true, recurses := true, apart := false }
def HuffFullSaid : Prop := huffFullRow.holds Try.pinned (OpenSpec.ofChange huffFullSpec)

/-- ITS FALSE NEIGHBOUR: 'it returns false'. Refute it at one input. -/
def huffFullWrong : ChangeSpec := { name := "huffFull", fn := fun _ => fun
  | [d1, d2] => { results := [.lit (.bool false)], args := [d1, d2] }
  | _ => none }
def HuffFullWrongFalsely : Prop := huffFullRow.holds Try.pinned (OpenSpec.ofChange huffFullWrong)

/-- 'wainloadlaw04.HuffKeeps': WHATEVER THE INPUT: true; the input reads as it did. -/
def huffKeepsSpec : ChangeSpec := { name := "huffKeeps", fn := fun _ => fun
  | [d1, d2] => { results := [.lit (.bool true)], args := [d1, d2] }
  | _ => none }
def huffKeepsRow : OpenClaim := { program := "ytoeebdjmedkldaa", sum := "c048b539104877a916a7be9fd45c9e180becd1bf712deaa3c6188964903d1bab", func := "wainload/wainloadlaw04.HuffKeeps", spec := "huffKeeps", unfollowed := true, recurses := true, apart := false }
def HuffKeepsSaid : Prop := huffKeepsRow.holds Try.pinned (OpenSpec.ofChange huffKeepsSpec)

/-- ITS FALSE NEIGHBOUR: 'it returns false'. Refute it at one input. -/
def huffKeepsWrong : ChangeSpec := { name := "huffKeeps", fn := fun _ => fun
  | [d1, d2] => { results := [.lit (.bool false)], args := [d1, d2] }
  | _ => none }
def HuffKeepsWrongFalsely : Prop := huffKeepsRow.holds Try.pinned (OpenSpec.ofChange huffKeepsWrong)

/- THE SECOND FORM. 'bulk': how many values and letters a reading holds, each counted each time it is reached (what is shared counts as often as it is met; a slice's spare places count too). A statement '..UptoSaid' is the law's where the arguments, and the package variables that the reading takes, are together of bulk at most 1048576: NARROWER than '..Said'. Prove '..Said' where nothing that the law and all that it calls make is longer than what came in: it says more and counts as full. Else prove '..UptoSaid'. A law counts once. -/
mutual
def uptoBulk {H : Type} : DataW H → Nat
  | .lit (.string bytes) => bytes.length + 1
  | .lit _ => 1
  | .nil => 1
  | .ptr d => uptoBulk d + 1
  | .slice elems spare => uptoBulkAll elems + uptoBulkAll spare + 1
  | .agg parts => uptoBulkAll parts + 1
  | .iface _ d => uptoBulk d + 1
  | .map entries => uptoBulkEntries entries + 1
  | .held _ => 1
def uptoBulkAll {H : Type} : List (DataW H) → Nat
  | [] => 0
  | d :: r => uptoBulk d + uptoBulkAll r
def uptoBulkEntries {H : Type} : List (Lit × DataW H) → Nat
  | [] => 0
  | x :: r => uptoBulkEntry x + uptoBulkEntries r
def uptoBulkEntry {H : Type} : Lit × DataW H → Nat
  | (.string bytes, d) => bytes.length + uptoBulk d + 1
  | (_, d) => uptoBulk d + 1
 end
def uptoSmall : (H : Type) → List (DataW H) → Bool := fun _ ds => decide (uptoBulkAll ds ≤ 1048576)
def OpenSpec.upto (s : _root_.Go.ChangeSpec) : _root_.Go.OpenSpec := { _root_.Go.OpenSpec.ofChange s with cond := some uptoSmall }

/-- 'wainloadlaw04.HuffMakes', WHERE WHAT IT READS IS OF BULK AT MOST 1048576: true; the input reads as it did. -/
def huffMakesUptoRow : OpenClaim := { program := "ytoeebdjmedkldaa", sum := "c048b539104877a916a7be9fd45c9e180becd1bf712deaa3c6188964903d1bab", func := "wainload/wainloadlaw04.HuffMakes", spec := "huffMakes", unfollowed := true, recurses := true, apart := false, narrowed := true }
def HuffMakesUptoSaid : Prop := huffMakesUptoRow.holds Try.pinned (OpenSpec.upto huffMakesSpec)

/-- 'wainloadlaw04.HuffCodes', WHERE WHAT IT READS IS OF BULK AT MOST 1048576: true; the input reads as it did. -/
def huffCodesUptoRow : OpenClaim := { program := "ytoeebdjmedkldaa", sum := "c048b539104877a916a7be9fd45c9e180becd1bf712deaa3c6188964903d1bab", func := "wainload/wainloadlaw04.HuffCodes", spec := "huffCodes", unfollowed := true, recurses := true, apart := false, narrowed := true }
def HuffCodesUptoSaid : Prop := huffCodesUptoRow.holds Try.pinned (OpenSpec.upto huffCodesSpec)

/-- 'wainloadlaw04.HuffReads', WHERE WHAT IT READS IS OF BULK AT MOST 1048576: true; the input reads as it did. -/
def huffReadsUptoRow : OpenClaim := { program := "ytoeebdjmedkldaa", sum := "c048b539104877a916a7be9fd45c9e180becd1bf712deaa3c6188964903d1bab", func := "wainload/wainloadlaw04.HuffReads", spec := "huffReads", unfollowed := true, recurses := true, apart := false, narrowed := true }
def HuffReadsUptoSaid : Prop := huffReadsUptoRow.holds Try.pinned (OpenSpec.upto huffReadsSpec)

/-- 'wainloadlaw04.HuffBack', WHERE WHAT IT READS IS OF BULK AT MOST 1048576: true; the input reads as it did. -/
def huffBackUptoRow : OpenClaim := { program := "ytoeebdjmedkldaa", sum := "c048b539104877a916a7be9fd45c9e180becd1bf712deaa3c6188964903d1bab", func := "wainload/wainloadlaw04.HuffBack", spec := "huffBack", unfollowed := true, recurses := true, apart := false, narrowed := true }
def HuffBackUptoSaid : Prop := huffBackUptoRow.holds Try.pinned (OpenSpec.upto huffBackSpec)

/-- 'wainloadlaw04.HuffFull', WHERE WHAT IT READS IS OF BULK AT MOST 1048576: true; the input reads as it did. -/
def huffFullUptoRow : OpenClaim := { program := "ytoeebdjmedkldaa", sum := "c048b539104877a916a7be9fd45c9e180becd1bf712deaa3c6188964903d1bab", func := "wainload/wainloadlaw04.HuffFull", spec := "huffFull", unfollowed := true, recurses := true, apart := false, narrowed := true }
def HuffFullUptoSaid : Prop := huffFullUptoRow.holds Try.pinned (OpenSpec.upto huffFullSpec)

/-- 'wainloadlaw04.HuffKeeps', WHERE WHAT IT READS IS OF BULK AT MOST 1048576: true; the input reads as it did. -/
def huffKeepsUptoRow : OpenClaim := { program := "ytoeebdjmedkldaa", sum := "c048b539104877a916a7be9fd45c9e180becd1bf712deaa3c6188964903d1bab", func := "wainload/wainloadlaw04.HuffKeeps", spec := "huffKeeps", unfollowed := true, recurses := true, apart := false, narrowed := true }
def HuffKeepsUptoSaid : Prop := huffKeepsUptoRow.holds Try.pinned (OpenSpec.upto huffKeepsSpec)

end Rows
end Go.Proofs.Ytoeebdjmedkldaa
