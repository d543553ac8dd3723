/-
  No cell of these rows narrows 'for every input' (looked for: loops, veiled, ifaces, maps, wideKeys, modest, calm, conditions, laid).
  DERIVED. THE GIVEN ROWS OF THIS SEAT. 5 by the template 'for every input the law returns true; each argument reads behind the call as it read before'; 0 by the template 'total and deterministic' (their statements: YtddhegohecajcaaTotals.lean).
  GIVEN WITH THE SEED: the statements are not yours to turn. If you find one false, say at which input.
  Laid BY PROGRAM, IN A SANDBOX (cutbox-rows.mjs): the forced cells as the released guide's own fill.sh prints them over the translation 4f2064eab0a1e9a1… (all of the seat's roots in one cut). By AI agents, Wed Nov 11 2026. No macro, syntax, notation, axiom, sorry.
-/
import Derived.Test.YtddhegohecajcaaChecked
import GoSem.Claim
import GoSem.ClaimJoined
import GoSem.ClaimMapViews
import Derived.JoinedTies
import Derived.KernelRfl
namespace Go.Proofs.Ytddhegohecajcaa
/- THE CELL 'sum', in the pinned program and in every row, IS THE sha256 OF THE DUMP (.gsa) THAT YtddhegohecajcaaProg.lean LOADS. Nothing in Lean hashes anything: it is a label: what it is worth is what the hold of that sum in a sandbox is worth. -/
noncomputable def Try.pinned : Pinned := { name := "ytddhegohecajcaa", sum := "4f2064eab0a1e9a1e85b7e53bf2724c0338abcfbfb03eabd599309b765cc8ffe", checked := Try.checked }
namespace Rows
def none {H : Type} : Left H := { results := [], args := [] }

/-- 'wainloadlaw02.CheckTables': WHATEVER THE INPUT: true; the input reads as it did. -/
def checkTablesSpec : ChangeSpec := { name := "checkTables", fn := fun _ => fun
  | [d] => { results := [.lit (.bool true)], args := [d] }
  | _ => none }
def checkTablesRow : OpenClaim := { program := "ytddhegohecajcaa", sum := "4f2064eab0a1e9a1e85b7e53bf2724c0338abcfbfb03eabd599309b765cc8ffe", func := "wainload/wainloadlaw02.CheckTables", spec := "checkTables", apart := false }
def CheckTablesSaid : Prop := checkTablesRow.holds Try.pinned (OpenSpec.ofChange checkTablesSpec)

/-- ITS FALSE NEIGHBOUR: 'it returns false'. Refute it at one input. -/
def checkTablesWrong : ChangeSpec := { name := "checkTables", fn := fun _ => fun
  | [d] => { results := [.lit (.bool false)], args := [d] }
  | _ => none }
def CheckTablesWrongFalsely : Prop := checkTablesRow.holds Try.pinned (OpenSpec.ofChange checkTablesWrong)

/-- 'wainloadlaw02.CheckSums': WHATEVER THE INPUT: true; the input reads as it did. -/
def checkSumsSpec : ChangeSpec := { name := "checkSums", fn := fun _ => fun
  | [d] => { results := [.lit (.bool true)], args := [d] }
  | _ => none }
def checkSumsRow : OpenClaim := { program := "ytddhegohecajcaa", sum := "4f2064eab0a1e9a1e85b7e53bf2724c0338abcfbfb03eabd599309b765cc8ffe", func := "wainload/wainloadlaw02.CheckSums", spec := "checkSums", apart := false }
def CheckSumsSaid : Prop := checkSumsRow.holds Try.pinned (OpenSpec.ofChange checkSumsSpec)

/-- ITS FALSE NEIGHBOUR: 'it returns false'. Refute it at one input. -/
def checkSumsWrong : ChangeSpec := { name := "checkSums", fn := fun _ => fun
  | [d] => { results := [.lit (.bool false)], args := [d] }
  | _ => none }
def CheckSumsWrongFalsely : Prop := checkSumsRow.holds Try.pinned (OpenSpec.ofChange checkSumsWrong)

/-- 'wainloadlaw02.CheckMores': WHATEVER THE INPUT: true; the input reads as it did. -/
def checkMoresSpec : ChangeSpec := { name := "checkMores", fn := fun _ => fun
  | [d1, d2] => { results := [.lit (.bool true)], args := [d1, d2] }
  | _ => none }
def checkMoresRow : OpenClaim := { program := "ytddhegohecajcaa", sum := "4f2064eab0a1e9a1e85b7e53bf2724c0338abcfbfb03eabd599309b765cc8ffe", func := "wainload/wainloadlaw02.CheckMores", spec := "checkMores", apart := false }
def CheckMoresSaid : Prop := checkMoresRow.holds Try.pinned (OpenSpec.ofChange checkMoresSpec)

/-- ITS FALSE NEIGHBOUR: 'it returns false'. Refute it at one input. -/
def checkMoresWrong : ChangeSpec := { name := "checkMores", fn := fun _ => fun
  | [d1, d2] => { results := [.lit (.bool false)], args := [d1, d2] }
  | _ => none }
def CheckMoresWrongFalsely : Prop := checkMoresRow.holds Try.pinned (OpenSpec.ofChange checkMoresWrong)

/-- 'wainloadlaw02.CheckBursts': WHATEVER THE INPUT: true; the input reads as it did. -/
def checkBurstsSpec : ChangeSpec := { name := "checkBursts", fn := fun _ => fun
  | [d1, d2, d3] => { results := [.lit (.bool true)], args := [d1, d2, d3] }
  | _ => none }
def checkBurstsRow : OpenClaim := { program := "ytddhegohecajcaa", sum := "4f2064eab0a1e9a1e85b7e53bf2724c0338abcfbfb03eabd599309b765cc8ffe", func := "wainload/wainloadlaw02.CheckBursts", spec := "checkBursts", apart := false }
def CheckBurstsSaid : Prop := checkBurstsRow.holds Try.pinned (OpenSpec.ofChange checkBurstsSpec)

/-- ITS FALSE NEIGHBOUR: 'it returns false'. Refute it at one input. -/
def checkBurstsWrong : ChangeSpec := { name := "checkBursts", fn := fun _ => fun
  | [d1, d2, d3] => { results := [.lit (.bool false)], args := [d1, d2, d3] }
  | _ => none }
def CheckBurstsWrongFalsely : Prop := checkBurstsRow.holds Try.pinned (OpenSpec.ofChange checkBurstsWrong)

/-- 'wainloadlaw02.CheckXors': WHATEVER THE INPUT: true; the input reads as it did. -/
def checkXorsSpec : ChangeSpec := { name := "checkXors", fn := fun _ => fun
  | [d1, d2, d3] => { results := [.lit (.bool true)], args := [d1, d2, d3] }
  | _ => none }
def checkXorsRow : OpenClaim := { program := "ytddhegohecajcaa", sum := "4f2064eab0a1e9a1e85b7e53bf2724c0338abcfbfb03eabd599309b765cc8ffe", func := "wainload/wainloadlaw02.CheckXors", spec := "checkXors", apart := false }
def CheckXorsSaid : Prop := checkXorsRow.holds Try.pinned (OpenSpec.ofChange checkXorsSpec)

/-- ITS FALSE NEIGHBOUR: 'it returns false'. Refute it at one input. -/
def checkXorsWrong : ChangeSpec := { name := "checkXors", fn := fun _ => fun
  | [d1, d2, d3] => { results := [.lit (.bool false)], args := [d1, d2, d3] }
  | _ => none }
def CheckXorsWrongFalsely : Prop := checkXorsRow.holds Try.pinned (OpenSpec.ofChange checkXorsWrong)

/- THE SECOND FORM. 'bulk': how many values and letters a reading holds, each counted each time it is reached (what is shared counts as often as it is met; a slice's spare places count too). A statement '..UptoSaid' is the law's where the arguments, and the package variables that the reading takes, are together of bulk at most 1048576: NARROWER than '..Said'. Prove '..Said' where nothing that the law and all that it calls make is longer than what came in: it says more and counts as full. Else prove '..UptoSaid'. A law counts once. -/
mutual
def uptoBulk {H : Type} : DataW H → Nat
  | .lit (.string bytes) => bytes.length + 1
  | .lit _ => 1
  | .nil => 1
  | .ptr d => uptoBulk d + 1
  | .slice elems spare => uptoBulkAll elems + uptoBulkAll spare + 1
  | .agg parts => uptoBulkAll parts + 1
  | .iface _ d => uptoBulk d + 1
  | .map entries => uptoBulkEntries entries + 1
  | .held _ => 1
def uptoBulkAll {H : Type} : List (DataW H) → Nat
  | [] => 0
  | d :: r => uptoBulk d + uptoBulkAll r
def uptoBulkEntries {H : Type} : List (Lit × DataW H) → Nat
  | [] => 0
  | x :: r => uptoBulkEntry x + uptoBulkEntries r
def uptoBulkEntry {H : Type} : Lit × DataW H → Nat
  | (.string bytes, d) => bytes.length + uptoBulk d + 1
  | (_, d) => uptoBulk d + 1
 end
def uptoSmall : (H : Type) → List (DataW H) → Bool := fun _ ds => decide (uptoBulkAll ds ≤ 1048576)
def OpenSpec.upto (s : _root_.Go.ChangeSpec) : _root_.Go.OpenSpec := { _root_.Go.OpenSpec.ofChange s with cond := some uptoSmall }

/-- 'wainloadlaw02.CheckTables', WHERE WHAT IT READS IS OF BULK AT MOST 1048576: true; the input reads as it did. -/
def checkTablesUptoRow : OpenClaim := { program := "ytddhegohecajcaa", sum := "4f2064eab0a1e9a1e85b7e53bf2724c0338abcfbfb03eabd599309b765cc8ffe", func := "wainload/wainloadlaw02.CheckTables", spec := "checkTables", apart := false, narrowed := true }
def CheckTablesUptoSaid : Prop := checkTablesUptoRow.holds Try.pinned (OpenSpec.upto checkTablesSpec)

/-- 'wainloadlaw02.CheckSums', WHERE WHAT IT READS IS OF BULK AT MOST 1048576: true; the input reads as it did. -/
def checkSumsUptoRow : OpenClaim := { program := "ytddhegohecajcaa", sum := "4f2064eab0a1e9a1e85b7e53bf2724c0338abcfbfb03eabd599309b765cc8ffe", func := "wainload/wainloadlaw02.CheckSums", spec := "checkSums", apart := false, narrowed := true }
def CheckSumsUptoSaid : Prop := checkSumsUptoRow.holds Try.pinned (OpenSpec.upto checkSumsSpec)

/-- 'wainloadlaw02.CheckMores', WHERE WHAT IT READS IS OF BULK AT MOST 1048576: true; the input reads as it did. -/
def checkMoresUptoRow : OpenClaim := { program := "ytddhegohecajcaa", sum := "4f2064eab0a1e9a1e85b7e53bf2724c0338abcfbfb03eabd599309b765cc8ffe", func := "wainload/wainloadlaw02.CheckMores", spec := "checkMores", apart := false, narrowed := true }
def CheckMoresUptoSaid : Prop := checkMoresUptoRow.holds Try.pinned (OpenSpec.upto checkMoresSpec)

/-- 'wainloadlaw02.CheckBursts', WHERE WHAT IT READS IS OF BULK AT MOST 1048576: true; the input reads as it did. -/
def checkBurstsUptoRow : OpenClaim := { program := "ytddhegohecajcaa", sum := "4f2064eab0a1e9a1e85b7e53bf2724c0338abcfbfb03eabd599309b765cc8ffe", func := "wainload/wainloadlaw02.CheckBursts", spec := "checkBursts", apart := false, narrowed := true }
def CheckBurstsUptoSaid : Prop := checkBurstsUptoRow.holds Try.pinned (OpenSpec.upto checkBurstsSpec)

/-- 'wainloadlaw02.CheckXors', WHERE WHAT IT READS IS OF BULK AT MOST 1048576: true; the input reads as it did. -/
def checkXorsUptoRow : OpenClaim := { program := "ytddhegohecajcaa", sum := "4f2064eab0a1e9a1e85b7e53bf2724c0338abcfbfb03eabd599309b765cc8ffe", func := "wainload/wainloadlaw02.CheckXors", spec := "checkXors", apart := false, narrowed := true }
def CheckXorsUptoSaid : Prop := checkXorsUptoRow.holds Try.pinned (OpenSpec.upto checkXorsSpec)

end Rows
end Go.Proofs.Ytddhegohecajcaa
