/-
  No cell of these rows narrows 'for every input' (looked for: loops, veiled, ifaces, maps, wideKeys, modest, calm, conditions, laid).
  DERIVED. THE GIVEN ROWS OF THIS SEAT. 6 by the template 'for every input the law returns true; each argument reads behind the call as it read before'; 0 by the template 'total and deterministic' (their statements: YtdeigchkpakdaaaTotals.lean).
  GIVEN WITH THE SEED: the statements are not yours to turn. If you find one false, say at which input.
  Laid BY PROGRAM, IN A SANDBOX (cutbox-rows.mjs): the forced cells as the released guide's own fill.sh prints them over the translation 6af10ae71f5a9d10… (all of the seat's roots in one cut). By AI agents, Wed Nov 11 2026. No macro, syntax, notation, axiom, sorry.
-/
import Derived.Test.YtdeigchkpakdaaaChecked
import GoSem.Claim
import GoSem.ClaimJoined
import GoSem.ClaimMapViews
import Derived.JoinedTies
import Derived.KernelRfl
namespace Go.Proofs.Ytdeigchkpakdaaa
/- THE CELL 'sum', in the pinned program and in every row, IS THE sha256 OF THE DUMP (.gsa) THAT YtdeigchkpakdaaaProg.lean LOADS. Nothing in Lean hashes anything: it is a label: what it is worth is what the hold of that sum in a sandbox is worth. -/
noncomputable def Try.pinned : Pinned := { name := "ytdeigchkpakdaaa", sum := "6af10ae71f5a9d107cc9d43c995d853bef77a9123b75769e77b09997d23249a3", checked := Try.checked }
namespace Rows
def none {H : Type} : Left H := { results := [], args := [] }

/-- 'wainloadlaw05.LimitFinds': WHATEVER THE INPUT: true; the input reads as it did. -/
def limitFindsSpec : ChangeSpec := { name := "limitFinds", fn := fun _ => fun
  | [d1, d2] => { results := [.lit (.bool true)], args := [d1, d2] }
  | _ => none }
def limitFindsRow : OpenClaim := { program := "ytdeigchkpakdaaa", sum := "6af10ae71f5a9d107cc9d43c995d853bef77a9123b75769e77b09997d23249a3", func := "wainload/wainloadlaw05.LimitFinds", spec := "limitFinds", unfollowed := true, recurses := true, apart := false }
def LimitFindsSaid : Prop := limitFindsRow.holds Try.pinned (OpenSpec.ofChange limitFindsSpec)

/-- ITS FALSE NEIGHBOUR: 'it returns false'. Refute it at one input. -/
def limitFindsWrong : ChangeSpec := { name := "limitFinds", fn := fun _ => fun
  | [d1, d2] => { results := [.lit (.bool false)], args := [d1, d2] }
  | _ => none }
def LimitFindsWrongFalsely : Prop := limitFindsRow.holds Try.pinned (OpenSpec.ofChange limitFindsWrong)

/-- 'wainloadlaw05.LimitBest': WHATEVER THE INPUT: true; the input reads as it did. -/
def limitBestSpec : ChangeSpec := { name := "limitBest", fn := fun _ => fun
  | [d1, d2] => { results := [.lit (.bool true)], args := [d1, d2] }
  | _ => none }
def limitBestRow : OpenClaim := { program := "ytdeigchkpakdaaa", sum := "6af10ae71f5a9d107cc9d43c995d853bef77a9123b75769e77b09997d23249a3", func := "wainload/wainloadlaw05.LimitBest", spec := "limitBest", unfollowed := true, recurses := true, apart := false }
def LimitBestSaid : Prop := limitBestRow.holds Try.pinned (OpenSpec.ofChange limitBestSpec)

/-- ITS FALSE NEIGHBOUR: 'it returns false'. Refute it at one input. -/
def limitBestWrong : ChangeSpec := { name := "limitBest", fn := fun _ => fun
  | [d1, d2] => { results := [.lit (.bool false)], args := [d1, d2] }
  | _ => none }
def LimitBestWrongFalsely : Prop := limitBestRow.holds Try.pinned (OpenSpec.ofChange limitBestWrong)

/-- 'wainloadlaw05.LimitBelow': WHATEVER THE INPUT: true; the input reads as it did. -/
def limitBelowSpec : ChangeSpec := { name := "limitBelow", fn := fun _ => fun
  | [d1, d2, d3] => { results := [.lit (.bool true)], args := [d1, d2, d3] }
  | _ => none }
def limitBelowRow : OpenClaim := { program := "ytdeigchkpakdaaa", sum := "6af10ae71f5a9d107cc9d43c995d853bef77a9123b75769e77b09997d23249a3", func := "wainload/wainloadlaw05.LimitBelow", spec := "limitBelow", unfollowed := true, recurses := true, apart := false }
def LimitBelowSaid : Prop := limitBelowRow.holds Try.pinned (OpenSpec.ofChange limitBelowSpec)

/-- ITS FALSE NEIGHBOUR: 'it returns false'. Refute it at one input. -/
def limitBelowWrong : ChangeSpec := { name := "limitBelow", fn := fun _ => fun
  | [d1, d2, d3] => { results := [.lit (.bool false)], args := [d1, d2, d3] }
  | _ => none }
def LimitBelowWrongFalsely : Prop := limitBelowRow.holds Try.pinned (OpenSpec.ofChange limitBelowWrong)

/-- 'wainloadlaw05.LimitRarer': WHATEVER THE INPUT: true; the input reads as it did. -/
def limitRarerSpec : ChangeSpec := { name := "limitRarer", fn := fun _ => fun
  | [d1, d2] => { results := [.lit (.bool true)], args := [d1, d2] }
  | _ => none }
def limitRarerRow : OpenClaim := { program := "ytdeigchkpakdaaa", sum := "6af10ae71f5a9d107cc9d43c995d853bef77a9123b75769e77b09997d23249a3", func := "wainload/wainloadlaw05.LimitRarer", spec := "limitRarer", unfollowed := true, recurses := true, apart := false }
def LimitRarerSaid : Prop := limitRarerRow.holds Try.pinned (OpenSpec.ofChange limitRarerSpec)

/-- ITS FALSE NEIGHBOUR: 'it returns false'. Refute it at one input. -/
def limitRarerWrong : ChangeSpec := { name := "limitRarer", fn := fun _ => fun
  | [d1, d2] => { results := [.lit (.bool false)], args := [d1, d2] }
  | _ => none }
def LimitRarerWrongFalsely : Prop := limitRarerRow.holds Try.pinned (OpenSpec.ofChange limitRarerWrong)

/-- 'wainloadlaw05.LimitCosts': WHATEVER THE INPUT: true; the input reads as it did. -/
def limitCostsSpec : ChangeSpec := { name := "limitCosts", fn := fun _ => fun
  | [d1, d2] => { results := [.lit (.bool true)], args := [d1, d2] }
  | _ => none }
def limitCostsRow : OpenClaim := { program := "ytdeigchkpakdaaa", sum := "6af10ae71f5a9d107cc9d43c995d853bef77a9123b75769e77b09997d23249a3", func := "wainload/wainloadlaw05.LimitCosts", spec := "limitCosts", unfollowed := true, recurses := true, apart := false }
def LimitCostsSaid : Prop := limitCostsRow.holds Try.pinned (OpenSpec.ofChange limitCostsSpec)

/-- ITS FALSE NEIGHBOUR: 'it returns false'. Refute it at one input. -/
def limitCostsWrong : ChangeSpec := { name := "limitCosts", fn := fun _ => fun
  | [d1, d2] => { results := [.lit (.bool false)], args := [d1, d2] }
  | _ => none }
def LimitCostsWrongFalsely : Prop := limitCostsRow.holds Try.pinned (OpenSpec.ofChange limitCostsWrong)

/-- 'wainloadlaw05.LimitWider': WHATEVER THE INPUT: true; the input reads as it did. -/
def limitWiderSpec : ChangeSpec := { name := "limitWider", fn := fun _ => fun
  | [d1, d2, d3] => { results := [.lit (.bool true)], args := [d1, d2, d3] }
  | _ => none }
def limitWiderRow : OpenClaim := { program := "ytdeigchkpakdaaa", sum := "6af10ae71f5a9d107cc9d43c995d853bef77a9123b75769e77b09997d23249a3", func := "wainload/wainloadlaw05.LimitWider", spec := "limitWider", unfollowed := true, recurses := true, apart := false }
def LimitWiderSaid : Prop := limitWiderRow.holds Try.pinned (OpenSpec.ofChange limitWiderSpec)

/-- ITS FALSE NEIGHBOUR: 'it returns false'. Refute it at one input. -/
def limitWiderWrong : ChangeSpec := { name := "limitWider", fn := fun _ => fun
  | [d1, d2, d3] => { results := [.lit (.bool false)], args := [d1, d2, d3] }
  | _ => none }
def LimitWiderWrongFalsely : Prop := limitWiderRow.holds Try.pinned (OpenSpec.ofChange limitWiderWrong)

/- THE SECOND FORM. 'bulk': how many values and letters a reading holds, each counted each time it is reached (what is shared counts as often as it is met; a slice's spare places count too). A statement '..UptoSaid' is the law's where the arguments, and the package variables that the reading takes, are together of bulk at most 1048576: NARROWER than '..Said'. Prove '..Said' where nothing that the law and all that it calls make is longer than what came in: it says more and counts as full. Else prove '..UptoSaid'. A law counts once. -/
mutual
def uptoBulk {H : Type} : DataW H → Nat
  | .lit (.string bytes) => bytes.length + 1
  | .lit _ => 1
  | .nil => 1
  | .ptr d => uptoBulk d + 1
  | .slice elems spare => uptoBulkAll elems + uptoBulkAll spare + 1
  | .agg parts => uptoBulkAll parts + 1
  | .iface _ d => uptoBulk d + 1
  | .map entries => uptoBulkEntries entries + 1
  | .held _ => 1
def uptoBulkAll {H : Type} : List (DataW H) → Nat
  | [] => 0
  | d :: r => uptoBulk d + uptoBulkAll r
def uptoBulkEntries {H : Type} : List (Lit × DataW H) → Nat
  | [] => 0
  | x :: r => uptoBulkEntry x + uptoBulkEntries r
def uptoBulkEntry {H : Type} : Lit × DataW H → Nat
  | (.string bytes, d) => bytes.length + uptoBulk d + 1
  | (_, d) => uptoBulk d + 1
 end
def uptoSmall : (H : Type) → List (DataW H) → Bool := fun _ ds => decide (uptoBulkAll ds ≤ 1048576)
def OpenSpec.upto (s : _root_.Go.ChangeSpec) : _root_.Go.OpenSpec := { _root_.Go.OpenSpec.ofChange s with cond := some uptoSmall }

/-- 'wainloadlaw05.LimitFinds', WHERE WHAT IT READS IS OF BULK AT MOST 1048576: true; the input reads as it did. -/
def limitFindsUptoRow : OpenClaim := { program := "ytdeigchkpakdaaa", sum := "6af10ae71f5a9d107cc9d43c995d853bef77a9123b75769e77b09997d23249a3", func := "wainload/wainloadlaw05.LimitFinds", spec := "limitFinds", unfollowed := true, recurses := true, apart := false, narrowed := true }
def LimitFindsUptoSaid : Prop := limitFindsUptoRow.holds Try.pinned (OpenSpec.upto limitFindsSpec)

/-- 'wainloadlaw05.LimitBest', WHERE WHAT IT READS IS OF BULK AT MOST 1048576: true; the input reads as it did. -/
def limitBestUptoRow : OpenClaim := { program := "ytdeigchkpakdaaa", sum := "6af10ae71f5a9d107cc9d43c995d853bef77a9123b75769e77b09997d23249a3", func := "wainload/wainloadlaw05.LimitBest", spec := "limitBest", unfollowed := true, recurses := true, apart := false, narrowed := true }
def LimitBestUptoSaid : Prop := limitBestUptoRow.holds Try.pinned (OpenSpec.upto limitBestSpec)

/-- 'wainloadlaw05.LimitBelow', WHERE WHAT IT READS IS OF BULK AT MOST 1048576: true; the input reads as it did. -/
def limitBelowUptoRow : OpenClaim := { program := "ytdeigchkpakdaaa", sum := "6af10ae71f5a9d107cc9d43c995d853bef77a9123b75769e77b09997d23249a3", func := "wainload/wainloadlaw05.LimitBelow", spec := "limitBelow", unfollowed := true, recurses := true, apart := false, narrowed := true }
def LimitBelowUptoSaid : Prop := limitBelowUptoRow.holds Try.pinned (OpenSpec.upto limitBelowSpec)

/-- 'wainloadlaw05.LimitRarer', WHERE WHAT IT READS IS OF BULK AT MOST 1048576: true; the input reads as it did. -/
def limitRarerUptoRow : OpenClaim := { program := "ytdeigchkpakdaaa", sum := "6af10ae71f5a9d107cc9d43c995d853bef77a9123b75769e77b09997d23249a3", func := "wainload/wainloadlaw05.LimitRarer", spec := "limitRarer", unfollowed := true, recurses := true, apart := false, narrowed := true }
def LimitRarerUptoSaid : Prop := limitRarerUptoRow.holds Try.pinned (OpenSpec.upto limitRarerSpec)

/-- 'wainloadlaw05.LimitCosts', WHERE WHAT IT READS IS OF BULK AT MOST 1048576: true; the input reads as it did. -/
def limitCostsUptoRow : OpenClaim := { program := "ytdeigchkpakdaaa", sum := "6af10ae71f5a9d107cc9d43c995d853bef77a9123b75769e77b09997d23249a3", func := "wainload/wainloadlaw05.LimitCosts", spec := "limitCosts", unfollowed := true, recurses := true, apart := false, narrowed := true }
def LimitCostsUptoSaid : Prop := limitCostsUptoRow.holds Try.pinned (OpenSpec.upto limitCostsSpec)

/-- 'wainloadlaw05.LimitWider', WHERE WHAT IT READS IS OF BULK AT MOST 1048576: true; the input reads as it did. -/
def limitWiderUptoRow : OpenClaim := { program := "ytdeigchkpakdaaa", sum := "6af10ae71f5a9d107cc9d43c995d853bef77a9123b75769e77b09997d23249a3", func := "wainload/wainloadlaw05.LimitWider", spec := "limitWider", unfollowed := true, recurses := true, apart := false, narrowed := true }
def LimitWiderUptoSaid : Prop := limitWiderUptoRow.holds Try.pinned (OpenSpec.upto limitWiderSpec)

end Rows
end Go.Proofs.Ytdeigchkpakdaaa
