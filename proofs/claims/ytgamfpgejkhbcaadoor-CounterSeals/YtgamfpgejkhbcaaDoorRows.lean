/-
  NARROWER THAN 'FOR EVERY INPUT', by the rows' own cells (each row's printed sentence says how): CounterStreams: laid · CounterSeals: laid · CounterOpens: laid · CounterBack: laid · CounterTwice: laid · CounterTags: laid.
  DERIVED. THE GIVEN ROWS OF THIS SEAT. 6 by the template 'for every input the law returns true; each argument reads behind the call as it read before'; 0 by the template 'total and deterministic' (their statements: YtgamfpgejkhbcaaDoorTotals.lean).
  GIVEN WITH THE SEED: the statements are not yours to turn. If you find one false, say at which input.
  Laid BY PROGRAM, IN A SANDBOX (cutbox-rows.mjs): the forced cells as the released guide's own fill.sh prints them over the translation 94747e6793cfe659… (all of the seat's roots in one cut). By AI agents, Wed Nov 11 2026. No macro, syntax, notation, axiom, sorry.
-/
import Derived.Test.YtgamfpgejkhbcaaDoorChecked
import GoSem.Claim
import GoSem.ClaimJoined
import GoSem.ClaimMapViews
import Derived.JoinedTies
import Derived.KernelRfl
namespace Go.Proofs.YtgamfpgejkhbcaaDoor
/- THE CELL 'sum', in the pinned program and in every row, IS THE sha256 OF THE DUMP (.gsa) THAT YtgamfpgejkhbcaaDoorProg.lean LOADS. Nothing in Lean hashes anything: it is a label: what it is worth is what the hold of that sum in a sandbox is worth. -/
noncomputable def Tryd.pinned : Pinned := { name := "ytgamfpgejkhbcaadoor", sum := "94747e6793cfe65932552d24f62d63c0940ab5d9b04851ef76e368708fb08ad2", checked := Tryd.checked }
namespace Rows
def none {H : Type} : Left H := { results := [], args := [] }

/- WHAT THE LISTED PACKAGE-LEVEL VARIABLES READ AS WHEN THE CALL BEGINS. Each datum BY PROGRAM (the guide's laid-datum.mjs) off the statement by which the dump's own 'gosem.cut.vars' lays the variable. In a bare row this is a premise. The card (YtgamfpgejkhbcaaDoorCards.lean) ties it to the program's text. -/
def laid_wainload_cipher_lowBox {H : Type} : DataW H := .agg [.lit (.int .u8 99), .lit (.int .u8 124), .lit (.int .u8 119), .lit (.int .u8 123), .lit (.int .u8 242), .lit (.int .u8 107), .lit (.int .u8 111), .lit (.int .u8 197), .lit (.int .u8 48), .lit (.int .u8 1), .lit (.int .u8 103), .lit (.int .u8 43), .lit (.int .u8 254), .lit (.int .u8 215), .lit (.int .u8 171), .lit (.int .u8 118), .lit (.int .u8 202), .lit (.int .u8 130), .lit (.int .u8 201), .lit (.int .u8 125), .lit (.int .u8 250), .lit (.int .u8 89), .lit (.int .u8 71), .lit (.int .u8 240), .lit (.int .u8 173), .lit (.int .u8 212), .lit (.int .u8 162), .lit (.int .u8 175), .lit (.int .u8 156), .lit (.int .u8 164), .lit (.int .u8 114), .lit (.int .u8 192), .lit (.int .u8 183), .lit (.int .u8 253), .lit (.int .u8 147), .lit (.int .u8 38), .lit (.int .u8 54), .lit (.int .u8 63), .lit (.int .u8 247), .lit (.int .u8 204), .lit (.int .u8 52), .lit (.int .u8 165), .lit (.int .u8 229), .lit (.int .u8 241), .lit (.int .u8 113), .lit (.int .u8 216), .lit (.int .u8 49), .lit (.int .u8 21), .lit (.int .u8 4), .lit (.int .u8 199), .lit (.int .u8 35), .lit (.int .u8 195), .lit (.int .u8 24), .lit (.int .u8 150), .lit (.int .u8 5), .lit (.int .u8 154), .lit (.int .u8 7), .lit (.int .u8 18), .lit (.int .u8 128), .lit (.int .u8 226), .lit (.int .u8 235), .lit (.int .u8 39), .lit (.int .u8 178), .lit (.int .u8 117), .lit (.int .u8 9), .lit (.int .u8 131), .lit (.int .u8 44), .lit (.int .u8 26), .lit (.int .u8 27), .lit (.int .u8 110), .lit (.int .u8 90), .lit (.int .u8 160), .lit (.int .u8 82), .lit (.int .u8 59), .lit (.int .u8 214), .lit (.int .u8 179), .lit (.int .u8 41), .lit (.int .u8 227), .lit (.int .u8 47), .lit (.int .u8 132), .lit (.int .u8 83), .lit (.int .u8 209), .lit (.int .u8 0), .lit (.int .u8 237), .lit (.int .u8 32), .lit (.int .u8 252), .lit (.int .u8 177), .lit (.int .u8 91), .lit (.int .u8 106), .lit (.int .u8 203), .lit (.int .u8 190), .lit (.int .u8 57), .lit (.int .u8 74), .lit (.int .u8 76), .lit (.int .u8 88), .lit (.int .u8 207), .lit (.int .u8 208), .lit (.int .u8 239), .lit (.int .u8 170), .lit (.int .u8 251), .lit (.int .u8 67), .lit (.int .u8 77), .lit (.int .u8 51), .lit (.int .u8 133), .lit (.int .u8 69), .lit (.int .u8 249), .lit (.int .u8 2), .lit (.int .u8 127), .lit (.int .u8 80), .lit (.int .u8 60), .lit (.int .u8 159), .lit (.int .u8 168), .lit (.int .u8 81), .lit (.int .u8 163), .lit (.int .u8 64), .lit (.int .u8 143), .lit (.int .u8 146), .lit (.int .u8 157), .lit (.int .u8 56), .lit (.int .u8 245), .lit (.int .u8 188), .lit (.int .u8 182), .lit (.int .u8 218), .lit (.int .u8 33), .lit (.int .u8 16), .lit (.int .u8 255), .lit (.int .u8 243), .lit (.int .u8 210)]
def laid_wainload_cipher_highBox {H : Type} : DataW H := .agg [.lit (.int .u8 205), .lit (.int .u8 12), .lit (.int .u8 19), .lit (.int .u8 236), .lit (.int .u8 95), .lit (.int .u8 151), .lit (.int .u8 68), .lit (.int .u8 23), .lit (.int .u8 196), .lit (.int .u8 167), .lit (.int .u8 126), .lit (.int .u8 61), .lit (.int .u8 100), .lit (.int .u8 93), .lit (.int .u8 25), .lit (.int .u8 115), .lit (.int .u8 96), .lit (.int .u8 129), .lit (.int .u8 79), .lit (.int .u8 220), .lit (.int .u8 34), .lit (.int .u8 42), .lit (.int .u8 144), .lit (.int .u8 136), .lit (.int .u8 70), .lit (.int .u8 238), .lit (.int .u8 184), .lit (.int .u8 20), .lit (.int .u8 222), .lit (.int .u8 94), .lit (.int .u8 11), .lit (.int .u8 219), .lit (.int .u8 224), .lit (.int .u8 50), .lit (.int .u8 58), .lit (.int .u8 10), .lit (.int .u8 73), .lit (.int .u8 6), .lit (.int .u8 36), .lit (.int .u8 92), .lit (.int .u8 194), .lit (.int .u8 211), .lit (.int .u8 172), .lit (.int .u8 98), .lit (.int .u8 145), .lit (.int .u8 149), .lit (.int .u8 228), .lit (.int .u8 121), .lit (.int .u8 231), .lit (.int .u8 200), .lit (.int .u8 55), .lit (.int .u8 109), .lit (.int .u8 141), .lit (.int .u8 213), .lit (.int .u8 78), .lit (.int .u8 169), .lit (.int .u8 108), .lit (.int .u8 86), .lit (.int .u8 244), .lit (.int .u8 234), .lit (.int .u8 101), .lit (.int .u8 122), .lit (.int .u8 174), .lit (.int .u8 8), .lit (.int .u8 186), .lit (.int .u8 120), .lit (.int .u8 37), .lit (.int .u8 46), .lit (.int .u8 28), .lit (.int .u8 166), .lit (.int .u8 180), .lit (.int .u8 198), .lit (.int .u8 232), .lit (.int .u8 221), .lit (.int .u8 116), .lit (.int .u8 31), .lit (.int .u8 75), .lit (.int .u8 189), .lit (.int .u8 139), .lit (.int .u8 138), .lit (.int .u8 112), .lit (.int .u8 62), .lit (.int .u8 181), .lit (.int .u8 102), .lit (.int .u8 72), .lit (.int .u8 3), .lit (.int .u8 246), .lit (.int .u8 14), .lit (.int .u8 97), .lit (.int .u8 53), .lit (.int .u8 87), .lit (.int .u8 185), .lit (.int .u8 134), .lit (.int .u8 193), .lit (.int .u8 29), .lit (.int .u8 158), .lit (.int .u8 225), .lit (.int .u8 248), .lit (.int .u8 152), .lit (.int .u8 17), .lit (.int .u8 105), .lit (.int .u8 217), .lit (.int .u8 142), .lit (.int .u8 148), .lit (.int .u8 155), .lit (.int .u8 30), .lit (.int .u8 135), .lit (.int .u8 233), .lit (.int .u8 206), .lit (.int .u8 85), .lit (.int .u8 40), .lit (.int .u8 223), .lit (.int .u8 140), .lit (.int .u8 161), .lit (.int .u8 137), .lit (.int .u8 13), .lit (.int .u8 191), .lit (.int .u8 230), .lit (.int .u8 66), .lit (.int .u8 104), .lit (.int .u8 65), .lit (.int .u8 153), .lit (.int .u8 45), .lit (.int .u8 15), .lit (.int .u8 176), .lit (.int .u8 84), .lit (.int .u8 187), .lit (.int .u8 22)]

/-- 'wainloadlaw13.CounterStreams': WHATEVER THE INPUT: true; the input reads as it did. -/
def counterStreamsSpec : ChangeSpec := { name := "counterStreams", fn := fun _ => fun
  | [d1, d2] => { results := [.lit (.bool true)], args := [d1, d2] }
  | _ => none }
def counterStreamsRow : OpenClaim := { program := "ytgamfpgejkhbcaadoor", sum := "94747e6793cfe65932552d24f62d63c0940ab5d9b04851ef76e368708fb08ad2", func := "wainload/wainloadlaw13.CounterStreams", spec := "counterStreams", unfollowed := true, recurses := true, named := ["wainload/cipher.lowBox", "wainload/cipher.highBox"], apart := false, laid := [("wainload/cipher.lowBox", laid_wainload_cipher_lowBox), ("wainload/cipher.highBox", laid_wainload_cipher_highBox)] }
def CounterStreamsSaid : Prop := counterStreamsRow.holds Tryd.pinned (OpenSpec.ofChange counterStreamsSpec)

/-- ITS FALSE NEIGHBOUR: 'it returns false'. Refute it at one input. -/
def counterStreamsWrong : ChangeSpec := { name := "counterStreams", fn := fun _ => fun
  | [d1, d2] => { results := [.lit (.bool false)], args := [d1, d2] }
  | _ => none }
def CounterStreamsWrongFalsely : Prop := counterStreamsRow.holds Tryd.pinned (OpenSpec.ofChange counterStreamsWrong)

/-- 'wainloadlaw13.CounterSeals': WHATEVER THE INPUT: true; the input reads as it did. -/
def counterSealsSpec : ChangeSpec := { name := "counterSeals", fn := fun _ => fun
  | [d] => { results := [.lit (.bool true)], args := [d] }
  | _ => none }
def counterSealsRow : OpenClaim := { program := "ytgamfpgejkhbcaadoor", sum := "94747e6793cfe65932552d24f62d63c0940ab5d9b04851ef76e368708fb08ad2", func := "wainload/wainloadlaw13.CounterSeals", spec := "counterSeals", unfollowed := true, recurses := true, named := ["wainload/cipher.lowBox", "wainload/cipher.highBox"], apart := false, laid := [("wainload/cipher.lowBox", laid_wainload_cipher_lowBox), ("wainload/cipher.highBox", laid_wainload_cipher_highBox)] }
def CounterSealsSaid : Prop := counterSealsRow.holds Tryd.pinned (OpenSpec.ofChange counterSealsSpec)

/-- ITS FALSE NEIGHBOUR: 'it returns false'. Refute it at one input. -/
def counterSealsWrong : ChangeSpec := { name := "counterSeals", fn := fun _ => fun
  | [d] => { results := [.lit (.bool false)], args := [d] }
  | _ => none }
def CounterSealsWrongFalsely : Prop := counterSealsRow.holds Tryd.pinned (OpenSpec.ofChange counterSealsWrong)

/-- 'wainloadlaw13.CounterOpens': WHATEVER THE INPUT: true; the input reads as it did. -/
def counterOpensSpec : ChangeSpec := { name := "counterOpens", fn := fun _ => fun
  | [d1, d2, d3] => { results := [.lit (.bool true)], args := [d1, d2, d3] }
  | _ => none }
def counterOpensRow : OpenClaim := { program := "ytgamfpgejkhbcaadoor", sum := "94747e6793cfe65932552d24f62d63c0940ab5d9b04851ef76e368708fb08ad2", func := "wainload/wainloadlaw13.CounterOpens", spec := "counterOpens", unfollowed := true, recurses := true, named := ["wainload/cipher.lowBox", "wainload/cipher.highBox"], apart := false, laid := [("wainload/cipher.lowBox", laid_wainload_cipher_lowBox), ("wainload/cipher.highBox", laid_wainload_cipher_highBox)] }
def CounterOpensSaid : Prop := counterOpensRow.holds Tryd.pinned (OpenSpec.ofChange counterOpensSpec)

/-- ITS FALSE NEIGHBOUR: 'it returns false'. Refute it at one input. -/
def counterOpensWrong : ChangeSpec := { name := "counterOpens", fn := fun _ => fun
  | [d1, d2, d3] => { results := [.lit (.bool false)], args := [d1, d2, d3] }
  | _ => none }
def CounterOpensWrongFalsely : Prop := counterOpensRow.holds Tryd.pinned (OpenSpec.ofChange counterOpensWrong)

/-- 'wainloadlaw13.CounterBack': WHATEVER THE INPUT: true; the input reads as it did. -/
def counterBackSpec : ChangeSpec := { name := "counterBack", fn := fun _ => fun
  | [d] => { results := [.lit (.bool true)], args := [d] }
  | _ => none }
def counterBackRow : OpenClaim := { program := "ytgamfpgejkhbcaadoor", sum := "94747e6793cfe65932552d24f62d63c0940ab5d9b04851ef76e368708fb08ad2", func := "wainload/wainloadlaw13.CounterBack", spec := "counterBack", unfollowed := true, recurses := true, named := ["wainload/cipher.lowBox", "wainload/cipher.highBox"], apart := false, laid := [("wainload/cipher.lowBox", laid_wainload_cipher_lowBox), ("wainload/cipher.highBox", laid_wainload_cipher_highBox)] }
def CounterBackSaid : Prop := counterBackRow.holds Tryd.pinned (OpenSpec.ofChange counterBackSpec)

/-- ITS FALSE NEIGHBOUR: 'it returns false'. Refute it at one input. -/
def counterBackWrong : ChangeSpec := { name := "counterBack", fn := fun _ => fun
  | [d] => { results := [.lit (.bool false)], args := [d] }
  | _ => none }
def CounterBackWrongFalsely : Prop := counterBackRow.holds Tryd.pinned (OpenSpec.ofChange counterBackWrong)

/-- 'wainloadlaw13.CounterTwice': WHATEVER THE INPUT: true; the input reads as it did. -/
def counterTwiceSpec : ChangeSpec := { name := "counterTwice", fn := fun _ => fun
  | [d1, d2] => { results := [.lit (.bool true)], args := [d1, d2] }
  | _ => none }
def counterTwiceRow : OpenClaim := { program := "ytgamfpgejkhbcaadoor", sum := "94747e6793cfe65932552d24f62d63c0940ab5d9b04851ef76e368708fb08ad2", func := "wainload/wainloadlaw13.CounterTwice", spec := "counterTwice", unfollowed := true, recurses := true, named := ["wainload/cipher.lowBox", "wainload/cipher.highBox"], apart := false, laid := [("wainload/cipher.lowBox", laid_wainload_cipher_lowBox), ("wainload/cipher.highBox", laid_wainload_cipher_highBox)] }
def CounterTwiceSaid : Prop := counterTwiceRow.holds Tryd.pinned (OpenSpec.ofChange counterTwiceSpec)

/-- ITS FALSE NEIGHBOUR: 'it returns false'. Refute it at one input. -/
def counterTwiceWrong : ChangeSpec := { name := "counterTwice", fn := fun _ => fun
  | [d1, d2] => { results := [.lit (.bool false)], args := [d1, d2] }
  | _ => none }
def CounterTwiceWrongFalsely : Prop := counterTwiceRow.holds Tryd.pinned (OpenSpec.ofChange counterTwiceWrong)

/-- 'wainloadlaw13.CounterTags': WHATEVER THE INPUT: true; the input reads as it did. -/
def counterTagsSpec : ChangeSpec := { name := "counterTags", fn := fun _ => fun
  | [d1, d2, d3] => { results := [.lit (.bool true)], args := [d1, d2, d3] }
  | _ => none }
def counterTagsRow : OpenClaim := { program := "ytgamfpgejkhbcaadoor", sum := "94747e6793cfe65932552d24f62d63c0940ab5d9b04851ef76e368708fb08ad2", func := "wainload/wainloadlaw13.CounterTags", spec := "counterTags", unfollowed := true, recurses := true, named := ["wainload/cipher.lowBox", "wainload/cipher.highBox"], apart := false, laid := [("wainload/cipher.lowBox", laid_wainload_cipher_lowBox), ("wainload/cipher.highBox", laid_wainload_cipher_highBox)] }
def CounterTagsSaid : Prop := counterTagsRow.holds Tryd.pinned (OpenSpec.ofChange counterTagsSpec)

/-- ITS FALSE NEIGHBOUR: 'it returns false'. Refute it at one input. -/
def counterTagsWrong : ChangeSpec := { name := "counterTags", fn := fun _ => fun
  | [d1, d2, d3] => { results := [.lit (.bool false)], args := [d1, d2, d3] }
  | _ => none }
def CounterTagsWrongFalsely : Prop := counterTagsRow.holds Tryd.pinned (OpenSpec.ofChange counterTagsWrong)

/- THE SECOND FORM. 'bulk': how many values and letters a reading holds, each counted each time it is reached (what is shared counts as often as it is met; a slice's spare places count too). A statement '..UptoSaid' is the law's where the arguments, and the package variables that the reading takes, are together of bulk at most 1048576: NARROWER than '..Said'. Prove '..Said' where nothing that the law and all that it calls make is longer than what came in: it says more and counts as full. Else prove '..UptoSaid'. A law counts once. -/
mutual
def uptoBulk {H : Type} : DataW H → Nat
  | .lit (.string bytes) => bytes.length + 1
  | .lit _ => 1
  | .nil => 1
  | .ptr d => uptoBulk d + 1
  | .slice elems spare => uptoBulkAll elems + uptoBulkAll spare + 1
  | .agg parts => uptoBulkAll parts + 1
  | .iface _ d => uptoBulk d + 1
  | .map entries => uptoBulkEntries entries + 1
  | .held _ => 1
def uptoBulkAll {H : Type} : List (DataW H) → Nat
  | [] => 0
  | d :: r => uptoBulk d + uptoBulkAll r
def uptoBulkEntries {H : Type} : List (Lit × DataW H) → Nat
  | [] => 0
  | x :: r => uptoBulkEntry x + uptoBulkEntries r
def uptoBulkEntry {H : Type} : Lit × DataW H → Nat
  | (.string bytes, d) => bytes.length + uptoBulk d + 1
  | (_, d) => uptoBulk d + 1
 end
def uptoSmall : (H : Type) → List (DataW H) → Bool := fun _ ds => decide (uptoBulkAll ds ≤ 1048576)
def OpenSpec.upto (s : _root_.Go.ChangeSpec) : _root_.Go.OpenSpec := { _root_.Go.OpenSpec.ofChange s with cond := some uptoSmall }

/-- 'wainloadlaw13.CounterStreams', WHERE WHAT IT READS IS OF BULK AT MOST 1048576: true; the input reads as it did. -/
def counterStreamsUptoRow : OpenClaim := { program := "ytgamfpgejkhbcaadoor", sum := "94747e6793cfe65932552d24f62d63c0940ab5d9b04851ef76e368708fb08ad2", func := "wainload/wainloadlaw13.CounterStreams", spec := "counterStreams", unfollowed := true, recurses := true, named := ["wainload/cipher.lowBox", "wainload/cipher.highBox"], apart := false, laid := [("wainload/cipher.lowBox", laid_wainload_cipher_lowBox), ("wainload/cipher.highBox", laid_wainload_cipher_highBox)], narrowed := true }
def CounterStreamsUptoSaid : Prop := counterStreamsUptoRow.holds Tryd.pinned (OpenSpec.upto counterStreamsSpec)

/-- 'wainloadlaw13.CounterSeals', WHERE WHAT IT READS IS OF BULK AT MOST 1048576: true; the input reads as it did. -/
def counterSealsUptoRow : OpenClaim := { program := "ytgamfpgejkhbcaadoor", sum := "94747e6793cfe65932552d24f62d63c0940ab5d9b04851ef76e368708fb08ad2", func := "wainload/wainloadlaw13.CounterSeals", spec := "counterSeals", unfollowed := true, recurses := true, named := ["wainload/cipher.lowBox", "wainload/cipher.highBox"], apart := false, laid := [("wainload/cipher.lowBox", laid_wainload_cipher_lowBox), ("wainload/cipher.highBox", laid_wainload_cipher_highBox)], narrowed := true }
def CounterSealsUptoSaid : Prop := counterSealsUptoRow.holds Tryd.pinned (OpenSpec.upto counterSealsSpec)

/-- 'wainloadlaw13.CounterOpens', WHERE WHAT IT READS IS OF BULK AT MOST 1048576: true; the input reads as it did. -/
def counterOpensUptoRow : OpenClaim := { program := "ytgamfpgejkhbcaadoor", sum := "94747e6793cfe65932552d24f62d63c0940ab5d9b04851ef76e368708fb08ad2", func := "wainload/wainloadlaw13.CounterOpens", spec := "counterOpens", unfollowed := true, recurses := true, named := ["wainload/cipher.lowBox", "wainload/cipher.highBox"], apart := false, laid := [("wainload/cipher.lowBox", laid_wainload_cipher_lowBox), ("wainload/cipher.highBox", laid_wainload_cipher_highBox)], narrowed := true }
def CounterOpensUptoSaid : Prop := counterOpensUptoRow.holds Tryd.pinned (OpenSpec.upto counterOpensSpec)

/-- 'wainloadlaw13.CounterBack', WHERE WHAT IT READS IS OF BULK AT MOST 1048576: true; the input reads as it did. -/
def counterBackUptoRow : OpenClaim := { program := "ytgamfpgejkhbcaadoor", sum := "94747e6793cfe65932552d24f62d63c0940ab5d9b04851ef76e368708fb08ad2", func := "wainload/wainloadlaw13.CounterBack", spec := "counterBack", unfollowed := true, recurses := true, named := ["wainload/cipher.lowBox", "wainload/cipher.highBox"], apart := false, laid := [("wainload/cipher.lowBox", laid_wainload_cipher_lowBox), ("wainload/cipher.highBox", laid_wainload_cipher_highBox)], narrowed := true }
def CounterBackUptoSaid : Prop := counterBackUptoRow.holds Tryd.pinned (OpenSpec.upto counterBackSpec)

/-- 'wainloadlaw13.CounterTwice', WHERE WHAT IT READS IS OF BULK AT MOST 1048576: true; the input reads as it did. -/
def counterTwiceUptoRow : OpenClaim := { program := "ytgamfpgejkhbcaadoor", sum := "94747e6793cfe65932552d24f62d63c0940ab5d9b04851ef76e368708fb08ad2", func := "wainload/wainloadlaw13.CounterTwice", spec := "counterTwice", unfollowed := true, recurses := true, named := ["wainload/cipher.lowBox", "wainload/cipher.highBox"], apart := false, laid := [("wainload/cipher.lowBox", laid_wainload_cipher_lowBox), ("wainload/cipher.highBox", laid_wainload_cipher_highBox)], narrowed := true }
def CounterTwiceUptoSaid : Prop := counterTwiceUptoRow.holds Tryd.pinned (OpenSpec.upto counterTwiceSpec)

/-- 'wainloadlaw13.CounterTags', WHERE WHAT IT READS IS OF BULK AT MOST 1048576: true; the input reads as it did. -/
def counterTagsUptoRow : OpenClaim := { program := "ytgamfpgejkhbcaadoor", sum := "94747e6793cfe65932552d24f62d63c0940ab5d9b04851ef76e368708fb08ad2", func := "wainload/wainloadlaw13.CounterTags", spec := "counterTags", unfollowed := true, recurses := true, named := ["wainload/cipher.lowBox", "wainload/cipher.highBox"], apart := false, laid := [("wainload/cipher.lowBox", laid_wainload_cipher_lowBox), ("wainload/cipher.highBox", laid_wainload_cipher_highBox)], narrowed := true }
def CounterTagsUptoSaid : Prop := counterTagsUptoRow.holds Tryd.pinned (OpenSpec.upto counterTagsSpec)

end Rows
end Go.Proofs.YtgamfpgejkhbcaaDoor
