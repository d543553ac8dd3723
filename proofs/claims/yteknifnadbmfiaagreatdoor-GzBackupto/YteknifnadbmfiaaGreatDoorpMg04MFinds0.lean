/- Several texts, laid together: MTellR, MAlive, MOpen, MFinds0. -/
import Derived.Test.YteknifnadbmfiaaGreatDoorpMg03MTell
import Derived.Test.YteknifnadbmfiaaGreatDoorpMg00MSlot
import Derived.Lib.SlBytesConst
import Derived.ProofKit
import Derived.OpenShut
import Derived.ShutString
import Derived.ChangeOld
import Derived.SizedLaws
import Derived.Deep.Slices
import Derived.Deep.Strs
import Derived.Lib.SmallJoins
/- What tokens tell: the reference's Tell; bytes as texts. -/
namespace Go.Proofs.YteknifnadbmfiaaGreatDoor.M
set_option maxRecDepth 100000
open Go Go.RowKit

end Go.Proofs.YteknifnadbmfiaaGreatDoor.M

/- The laws' probe. -/
namespace Go.Proofs.YteknifnadbmfiaaGreatDoor.M
set_option maxRecDepth 100000
open Go Go.RowKit

abbrev lit3 : List Tk := [(97, 0, 0), (98, 0, 0), (0, 4, 2)]
abbrev lit8 : List Int := [97, 97, 97, 97, 97, 97, 97, 97]
abbrev lit3O : Obj := .cells #[.int .u8 97, .int .i64 0, .int .i64 0, .int .u8 98, .int .i64 0, .int .i64 0, .int .u8 0, .int .i64 4, .int .i64 2] 109
abbrev lit8O : Obj := .cells #[.int .u8 97, .int .u8 97, .int .u8 97, .int .u8 97, .int .u8 97, .int .u8 97, .int .u8 97, .int .u8 97] 5 (8, 9)
end Go.Proofs.YteknifnadbmfiaaGreatDoor.M

/- How the laws' arguments are opened: tokens, bytes. -/
namespace Go.Proofs.YteknifnadbmfiaaGreatDoor.M
set_option maxRecDepth 100000
open Go.ChangeShapes Go.WideShapes Go.ChangeAt Go.RowKit

theorem own : ownKnob Tryz.prog.godebug = none := by kernel_rfl
section
variable {H : Type} {enc : TypeId × Value -> H} {W : World}

structure BIn (W : World) (a : Option Addr) (cap : Nat) (zs : List Int) : Prop where
 by_ : Bys W a zs
 cap_ : zs.length <= cap
 most : cap <= 9223372036854775807
 nil : a = none -> zs.length = 0 /\ cap = 0
structure TIn (W : World) (a : Option Addr) (cap : Nat) (xs : List Tk) : Prop where
 toks : Toks W a xs
 bt : Bt xs
 cap_ : xs.length <= cap
 nil : a = none -> xs.length = 0 /\ cap = 0
end
def Yes (w : World) (e : Ending) (w' : World) : Prop := e = .returned (.bool true) /\ Below w.heap.size w w'
end Go.Proofs.YteknifnadbmfiaaGreatDoor.M

/- What is found, whatever the level. -/
namespace Go.Proofs.YteknifnadbmfiaaGreatDoor.M
set_option maxRecDepth 100000
open Go Go.RowKit

theorem FindOk.all {zs : List Int} {lv : Int} {w : World} {e : Ending} {w' : World} (h : FindOk zs lv w e w') (hz : ∀ i, 0 <= ln zs i /\ ln zs i <= 255) : ∃ a cap xs, e = .returned (.slice a xs.length cap) /\ Toks w' a xs /\ Below w.heap.size w w' /\ Rt xs /\ Bt xs /\ tel xs = zs /\ xs.length <= zs.length /\ (1 <= lv -> FdTo zs zs.length xs /\ FndAll zs lv xs) /\ OwnsT w' w.heap.size (.slice a xs.length cap) xs := by
 obtain ⟨a, cap, xs, he, ho, hb, h0, h1⟩ := h
 obtain ⟨_, _, hv, htk, _, _, _⟩ := ho.form
 simp only [Value.slice.injEq] at hv
 obtain ⟨rfl, _, rfl⟩ := hv
 by_cases hlv : lv < 1
 ·obtain rfl := h0 hlv
  exact ⟨_, _, _, he, htk, hb, alT_rt zs, alT_bt hz, alT_tell zs, by rw [alT_length]; exact Nat.le_refl _, h1, ho⟩
 ·have hf := (h1 (by omega)).1
  exact ⟨_, _, _, he, htk, hb, hf.rt, hf.bt, by rw [hf.tell, List.take_length], hf.many, h1, ho⟩

end Go.Proofs.YteknifnadbmfiaaGreatDoor.M
