/- PLAIN: Seconds, as plain functions. -/
import Derived.Test.YtodkpmnkdplpiaaDoorPure
namespace Go.Proofs.YtodkpmnkdplpiaaDoor
/-- The reference's nanoseconds: so many digits more, 0 where there is none. -/
def nanA : Nat → List UInt8 → Nat → Nat
  | 0, _, a => a
  | k + 1, [], a => nanA k [] (a * 10)
  | k + 1, c :: r, a => nanA k r (a * 10 + (c.toNat - 48))
def secF (ds part : List UInt8) : Option (Option Nat) := match numF 10 48 ds (some 0) with
  | none => some none
  | some v => if 9000000000 < v then some none else some (some (v * 1000000000 + nanA 9 part 0))
def secC (ds : List UInt8) : List UInt8 → Option (Option Nat)
  | [] => secF ds []
  | c :: part => if c.toNat ≠ 46 ∨ part = [] ∨ rn part < part.length then none else secF ds part
/-- The reference's Seconds, behind the sign. -/
def secT (t : List UInt8) : Option (Option Nat) := if rn t = 0 then none else secC (t.take (rn t)) (t.drop (rn t))
theorem secT_eq (t : List UInt8) : secT t = if rn t = 0 then none else secC (t.take (rn t)) (t.drop (rn t)) := rfl
def secR (l : List UInt8) : Int × Int := if l.head? = some 45 then ansS true (secT l.tail) else ansS false (secT l)
end Go.Proofs.YtodkpmnkdplpiaaDoor
