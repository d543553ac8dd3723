/- Several texts, laid together: RDyn, PBlock, PInf. -/
import Derived.Test.YtlakgbckopjelaaGreatDoorRHead
import Derived.Test.YtlakgbckopjelaaGreatDoorG42RHead0
/- The reference's dynamic block: contract. -/
namespace Go.Proofs.YtlakgbckopjelaaGreatDoor
set_option maxRecDepth 100000
open Go Go.RowKit

section
variable {B0 : Nat} {w wr w1 w9 : World} {ov : Value} {a : Option Addr} {al ac : Nat} {p : Int} {o : Option Addr} {oc : Nat} {m e : Int} {out : List Int} {rv : Array Value}
end

end Go.Proofs.YtlakgbckopjelaaGreatDoor

/- (Nothing of the program's own blocks in this seat.) -/
namespace Go.Proofs.YtlakgbckopjelaaGreatDoor
set_option maxRecDepth 100000
end Go.Proofs.YtlakgbckopjelaaGreatDoor

/- What Inflate answers, in memory (the reference alone stands in this seat). -/
namespace Go.Proofs.YtlakgbckopjelaaGreatDoor
set_option maxRecDepth 100000
open Go Go.RowKit

/-- What Inflate answers, in memory. -/
def InfOk (w : World) (r : List Int × Nat × Int) (x : Ending) (w' : World) : Prop := ∃ o oc, x = .returned (.tuple #[.slice o r.1.length oc, .int .i64 (r.2.1 : Int), .int .i64 r.2.2]) ∧ OwnsB w' w.heap.size (.slice o r.1.length oc) r.1 ∧ Below w.heap.size w w'
theorem Text.up {B B' : Nat} {w : World} {a : Option Addr} {len : Nat} {zs : List Int} (h : Text B w a len zs) (hB : B ≤ B') : Text B' w a len zs := by
  obtain ⟨h1, h2, h3⟩ := h
  refine ⟨h1, h2, ?_⟩
  rcases h3 with h3 | ⟨b, off, hb, r⟩
  · exact .inl h3
  · exact .inr ⟨b, off, by omega, r⟩
end Go.Proofs.YtlakgbckopjelaaGreatDoor
