/- Several texts, laid together: PFixed, PHead, PInner. -/
import Derived.Test.YtlakgbckopjelaaDoorPData
import Derived.Test.YtlakgbckopjelaaDoorPMake
/- The stream's fixedBlock: contract. -/
namespace Go.Proofs.YtlakgbckopjelaaDoor
set_option maxRecDepth 100000
open Go Go.RowKit

section
variable {B bs br : Nat} {a : Option Addr} {len cap : Nat} {zs : List Int} {m : Nat} {w w' : World} {p : Nat} {o : Option Addr} {oc : Nat} {fc : Value} {out : List Int}
theorem iFix_good : Good iFix := check_good iFix_check
theorem iFive_good : Good iFive := check_good iFive_check

end
end Go.Proofs.YtlakgbckopjelaaDoor

/- What a dynamic block says of its codes, in parts; the stream's counts: contract. -/
namespace Go.Proofs.YtlakgbckopjelaaDoor
set_option maxRecDepth 100000
open Go Go.RowKit

def iCnt (b : Nat → Nat) (T p : Nat) : Except Int (Nat × (Nat × Nat × Nat)) :=
  iThen (iTk b T p 5) fun q x => iThen (iTk b T q 5) fun q y => iThen (iTk b T q 4) fun q z => if 286 < x + 257 ∨ 30 < y + 1 then .error 63 else .ok (q, (x, y, z))
def iInn (b : Nat → Nat) (T p z : Nat) : Except Int (Nat × List Int) := iThen (iRd3 b T (z + 4) p 0 (List.replicate 19 0)) fun q first => if ¬ check first false = 0 then .error 63 else .ok (q, first)
noncomputable def iAll (first : List Int) (many : Nat) (b : Nat → Nat) (T p : Nat) : Except Int (Nat × List Int) := iLoop T (iLen first many b T) p []
section
variable {B bs br : Nat} {a : Option Addr} {len cap : Nat} {zs : List Int} {m : Nat} {w w' : World} {p : Nat} {o : Option Addr} {oc : Nat} {fc : Value} {out : List Int}
def CBad (br : Nat) (w : World) (e : Int) (x : Ending) (w' : World) : Prop := x = .returned (.tuple #[.int .i64 0, .int .i64 0, .int .i64 0, .int .i64 e]) ∧ Kept (fun b => b = br) w w' ∧ 60 ≤ e ∧ e ≤ 65
end
end Go.Proofs.YtlakgbckopjelaaDoor

/- The stream's innerCode: contract. -/
namespace Go.Proofs.YtlakgbckopjelaaDoor
set_option maxRecDepth 100000
open Go Go.RowKit

/-- The order of lengths lies in its variable. -/
def Tab (w : World) : Prop := ∀ i, i < 19 → w.cell? ⟨0, i, none⟩ = some (.int .i64 ((iOrd.getD i 0 : Nat) : Int))
theorem Tab.kept {M : Nat → Prop} {w w' : World} (h : Tab w) (k : Kept M w w') (h0 : ¬ M 0) : Tab w' := fun i hi => (k.cell (p := ⟨0, i, none⟩) (lt_of_cell (h i hi)) h0).trans (h i hi)
theorem Tab.below {B : Nat} {w w' : World} (h : Tab w) (k : Below B w w') (h0 : 0 < B) : Tab w' := h.kept (Kept.of_below k) (by omega)
theorem valA_set (L : List Int) (i : Nat) (x : Int) : (valA L).setIfInBounds i (.int .i64 x) = valA (L.set i x) := by
  rw [← Array.toList_inj]
  simp [valA, List.map_set]
section
variable {B bs br : Nat} {a : Option Addr} {len cap : Nat} {zs : List Int} {m : Nat} {w w' : World} {p : Nat} {o : Option Addr} {oc : Nat} {fc : Value} {out : List Int}
/-- A code, wherever its parts lie. -/
def CodeX (lo hi : Nat) (w : World) (bc : Nat) (ls : List Int) : Prop := ∃ gl gc vo N, CodeAt lo hi w bc gl gc vo N ls
def IBad (br : Nat) (w : World) (e : Int) (x : Ending) (w' : World) : Prop := x = .returned (.tuple #[.pointer none, .int .i64 e]) ∧ Kept (fun b => b = br) w w' ∧ 60 ≤ e ∧ e ≤ 65
end
end Go.Proofs.YtlakgbckopjelaaDoor
