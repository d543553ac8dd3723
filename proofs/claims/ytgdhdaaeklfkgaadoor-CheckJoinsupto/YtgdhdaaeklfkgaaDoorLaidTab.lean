/- PROVED: where the listed variable reads as the program's text lays it, the library's table lies in its variable; the world that the program's own start leaves is such a world. -/
import Derived.Test.YtgdhdaaeklfkgaaDoorJoin
import Derived.Test.YtgdhdaaeklfkgaaDoorCards
import Derived.Test.YtgdhdaaeklfkgaaDoorTie
import Derived.LaidMore
import Derived.Lib.LaidTab
import Derived.Stop.Joined
namespace Go.Proofs.YtgdhdaaeklfkgaaDoor
open Go Go.RowKit

/-- The listed variable's name, as the row has it. -/
def vn : String := (Rows.checkAnyRow.laid.map Prod.fst).headD ""
theorem gVar : Tryd.prog.globalNamed vn = some 0 := by kernel_rfl
theorem tVar : (Tryd.prog.globals[0]?).map (·.type) = some 44 := by kernel_rfl
theorem laid_eq : Rows.checkAnyRow.laid = (vn, Lib.tabData .u8 (Lib.deBruijn32tab.map Int.ofNat)) :: [] := by rfl
theorem cells44 : Tryd.prog.cellsOf 44 = 32 := by kernel_rfl
theorem deB_of_laid {W : World} (h : laidMetH Tryd.prog Rows.checkAnyRow.laid W) : DeB W := by
  rw [MakeChecks.laidMetH_plain _ _ _ (by kernel_rfl), laid_eq] at h
  have hT := Lib.tabIs_of_head gVar tVar Tryd.underlying44 Tryd.underlying5 cells5 cells44 h
  intro j hj
  have := hT.cell gVar j (by simpa using hj)
  rw [this]
  have h32 : j < Lib.deBruijn32tab.length := hj
  simp [List.getD, h32]
theorem door_met (os : Os) (args : Array Value) : laidMetH Tryd.prog Rows.checkAnyRow.laid ((World.doorLaid Tryd.prog 400 os).forCall (fun _ _ => 0) ⟨#[], args, []⟩).memory :=
  laidMetH_of_parts3 (fuel := 8) (laidMet_of_run' 8 (by kernel_rfl) (by kernel_rfl)) (by kernel_rfl) (by kernel_rfl)
end Go.Proofs.YtgdhdaaeklfkgaaDoor
