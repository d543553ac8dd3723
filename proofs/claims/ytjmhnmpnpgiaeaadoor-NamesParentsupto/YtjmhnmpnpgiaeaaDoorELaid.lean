/- PROVED: where the listed variable reads as the program's text lays it, the table lies there; the world that the program's own start leaves is such a world. -/
import Derived.Test.YtjmhnmpnpgiaeaaDoorEAlive
import Derived.Test.YtjmhnmpnpgiaeaaDoorCards
import Derived.Test.YtjmhnmpnpgiaeaaDoorTie
import Derived.LaidMore
import Derived.Lib.LaidTab
import Derived.Stop.Joined
import Derived.Lay
import Derived.ChangeMaps5
import Derived.SevenTiedAt
import Derived.JoinedCond
import Derived.Laws.BytesArg
import Derived.ProofKit
import Derived.OpenShut
import Derived.ShutString
import Derived.ChangeOld
import Derived.SizedLaws
import Derived.Deep.Slices
import Derived.Deep.Strs
import Derived.Lib.SmallJoins
namespace Go.Proofs.YtjmhnmpnpgiaeaaDoor.E
set_option maxRecDepth 100000
open Go Go.ChangeShapes Go.WideShapes Go.ChangeAt Go.RowKit
set_option linter.unusedVariables false

/-- The name of the listed variable, as the row has it. -/
def vn1 : String := ((Rows.namesCleansRow.laid.map Prod.fst)[0]?).getD ""
theorem gn1 : Tryd.prog.globalNamed vn1 = some 0 := by kernel_rfl
theorem tn1 : (Tryd.prog.globals[0]?).map (·.type) = some 54 := by kernel_rfl
theorem tabIs_of_vars {P : Program} {W : World} {name : String} {k : IntKind} {zs : List Int} {rest : List (String × DataW Unit)} {g : Nat} {t e : TypeId} {n : Nat} {ps : List MemPlace}
    (hg : P.globalNamed name = some g) (hty : (P.globals[g]?).map (·.type) = some t) (ht : P.underlying t = some (.array n e)) (he : P.underlying e = some (.int k)) (hce : P.cellsOf e = 1) (hct : P.cellsOf t = n)
    (h : DataW.LaidVars P W ((name, Lib.tabData k zs) :: rest) ps) : Lib.TabIs P W name k zs ∧ ∃ q, DataW.LaidVars P W rest q := by
  obtain ⟨g', t', cs, fuel, p, q, hg', ht', hvar, hd, hq, _⟩ := h
  obtain rfl := Option.some.inj (hg.symm.trans hg')
  obtain rfl := Option.some.inj (hty.symm.trans ht')
  constructor
  · unfold Lib.TabIs
    rw [hvar, ← Lib.cells_of_tab ht he hce hct hd]
  · exact ⟨_, hq⟩
theorem laid_eq : Rows.namesCleansRow.laid = [(vn1, Lib.tabData .i32 (tbl.map Int.ofNat))] := by kernel_rfl
theorem cellsI32 : Tryd.prog.cellsOf 21 = 1 := by kernel_rfl
theorem cellsOem : Tryd.prog.cellsOf 54 = 128 := by kernel_rfl
theorem tab_of_laid {W : World} (h : laidMetH Tryd.prog Rows.namesCleansRow.laid W) : Tab W := by
  rw [MakeChecks.laidMetH_plain _ _ _ (by kernel_rfl)] at h
  rw [laid_eq] at h
  obtain ⟨ps, hl, _⟩ := h
  obtain ⟨h1, q, hl2⟩ := tabIs_of_vars gn1 tn1 Tryd.underlying54 Tryd.underlying21 cellsI32 cellsOem hl
  have hl := tbl_len
  intro i hi
  have := h1.cell gn1 i (by rw [List.length_map]; omega)
  rw [this]
  congr 2
  simp [tb, List.getD, show i < tbl.length by omega]
theorem laidOut : laidOutB Tryd.prog = true := by kernel_rfl
theorem own : ownKnob Tryd.prog.godebug = none := by kernel_rfl
theorem wit_met (os : Os) (args : Array Value) : laidMetH Tryd.prog Rows.namesCleansRow.laid ((World.laidAll Tryd.prog os Rows.namesCleansRow.laid).forCall (fun _ _ => 0) ⟨#[], args, []⟩).memory := by
  rw [MakeChecks.laidMetH_plain _ _ _ (by kernel_rfl)]
  exact laidMet_laidAll _ (by kernel_rfl) (by kernel_rfl)
def Yes (w : World) (e : Ending) (w' : World) : Prop := e = .returned (.bool true) ∧ Below w.heap.size w w'
end Go.Proofs.YtjmhnmpnpgiaeaaDoor.E
