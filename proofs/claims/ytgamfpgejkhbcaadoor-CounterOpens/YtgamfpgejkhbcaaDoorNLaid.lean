/- PROVED: where the listed variables read as the program's text lays them, both halves of the box lie there; the world that the program's own start leaves is such a world. -/
import Derived.Test.YtgamfpgejkhbcaaDoorNG2
import Derived.Test.YtgamfpgejkhbcaaDoorCards
import Derived.Test.YtgamfpgejkhbcaaDoorTie
import Derived.LaidMore
import Derived.Lib.LaidTab
import Derived.Stop.Joined
import Derived.Lay
import Derived.ChangeMaps5
import Derived.SevenTiedAt
import Derived.JoinedCond
import Derived.Laws.BytesArg
import Derived.ProofKit
import Derived.OpenShut
import Derived.ShutString
import Derived.ChangeOld
import Derived.SizedLaws
import Derived.Deep.Slices
import Derived.Deep.Strs
import Derived.Lib.SmallJoins
namespace Go.Proofs.YtgamfpgejkhbcaaDoor.K
set_option maxRecDepth 100000
open Go Go.ChangeShapes Go.WideShapes Go.ChangeAt Go.RowKit
set_option linter.unusedVariables false

/-- The names of the listed variables, as the row has them. -/
def vn1 : String := ((Rows.counterTwiceRow.laid.map Prod.fst)[0]?).getD ""
def vn2 : String := ((Rows.counterTwiceRow.laid.map Prod.fst)[1]?).getD ""
theorem gn1 : Tryd.prog.globalNamed vn1 = some 0 := by kernel_rfl
theorem gn2 : Tryd.prog.globalNamed vn2 = some 1 := by kernel_rfl
theorem tn1 : (Tryd.prog.globals[0]?).map (·.type) = some 82 := by kernel_rfl
theorem tn2 : (Tryd.prog.globals[1]?).map (·.type) = some 82 := by kernel_rfl
theorem tabIs_of_vars {P : Program} {W : World} {name : String} {k : IntKind} {zs : List Int} {rest : List (String × DataW Unit)} {g : Nat} {t e : TypeId} {n : Nat} {ps : List MemPlace}
    (hg : P.globalNamed name = some g) (hty : (P.globals[g]?).map (·.type) = some t) (ht : P.underlying t = some (.array n e)) (he : P.underlying e = some (.int k)) (hce : P.cellsOf e = 1) (hct : P.cellsOf t = n)
    (h : DataW.LaidVars P W ((name, Lib.tabData k zs) :: rest) ps) : Lib.TabIs P W name k zs ∧ ∃ q, DataW.LaidVars P W rest q := by
  obtain ⟨g', t', cs, fuel, p, q, hg', ht', hvar, hd, hq, _⟩ := h
  obtain rfl := Option.some.inj (hg.symm.trans hg')
  obtain rfl := Option.some.inj (hty.symm.trans ht')
  constructor
  · unfold Lib.TabIs
    rw [hvar, ← Lib.cells_of_tab ht he hce hct hd]
  · exact ⟨_, hq⟩
theorem laid_eq : Rows.counterTwiceRow.laid = [(vn1, Lib.tabData .u8 ((tBX.take 128).map Int.ofNat)), (vn2, Lib.tabData .u8 ((tBX.drop 128).map Int.ofNat))] := by kernel_rfl
theorem cellsU8 : Tryd.prog.cellsOf 5 = 1 := by kernel_rfl
theorem cells128 : Tryd.prog.cellsOf 82 = 128 := by kernel_rfl
theorem tbx_len : tBX.length = 256 := by kernel_rfl
theorem tab_of_laid {W : World} (h : laidMetH Tryd.prog Rows.counterTwiceRow.laid W) : Tab W := by
  rw [MakeChecks.laidMetH_plain _ _ _ (by kernel_rfl)] at h
  rw [laid_eq] at h
  obtain ⟨ps, hl, _⟩ := h
  obtain ⟨h1, q, hl2⟩ := tabIs_of_vars gn1 tn1 Tryd.underlying82 Tryd.underlying5 cellsU8 cells128 hl
  obtain ⟨h2, _⟩ := tabIs_of_vars gn2 tn2 Tryd.underlying82 Tryd.underlying5 cellsU8 cells128 hl2
  have hl := tbx_len
  refine ⟨fun i hi => ?_, fun i hi => ?_⟩
  · have := h1.cell gn1 i (by rw [List.length_map, List.length_take]; omega)
    rw [this, (bx_is (show i < 256 by omega)).1]
    congr 2
    simp [List.getD, hi, show i < tBX.length by omega]
  · have := h2.cell gn2 i (by rw [List.length_map, List.length_drop]; omega)
    rw [this, (bx_is (show 128 + i < 256 by omega)).1]
    congr 2
    simp [List.getD, show 128 + i < tBX.length by omega]
theorem laidOut : laidOutB Tryd.prog = true := by kernel_rfl
theorem own : ownKnob Tryd.prog.godebug = none := by kernel_rfl
theorem wit_met (os : Os) (args : Array Value) : laidMetH Tryd.prog Rows.counterTwiceRow.laid ((World.laidAll Tryd.prog os Rows.counterTwiceRow.laid).forCall (fun _ _ => 0) ⟨#[], args, []⟩).memory := by
  rw [MakeChecks.laidMetH_plain _ _ _ (by kernel_rfl)]
  exact laidMet_laidAll _ (by kernel_rfl) (by kernel_rfl)
end Go.Proofs.YtgamfpgejkhbcaaDoor.K
