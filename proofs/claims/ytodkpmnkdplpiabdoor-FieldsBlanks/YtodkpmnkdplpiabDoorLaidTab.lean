/- PROVED: where the listed variables read as the program's text lays them, the library's tables lie in their variables; the world that the program's own start leaves is such a world. -/
import Derived.Test.YtodkpmnkdplpiabDoorAlive
import Derived.Test.YtodkpmnkdplpiabDoorCards
import Derived.Test.YtodkpmnkdplpiabDoorTie
import Derived.LaidMore
import Derived.Lib.LaidTab
import Derived.Lib.TrailingZeros
import Derived.Stop.Joined
import Derived.Lay
import Derived.ChangeMaps5
import Derived.ProofKit
import Derived.OpenShut
import Derived.ChangeOld
import Derived.SizedLaws
import Derived.Deep.Slices
import Derived.Lib.SmallJoins
import Derived.SevenTiedAt
namespace Go.Proofs.YtodkpmnkdplpiabDoor
open Go Go.RowKit
set_option linter.unusedVariables false

/-- The name of a listed variable, as the row has it. -/
def vn64 : String := ((Rows.fieldsBlanksRow.laid.map Prod.fst)[1]?).getD ""
theorem gP : Tryd.prog.globalNamed vnP = some 0 := by kernel_rfl
theorem tP : (Tryd.prog.globals[0]?).map (·.type) = some 93 := by kernel_rfl
theorem g64 : Tryd.prog.globalNamed vn64 = some 5 := by kernel_rfl
theorem t64 : (Tryd.prog.globals[5]?).map (·.type) = some 109 := by kernel_rfl
theorem laidVars_tail {P : Program} {W : World} {x : String × DataW Unit} {rest : List (String × DataW Unit)} {ps : List MemPlace} (h : DataW.LaidVars P W (x :: rest) ps) : ∃ qs, DataW.LaidVars P W rest qs := by
  obtain ⟨g, t, cs, fuel, p, q, h1, h2, h3, h4, h5, h6⟩ := h
  exact ⟨_, h5⟩
theorem tabIs_of_vars {P : Program} {W : World} {name : String} {k : IntKind} {zs : List Int} {rest : List (String × DataW Unit)} {g : Nat} {t e : TypeId} {n : Nat} {ps : List MemPlace}
    (hg : P.globalNamed name = some g) (hty : (P.globals[g]?).map (·.type) = some t) (ht : P.underlying t = some (.array n e)) (he : P.underlying e = some (.int k)) (hce : P.cellsOf e = 1) (hct : P.cellsOf t = n)
    (h : DataW.LaidVars P W ((name, Lib.tabData k zs) :: rest) ps) : Lib.TabIs P W name k zs := by
  obtain ⟨g', t', cs, fuel, p, q, hg', ht', hvar, hd, _, _⟩ := h
  obtain rfl := Option.some.inj (hg.symm.trans hg')
  obtain rfl := Option.some.inj (hty.symm.trans ht')
  unfold Lib.TabIs
  rw [hvar, ← Lib.cells_of_tab ht he hce hct hd]
theorem laid_eq : ∃ x0 r, Rows.fieldsBlanksRow.laid = x0 :: (vn64, Lib.tabData .u8 (Lib.deBruijn64tab.map Int.ofNat)) :: (vnP, Lib.tabData .u64 Lib.pow10Tab) :: r := ⟨_, _, rfl⟩
theorem cells5 : Tryd.prog.cellsOf 5 = 1 := by kernel_rfl
theorem cellsU : Tryd.prog.cellsOf 32 = 1 := by kernel_rfl
theorem cellsP : Tryd.prog.cellsOf 93 = 20 := by kernel_rfl
theorem cells64 : Tryd.prog.cellsOf 109 = 64 := by kernel_rfl
theorem tabs_of_laid {W : World} (h : laidMetH Tryd.prog Rows.fieldsBlanksRow.laid W) : Tabs W := by
  rw [MakeChecks.laidMetH_plain _ _ _ (by kernel_rfl)] at h
  obtain ⟨x0, r, he⟩ := laid_eq
  rw [he] at h
  obtain ⟨ps, hl, _⟩ := h
  obtain ⟨qs, h1⟩ := laidVars_tail hl
  obtain ⟨rs, h2⟩ := laidVars_tail h1
  have hP := tabIs_of_vars gP tP Tryd.underlying93 Tryd.underlying32 cellsU cellsP h2
  have h64 := tabIs_of_vars g64 t64 Tryd.underlying109 Tryd.underlying5 cells5 cells64 h1
  exact ⟨hP, h64.cell g64 7 (by decide)⟩
theorem wit_met (os : Os) (args : Array Value) : laidMetH Tryd.prog Rows.fieldsBlanksRow.laid ((World.laidAll Tryd.prog os Rows.fieldsBlanksRow.laid).forCall (fun _ _ => 0) ⟨#[], args, []⟩).memory := by
  rw [MakeChecks.laidMetH_plain _ _ _ (by kernel_rfl)]
  exact laidMet_laidAll _ (by kernel_rfl) (by kernel_rfl)
theorem laidOut : laidOutB Tryd.prog = true := by kernel_rfl
theorem putR_len {v n : Int} {X : List UInt8} (h : putR v n = some X) : X.length ≤ 9223372036854775807 := by
  unfold putR at h
  split at h
  · cases h
  · rename_i hb
    split at h
    · obtain rfl := Option.some.inj h
      simp [wri_length]
      omega
    · split at h
      · obtain rfl := Option.some.inj h
        simp [wri_length]
        omega
      · cases h
theorem psP_len (t : Int) (ht : -9223372036854775808 ≤ t ∧ t ≤ 9223372036854775807) : (psP t).length ≤ 100 := by
  have hq : (psQ t.natAbs).length ≤ 60 := by
    have h1 : (Lib.decDigits (t.natAbs / 1000000000)).length ≤ 20 := dec_len 19 _ (Nat.lt_of_le_of_lt (Nat.div_le_self _ _) (Nat.lt_of_le_of_lt (show t.natAbs ≤ 9223372036854775808 by omega) (by decide)))
    have h2 : (Lib.decDigits (1000000000 + t.natAbs % 1000000000)).length ≤ 20 := dec_len 19 _ (Nat.lt_of_lt_of_le (show 1000000000 + t.natAbs % 1000000000 < 2000000000 by omega) (by decide))
    have h3 := trimR_len ((Lib.decDigits (1000000000 + t.natAbs % 1000000000)).drop 1) 48
    rw [List.length_drop] at h3
    unfold psQ
    rw [List.length_append]
    split
    · simp; omega
    · rw [List.length_append]
      simp only [List.length_singleton]
      omega
  unfold psP
  split
  · simp; omega
  · omega
theorem own : ownKnob Tryd.prog.godebug = none := by kernel_rfl
section
open Go.ChangeShapes Go.WideShapes Go.ChangeAt
variable {H : Type} {enc : TypeId × Value → H} {W : World}
theorem open_bytes {a : Option Addr} {len cap : Nat} {d : DataW H} {p : List MemPlace} (h : DataW.Trod enc Tryd.prog W 0 (fun _ => true) true 23 (.slice a len cap) d p) :
    ∃ xs : List UInt8, Bs W (.slice a len cap) xs ∧ xs.length ≤ 9223372036854775807 := by
  obtain ⟨fuel, hf⟩ := h
  rcases open_ints Tryd.underlying23 Tryd.underlying5 cells5 hf with ⟨he, _⟩ | ⟨a', l, c, zs, he, _, hl, hm, hz, hd, hcell, hwz⟩
  · simp [Value.cells] at he
    obtain ⟨rfl, rfl, rfl⟩ := he
    exact ⟨[], Or.inl ⟨rfl, _, _, rfl⟩, by simp⟩
  · simp [Value.cells] at he
    obtain ⟨rfl, rfl, rfl⟩ := he
    have hz' : zs.length = cap := by simpa using hz
    unfold maxLen at hm
    refine ⟨(zs.take len).map fun z => UInt8.ofNat z.toNat, ?_, by simp; omega⟩
    by_cases h0 : len = 0
    · subst h0
      exact Or.inl ⟨by simp, some a', cap, rfl⟩
    · obtain ⟨b, off, spot⟩ := a'
      have hc := hcell 0 (by omega)
      have hspot : spot = none := by simpa [Addr.add] using World.cell?_spot hc
      subst hspot
      have hxl : ((zs.take len).map fun z => UInt8.ofNat z.toNat).length = len := by simp; omega
      refine Or.inr ⟨b, off, cap, by rw [hxl], by rw [hxl]; omega, fun i hi => ?_⟩
      rw [hxl] at hi
      have := hcell i (by omega)
      rw [Lib.add_plain] at this
      rw [this]
      have hlt : i < zs.length := by omega
      have hb := bounds_u8 (hwz zs[i] (List.getElem_mem hlt))
      have e1 : ((zs.take len).map fun z => UInt8.ofNat z.toNat).getD i 0 = UInt8.ofNat zs[i].toNat := by
        rw [List.getD_eq_getElem?_getD, List.getElem?_map, List.getElem?_take_of_lt hi, List.getElem?_eq_getElem hlt]
        rfl
      rw [e1, byte_lt (by omega), List.getD_eq_getElem?_getD, List.getElem?_eq_getElem hlt]
      show some (Value.int .u8 zs[i]) = _
      congr 2
      omega
end
end Go.Proofs.YtodkpmnkdplpiabDoor
