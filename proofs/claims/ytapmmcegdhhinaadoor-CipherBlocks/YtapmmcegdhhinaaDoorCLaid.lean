/- PROVED: where the listed variables read as the program's text lays them, both halves of the box lie there; the world that the program's own start leaves is such a world. How the laws' arguments are opened: bytes, blocks. -/
import Derived.Test.YtapmmcegdhhinaaDoorCAlive
import Derived.Test.YtapmmcegdhhinaaDoorCards
import Derived.Test.YtapmmcegdhhinaaDoorTie
import Derived.LaidMore
import Derived.Lib.LaidTab
import Derived.Stop.Joined
import Derived.Lay
import Derived.ChangeMaps5
import Derived.SevenTiedAt
import Derived.JoinedCond
import Derived.Laws.BytesArg
import Derived.ProofKit
import Derived.OpenShut
import Derived.ShutString
import Derived.ChangeOld
import Derived.SizedLaws
import Derived.Deep.Slices
import Derived.Deep.Strs
import Derived.Lib.SmallJoins
namespace Go.Proofs.YtapmmcegdhhinaaDoor.K
set_option maxRecDepth 100000
open Go Go.ChangeShapes Go.WideShapes Go.ChangeAt Go.RowKit
set_option linter.unusedVariables false

/-- The names of the listed variables, as the row has them. -/
def vn1 : String := ((Rows.cipherBytesRow.laid.map Prod.fst)[0]?).getD ""
def vn2 : String := ((Rows.cipherBytesRow.laid.map Prod.fst)[1]?).getD ""
theorem gn1 : Tryd.prog.globalNamed vn1 = some 0 := by kernel_rfl
theorem gn2 : Tryd.prog.globalNamed vn2 = some 1 := by kernel_rfl
theorem tn1 : (Tryd.prog.globals[0]?).map (·.type) = some 43 := by kernel_rfl
theorem tn2 : (Tryd.prog.globals[1]?).map (·.type) = some 43 := by kernel_rfl
theorem tabIs_of_vars {P : Program} {W : World} {name : String} {k : IntKind} {zs : List Int} {rest : List (String × DataW Unit)} {g : Nat} {t e : TypeId} {n : Nat} {ps : List MemPlace}
    (hg : P.globalNamed name = some g) (hty : (P.globals[g]?).map (·.type) = some t) (ht : P.underlying t = some (.array n e)) (he : P.underlying e = some (.int k)) (hce : P.cellsOf e = 1) (hct : P.cellsOf t = n)
    (h : DataW.LaidVars P W ((name, Lib.tabData k zs) :: rest) ps) : Lib.TabIs P W name k zs ∧ ∃ q, DataW.LaidVars P W rest q := by
  obtain ⟨g', t', cs, fuel, p, q, hg', ht', hvar, hd, hq, _⟩ := h
  obtain rfl := Option.some.inj (hg.symm.trans hg')
  obtain rfl := Option.some.inj (hty.symm.trans ht')
  constructor
  · unfold Lib.TabIs
    rw [hvar, ← Lib.cells_of_tab ht he hce hct hd]
  · exact ⟨_, hq⟩
theorem laid_eq : Rows.cipherBytesRow.laid = [(vn1, Lib.tabData .u8 ((tBX.take 128).map Int.ofNat)), (vn2, Lib.tabData .u8 ((tBX.drop 128).map Int.ofNat))] := by kernel_rfl
theorem cellsU8 : Tryd.prog.cellsOf 5 = 1 := by kernel_rfl
theorem cells128 : Tryd.prog.cellsOf 43 = 128 := by kernel_rfl
theorem tbx_len : tBX.length = 256 := by kernel_rfl
theorem tab_of_laid {W : World} (h : laidMetH Tryd.prog Rows.cipherBytesRow.laid W) : Tab W := by
  rw [MakeChecks.laidMetH_plain _ _ _ (by kernel_rfl)] at h
  rw [laid_eq] at h
  obtain ⟨ps, hl, _⟩ := h
  obtain ⟨h1, q, hl2⟩ := tabIs_of_vars gn1 tn1 Tryd.underlying43 Tryd.underlying5 cellsU8 cells128 hl
  obtain ⟨h2, _⟩ := tabIs_of_vars gn2 tn2 Tryd.underlying43 Tryd.underlying5 cellsU8 cells128 hl2
  have hl := tbx_len
  refine ⟨fun i hi => ?_, fun i hi => ?_⟩
  · have := h1.cell gn1 i (by rw [List.length_map, List.length_take]; omega)
    rw [this, (bx_is (show i < 256 by omega)).1]
    congr 2
    simp [List.getD, hi, show i < tBX.length by omega]
  · have := h2.cell gn2 i (by rw [List.length_map, List.length_drop]; omega)
    rw [this, (bx_is (show 128 + i < 256 by omega)).1]
    congr 2
    simp [List.getD, show 128 + i < tBX.length by omega]
theorem laidOut : laidOutB Tryd.prog = true := by kernel_rfl
theorem own : ownKnob Tryd.prog.godebug = none := by kernel_rfl
theorem wit_met (os : Os) (args : Array Value) : laidMetH Tryd.prog Rows.cipherBytesRow.laid ((World.laidAll Tryd.prog os Rows.cipherBytesRow.laid).forCall (fun _ _ => 0) ⟨#[], args, []⟩).memory := by
  rw [MakeChecks.laidMetH_plain _ _ _ (by kernel_rfl)]
  exact laidMet_laidAll _ (by kernel_rfl) (by kernel_rfl)
section
variable {H : Type} {enc : TypeId × Value → H} {W : World}

/-- Bytes that came in. -/
structure BIn (W : World) (a : Option Addr) (cap : Nat) (ys : List Nat) : Prop where
  text : TextAt W a ys
  by_ : By ys
  cap_ : ys.length ≤ cap
  most : cap ≤ 9223372036854775807
  nil : a = none → ys.length = 0 ∧ cap = 0
theorem trod_bys {fuel : Nat} {cs : List Value} {x : DataW H × List MemPlace} (h : DataW.trod enc Tryd.prog W 0 (fun _ => true) true fuel 26 cs = some x) :
    ∃ a cap ys, cs = [.slice a ys.length cap] ∧ BIn W a cap ys ∧ ((x.1 = .nil ∧ ys.length = 0) ∨ ∃ els sp, x.1 = .slice els sp ∧ els.length = ys.length) := by
  rcases open_ints Tryd.underlying26 Tryd.underlying5 cellsU8 h with ⟨rfl, rfl⟩ | ⟨a, l, c, zs, rfl, _, hl, hm, hz, rfl, hcell, hwz⟩
  · exact ⟨none, 0, [], rfl, ⟨.inl rfl, fun x hx => by simp at hx, Nat.zero_le _, by omega, fun _ => ⟨rfl, rfl⟩⟩, .inl ⟨rfl, rfl⟩⟩
  · have hz' : zs.length = c := by simpa using hz
    have hlen : ((zs.take l).map Int.toNat).length = l := by simp; omega
    have hb : ∀ z ∈ zs, 0 ≤ z ∧ z ≤ 255 := fun z hz => by have := bounds_u8 (hwz z hz); omega
    refine ⟨some a, c, (zs.take l).map Int.toNat, by rw [hlen], ⟨?_, ?_, by omega, by unfold maxLen at hm; omega, fun e => by cases e⟩, .inr ⟨_, _, rfl, by simp [lits]⟩⟩
    · by_cases h0 : l = 0
      · left; rw [hlen]; exact h0
      · obtain ⟨b, off, spot⟩ := a
        have hc := hcell 0 (by omega)
        have hspot : spot = none := by simpa [Addr.add] using World.cell?_spot hc
        subst hspot
        refine .inr ⟨b, off, rfl, ?_, fun i hi => ?_⟩
        · have := lt_of_cell hc
          simpa [Addr.add] using this
        · rw [hlen] at hi
          have hiz : i < zs.length := by omega
          have := hcell i (by omega)
          rw [addr_plain] at this
          rw [this]
          have hzb := hb _ (List.getElem_mem hiz)
          simp [List.getD, hi, hiz]
          omega
    · intro x hx
      simp only [List.mem_map] at hx
      obtain ⟨z, hz, rfl⟩ := hx
      have := hb z (List.mem_of_mem_take hz)
      omega
theorem open_bys {a : Option Addr} {len cap : Nat} {d : DataW H} {p : List MemPlace} (h : DataW.Trod enc Tryd.prog W 0 (fun _ => true) true 26 (.slice a len cap) d p) : ∃ ys, len = ys.length ∧ BIn W a cap ys := by
  obtain ⟨fuel, hf⟩ := h
  obtain ⟨a', cap', ys, hcs, hb, _⟩ := trod_bys hf
  simp [Value.cells] at hcs
  obtain ⟨rfl, rfl, rfl⟩ := hcs
  exact ⟨ys, rfl, hb⟩
theorem cells16 : Tryd.prog.cellsOf 27 = 16 := by kernel_rfl
theorem open_16 {base : Nat} {v : Value} {d : DataW H} {p : List MemPlace} (hval : Value.okWide Tryd.prog W .any base 27 v) (h : DataW.Trod enc Tryd.prog W 0 (fun _ => true) true 27 v d p) : ∃ f : Nat → Nat, v = .agg (cA f 16) ∧ By16 f := by
  unfold Value.okWide at hval
  rw [Tryd.underlying27] at hval
  obtain ⟨cs, rfl, hs, _⟩ := hval
  rw [cells16] at hs
  obtain ⟨fuel, hf⟩ := h
  obtain ⟨xs, m, rfl, _, _, hx, he⟩ := DataW.trod_array Tryd.underlying27 hf
  have hc : ∀ i, i < 16 → ∃ x : Nat, x < 256 ∧ cs[i]? = some (.int .u8 (x : Int)) := fun i hi => by
    have e := he i hi
    rw [cellsU8, Nat.mul_one, List.getElem?_eq_getElem (show i < xs.length by omega)] at e
    obtain ⟨x, hx1, _, hx2⟩ := DataW.trod_int Tryd.underlying5 e
    have hb := bounds_u8 hx2
    have h1 := congrArg (·[0]?) hx1
    simp [Value.cells, List.getElem?_drop] at h1
    exact ⟨x.toNat, by omega, by rw [h1]; congr 2; omega⟩
  refine ⟨fun i => if h : i < 16 then (hc i h).choose else 0, ?_, fun i hi => ?_⟩
  · congr 1
    apply Array.ext_getElem?
    intro i
    by_cases hi : i < 16
    · rw [cA_at _ hi, dif_pos hi]
      exact (hc i hi).choose_spec.2
    · rw [Array.getElem?_eq_none (by omega), Array.getElem?_eq_none (by rw [cA_size]; omega)]
  · show (if h : i < 16 then (hc i h).choose else 0) < 256
    rw [dif_pos hi]
    exact (hc i hi).choose_spec.1
end
/-- A law's call that answers true and writes nothing that was there. -/
def Yes (w : World) (e : Ending) (w' : World) : Prop := e = .returned (.bool true) ∧ Below w.heap.size w w'
end Go.Proofs.YtapmmcegdhhinaaDoor.K
