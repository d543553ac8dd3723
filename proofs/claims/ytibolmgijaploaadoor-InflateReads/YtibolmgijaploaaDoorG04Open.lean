/- Several texts, laid together: Data, Open. -/
import Derived.Test.YtibolmgijaploaaDoorG03Write
import Derived.Laws.CopyOwn
import Derived.Laws.BytesArg
import Derived.Deep.DeepMust
import Derived.ProofKit
import Derived.OpenShut
import Derived.ShutString
import Derived.ChangeOld
import Derived.SizedLaws
import Derived.Deep.Slices
import Derived.Lib.SmallJoins
/- The writer's Data: the bytes, in a row of its own. -/
namespace Go.Proofs.YtibolmgijaploaaDoor
set_option maxRecDepth 100000
open Go.RowKit

/-- The bytes of a writer: those that are whole, and what waits. -/
def dataOf (bs : List Int) (t : Int) (m : Nat) : List Int := if 0 < m then bs ++ [t] else bs

theorem made_bytes (n : Nat) (i : TypeInfo) (hi : Tryd.prog.info? 5 = some i) (hz : i.zero = some (.int .u8 0)) (hs : i.size = 1) (hb : i.bytes = 1) (hn : n ≤ 1000000000000) (W : World) :
    (Instr.makeSlice 22 (.int .i64 (n : Int)) (.int .i64 ((n : Int) + 1))).run Tryd.prog W = .ok (.slice (some ⟨W.heap.size, 0, none⟩) n (n + 1)) (W.alloc (.cells (List.replicate (n + 1) (Value.int .u8 0)).toArray 5)) := by
  have := run_make (P := Tryd.prog) W 22 5 i (.int .u8 0) Tryd.underlying22 hi hz .i64 .i64 n (n + 1) (by omega) (by omega) (by rw [hb]; omega) (by omega)
  rw [this, hs]
  have e1 : ((n : Int) + 1).toNat = n + 1 := by omega
  have e2 : madeCells (Value.int .u8 0).cells (n + 1) = (List.replicate (n + 1) (Value.int .u8 0)).toArray := by
    have := toList_madeCells_one (Value.int .u8 0) (n + 1)
    rw [← Array.toList_inj]
    simpa [Value.cells] using this
  rw [e1, Nat.mul_one, e2]
  simp

theorem own_splice {B g n : Nat} {w : World} {ZS CS : List Value} (h : w.heap[g]? = some (.cells (splice ZS 0 CS).toArray 5 (0, 0))) (hB : B ≤ g) (hn : n ≤ 1000000000) (hc : CS.length = n) (hz : ZS.length = n + 1) : w.ownsRow B 5 1 (.slice (some ⟨g, 0, none⟩) n (n + 1)) n CS := by
  refine ⟨by omega, .inr ⟨g, n + 1, _, rfl, hB, h, by omega, by unfold maxLen; omega, ?_, ?_⟩⟩
  · simp [splice]; omega
  · simp [splice]
    rw [List.take_append_of_le_length (by omega), List.take_of_length_le (by omega)]

end Go.Proofs.YtibolmgijaploaaDoor

/- How the arguments of the laws are opened: bytes, and calls of a reader or a writer. -/
namespace Go.Proofs.YtibolmgijaploaaDoor
set_option maxRecDepth 100000
open Go.ChangeShapes Go.WideShapes Go.ChangeAt Go.RowKit

theorem own : ownKnob Tryd.prog.godebug = none := by kernel_rfl
theorem laidOut : laidOutB Tryd.prog = true := by kernel_rfl
theorem Tryd.bytes5 : Tryd.prog.bytesOf 5 = 1 := by kernel_rfl
theorem Tryd.cells5 : Tryd.prog.cellsOf 5 = 1 := by kernel_rfl
theorem Tryd.cells3 : Tryd.prog.cellsOf 3 = 1 := by kernel_rfl
theorem Tryd.cells22 : Tryd.prog.cellsOf 22 = 1 := by kernel_rfl
section
variable {H : Type} {enc : TypeId × Value → H} {W : World}


theorem trod_text {fuel : Nat} {cs : List Value} {x : DataW H × List MemPlace} (h : DataW.trod enc Tryd.prog W 0 (fun _ => true) true fuel 22 cs = some x) :
    ∃ a len cap zs, cs = [.slice a len cap] ∧ Text W.heap.size W a len zs ∧ len ≤ maxLen ∧ ((x.1 = .nil ∧ len = 0) ∨ ∃ els sp, x.1 = .slice els sp ∧ els.length = len) := by
  rcases open_ints Tryd.underlying22 Tryd.underlying5 Tryd.cells5 h with ⟨rfl, rfl⟩ | ⟨a, l, c, zs, rfl, _, hl, hm, hz, rfl, hcell, hwz⟩
  · exact ⟨none, 0, 0, [], rfl, ⟨rfl, by intro i; simp, .inl rfl⟩, by unfold maxLen; omega, .inl ⟨rfl, rfl⟩⟩
  · have hz' : zs.length = c := by simpa using hz
    refine ⟨some a, l, c, zs.take l, rfl, ⟨by simp; omega, ?_, ?_⟩, by omega, .inr ⟨_, _, rfl, by simp [lits]; omega⟩⟩
    · intro i
      by_cases hi : i < (zs.take l).length
      · have hm := List.getElem_mem hi
        have hw := bounds_u8 (hwz _ (List.mem_of_mem_take hm))
        simp only [List.getD, List.getElem?_eq_getElem hi, Option.getD_some]
        omega
      · simp [List.getD, List.getElem?_eq_none (show (zs.take l).length ≤ i by omega)]
    · by_cases h0 : l = 0
      · exact .inl h0
      · obtain ⟨b, off, spot⟩ := a
        have hc := hcell 0 (by omega)
        have hspot : spot = none := by simpa [Addr.add] using World.cell?_spot hc
        subst hspot
        refine .inr ⟨b, off, ?_, rfl, fun i hi => ?_⟩
        · have := lt_of_cell hc
          simpa [Addr.add] using this
        · have := hcell i (by omega)
          have e : ((⟨b, off, none⟩ : Addr).add i) = ⟨b, off + i, none⟩ := by unfold Addr.add; split <;> simp_all
          rw [e] at this
          rw [this]
          simp [List.getD, hi]

theorem open_text {ts : List TypeId} {ds : List (DataW H)} {j : Nat} {a : Option Addr} {len cap : Nat} {d : DataW H} {p : List MemPlace} (hsz : (DataW.weightsEach Tryd.prog ts ds).all (· ≤ reachBytes) = true) (ht : ts[j]? = some 22) (hd : ds[j]? = some d)
    (h : DataW.Trod enc Tryd.prog W 0 (fun _ => true) true 22 (.slice a len cap) d p) : ∃ zs, Text W.heap.size W a len zs ∧ len ≤ 140737488351232 := by
  obtain ⟨fuel, hf⟩ := h
  obtain ⟨a', len', cap', zs, hcs, htx, _, hx⟩ := trod_text hf
  simp [Value.cells] at hcs
  obtain ⟨rfl, rfl, rfl⟩ := hcs
  refine ⟨zs, htx, ?_⟩
  rcases hx with ⟨_, h0⟩ | ⟨els, sp, hx, hl⟩
  · omega
  · simp only at hx
    subst hx
    have := sized_slice hsz ht hd Tryd.underlying22
    rw [Tryd.bytes5] at this
    simp only [reachBytes] at this
    omega
end
end Go.Proofs.YtibolmgijaploaaDoor
