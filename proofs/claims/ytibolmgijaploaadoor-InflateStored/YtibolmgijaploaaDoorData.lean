/- The writer's Data: the bytes, in a row of its own. -/
import Derived.Test.YtibolmgijaploaaDoorWrite
import Derived.Laws.CopyOwn
import Derived.Laws.BytesArg
import Derived.Deep.DeepMust
namespace Go.Proofs.YtibolmgijaploaaDoor
open Go.RowKit

/-- The bytes of a writer: those that are whole, and what waits. -/
def dataOf (bs : List Int) (t : Int) (m : Nat) : List Int := if 0 < m then bs ++ [t] else bs

theorem made_bytes (n : Nat) (i : TypeInfo) (hi : Tryd.prog.info? 5 = some i) (hz : i.zero = some (.int .u8 0)) (hs : i.size = 1) (hb : i.bytes = 1) (hn : n ≤ 1000000000000) (W : World) :
    (Instr.makeSlice 22 (.int .i64 (n : Int)) (.int .i64 ((n : Int) + 1))).run Tryd.prog W = .ok (.slice (some ⟨W.heap.size, 0, none⟩) n (n + 1)) (W.alloc (.cells (List.replicate (n + 1) (Value.int .u8 0)).toArray 5)) := by
  have := run_make (P := Tryd.prog) W 22 5 i (.int .u8 0) Tryd.underlying22 hi hz .i64 .i64 n (n + 1) (by omega) (by omega) (by rw [hb]; omega) (by omega)
  rw [this, hs]
  have e1 : ((n : Int) + 1).toNat = n + 1 := by omega
  have e2 : madeCells (Value.int .u8 0).cells (n + 1) = (List.replicate (n + 1) (Value.int .u8 0)).toArray := by
    have := toList_madeCells_one (Value.int .u8 0) (n + 1)
    rw [← Array.toList_inj]
    simpa [Value.cells] using this
  rw [e1, Nat.mul_one, e2]
  simp

theorem own_splice {B g n : Nat} {w : World} {ZS CS : List Value} (h : w.heap[g]? = some (.cells (splice ZS 0 CS).toArray 5 (0, 0))) (hB : B ≤ g) (hn : n ≤ 1000000000) (hc : CS.length = n) (hz : ZS.length = n + 1) : w.ownsRow B 5 1 (.slice (some ⟨g, 0, none⟩) n (n + 1)) n CS := by
  refine ⟨by omega, .inr ⟨g, n + 1, _, rfl, hB, h, by omega, by unfold maxLen; omega, ?_, ?_⟩⟩
  · simp [splice]; omega
  · simp [splice]
    rw [List.take_append_of_le_length (by omega), List.take_of_length_le (by omega)]

end Go.Proofs.YtibolmgijaploaaDoor
