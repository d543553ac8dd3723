/- How an argument Ask is opened. -/
import Derived.Test.YtgafejgmjenfaaaHOpen
namespace Go.Proofs.Ytgafejgmjenfaaa.S
set_option maxRecDepth 100000
open Go.ChangeShapes Go.WideShapes Go.ChangeAt Go.RowKit

theorem cellsI : Try.prog.cellsOf 3 = 1 := by kernel_rfl
theorem cellsAsk : Try.prog.cellsOf 28 = 2 := by kernel_rfl
theorem open_ask {H : Type} {enc : TypeId × Value → H} {W : World} {cs : Array Value} {d : DataW H} {p : List MemPlace} (h : DataW.Trod enc Try.prog W 0 (fun _ => true) true 28 (.agg cs) d p) : ∃ r l : Int, cs = #[.int .i64 r, .int .i64 l] := by
  obtain ⟨fuel, hf⟩ := h
  obtain ⟨y0, y1, n, _, hl, h0, h1⟩ := trod_struct2 Try.underlying28 hf
  simp only [Value.cells] at hl h0 h1
  rw [cellsAsk] at hl
  simp only [cellsI] at h0 h1
  obtain ⟨v, e0, _, _⟩ := DataW.trod_int Try.underlying3 h0
  obtain ⟨m, e1, _, _⟩ := DataW.trod_int Try.underlying3 h1
  obtain ⟨l⟩ := cs
  match l, hl with
  | [c0, c1], _ =>
    simp at e0 e1
    subst e0 e1
    exact ⟨v, m, rfl⟩
end Go.Proofs.Ytgafejgmjenfaaa.S
