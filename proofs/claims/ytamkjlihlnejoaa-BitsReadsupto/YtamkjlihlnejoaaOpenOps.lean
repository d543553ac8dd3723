/- How a slice of calls that came in is opened. -/
import Derived.Test.YtamkjlihlnejoaaTell
namespace Go.Proofs.Ytamkjlihlnejoaa
open Go.ChangeShapes Go.WideShapes Go.ChangeAt Go.RowKit

section
variable {H : Type} {enc : TypeId × Value → H} {W : World}

theorem trod_nil {fuel : Nat} {cap len : Nat} {x : DataW H × List MemPlace} (h : DataW.trod enc Try.prog W 0 (fun _ => true) true fuel 22 [.slice none len cap] = some x) : len = 0 ∧ cap = 0 := by
  rcases open_ints Try.underlying22 Try.underlying5 Try.cells5 h with ⟨hcs, _⟩ | ⟨a, l, c, zs, hcs, _⟩
  · simp at hcs; exact hcs
  · simp at hcs

theorem addr_plain (b off i : Nat) : ((⟨b, off, none⟩ : Addr).add i) = ⟨b, off + i, none⟩ := by unfold Addr.add; split <;> simp_all

theorem open_op {fuel b o : Nat} {cs : List Value} {x : DataW H × List MemPlace} (hc : W.cells? 0 ⟨b, o, none⟩ 4 = some cs) (h : DataW.trod enc Try.prog W 0 (fun _ => true) true fuel 32 cs = some x) : ∃ d, OpAt W.heap.size W b o d := by
  obtain ⟨_, hl, hcell⟩ := World.cells?_some hc
  obtain ⟨y0, y1, y2, y3, n, _, _, h0, h1, h2, h3⟩ := Joins.trod_struct4 Try.underlying32 h
  match cs, hl with
  | [c0, c1, c2, c3], _ =>
    simp only [Try.cells3, Try.cells22] at h0 h1 h2 h3
    obtain ⟨k, e0, _, _⟩ := DataW.trod_int Try.underlying3 h0
    obtain ⟨v, e1, _, _⟩ := DataW.trod_int Try.underlying3 h1
    obtain ⟨m, e2, _, _⟩ := DataW.trod_int Try.underlying3 h2
    have h3' := h3
    obtain ⟨a, len, cap, zs, e3, htx, hml, _⟩ := trod_text h3
    simp at e0 e1 e2 e3
    subst e0 e1 e2 e3
    have q0 := hcell 0 (by omega)
    have q1 := hcell 1 (by omega)
    have q2 := hcell 2 (by omega)
    have q3 := hcell 3 (by omega)
    rw [addr_plain] at q0 q1 q2 q3
    refine ⟨⟨k, v, m, a, len, cap, zs⟩, ⟨by simpa using q0, by simpa using q1, by simpa using q2, by simpa using q3, htx, ?_, hml⟩⟩
    intro ha
    simp only at ha
    subst ha
    simp at h3'
    exact trod_nil h3'

theorem open_ops {a : Option Addr} {len cap : Nat} {d : DataW H} {p : List MemPlace} (h : DataW.Trod enc Try.prog W 0 (fun _ => true) true 23 (.slice a len cap) d p) : ∃ os, Ops W.heap.size W a len os := by
  obtain ⟨fuel, hf⟩ := h
  rcases Deep.open_slice Try.underlying23 hf with ⟨hcs, _⟩ | ⟨ad, l, c, m, n, D, Pl, hcs, _, hl, hm, hmm, _, hall⟩
  · simp [Value.cells] at hcs
    obtain ⟨rfl, rfl, rfl⟩ := hcs
    exact ⟨fun _ => noOp, by unfold maxLen; omega, .inl rfl⟩
  · simp [Value.cells] at hcs
    obtain ⟨rfl, rfl, rfl⟩ := hcs
    have hmc : m = cap := by simpa using hmm
    subst hmc
    by_cases h0 : len = 0
    · exact ⟨fun _ => noOp, by omega, .inl h0⟩
    · obtain ⟨b, off, spot⟩ := ad
      rw [Try.cells32] at hall
      obtain ⟨cs0, hc0, _⟩ := hall 0 (by omega)
      obtain ⟨_, hl0, hcell0⟩ := World.cells?_some hc0
      have q0 := hcell0 0 (by omega)
      have hspot : spot = none := by
        match cs0, hl0 with
        | [c0, c1, c2, c3], _ =>
          have q1 : W.cell? ((⟨b, off, spot⟩ : Addr).add (0 * 4) |>.add 0) = some c0 := by simpa using q0
          simpa [Addr.add] using World.cell?_spot q1
      subst hspot
      have hb : b < W.heap.size := by
        match cs0, hl0 with
        | [c0, c1, c2, c3], _ =>
          have q1 : W.cell? ((⟨b, off, none⟩ : Addr).add (0 * 4) |>.add 0) = some c0 := by simpa using q0
          have := lt_of_cell q1
          simpa [Addr.add] using this
      have : Inhabited OpD := ⟨noOp⟩
      obtain ⟨os, hos⟩ := Deep.choose_lt (n := len) (p := fun i d => OpAt W.heap.size W b (off + i * 4) d) (fun i hi => by
        obtain ⟨cs, hc, ht⟩ := hall i (by omega)
        rw [addr_plain] at hc
        exact open_op hc ht)
      exact ⟨os, by omega, .inr ⟨b, off, hb, rfl, hos⟩⟩
end
end Go.Proofs.Ytamkjlihlnejoaa
