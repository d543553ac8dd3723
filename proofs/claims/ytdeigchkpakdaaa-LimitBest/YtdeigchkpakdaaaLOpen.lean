/- How the laws' arguments are opened: rows of numbers. -/
import Derived.Test.YtdeigchkpakdaaaLAlive
import Derived.ProofKit
import Derived.OpenShut
import Derived.ShutString
import Derived.ChangeOld
import Derived.SizedLaws
import Derived.Deep.Slices
import Derived.Lib.SmallJoins
namespace Go.Proofs.Ytdeigchkpakdaaa
open Go.ChangeShapes Go.WideShapes Go.ChangeAt Go.RowKit

theorem own : ownKnob Try.prog.godebug = none := by kernel_rfl
theorem laidOut : laidOutB Try.prog = true := by kernel_rfl
theorem Try.bytes3 : Try.prog.bytesOf 3 = 8 := by kernel_rfl
theorem Try.cells3 : Try.prog.cellsOf 3 = 1 := by kernel_rfl

section
variable {H : Type} {enc : TypeId × Value → H} {W : World}

theorem trod_ints {fuel : Nat} {cs : List Value} {x : DataW H × List MemPlace} (h : DataW.trod enc Try.prog W 0 (fun _ => true) true fuel 22 cs = some x) :
    ∃ a cap ls, cs = [.slice a ls.length cap] ∧ Ints 0 W.heap.size W a ls ∧ (a = none → ls.length = 0 ∧ cap = 0) ∧ ((x.1 = .nil ∧ ls.length = 0) ∨ ∃ els sp, x.1 = .slice els sp ∧ els.length = ls.length) := by
  rcases open_ints Try.underlying22 Try.underlying3 Try.cells3 h with ⟨rfl, rfl⟩ | ⟨a, l, c, zs, rfl, _, hl, hm, hz, rfl, hcell, hwz⟩
  · exact ⟨none, 0, [], rfl, .inl rfl, fun _ => ⟨rfl, rfl⟩, .inl ⟨rfl, rfl⟩⟩
  · have hz' : zs.length = c := by simpa using hz
    have hlen : (zs.take l).length = l := by simp; omega
    refine ⟨some a, c, zs.take l, by rw [hlen], ?_, fun h => by simp at h, .inr ⟨_, _, rfl, by simp [lits]⟩⟩
    by_cases h0 : l = 0
    · left; rw [hlen]; exact h0
    · obtain ⟨b, off, spot⟩ := a
      have hc := hcell 0 (by omega)
      have hspot : spot = none := by simpa [Addr.add] using World.cell?_spot hc
      subst hspot
      have hb : b < W.heap.size := by have := lt_of_cell hc; simpa [Addr.add] using this
      refine .inr ⟨b, off, by omega, hb, hb, rfl, fun i hi => ?_⟩
      rw [hlen] at hi
      have := hcell i (by omega)
      have e : ((⟨b, off, none⟩ : Addr).add i) = ⟨b, off + i, none⟩ := by unfold Addr.add; split <;> simp_all
      rw [e] at this
      rw [this]
      simp [ln, List.getD, hi]

theorem open_list {ts : List TypeId} {ds : List (DataW H)} {j : Nat} {a : Option Addr} {len cap : Nat} {d : DataW H} {p : List MemPlace} (hsz : (DataW.weightsEach Try.prog ts ds).all (· ≤ reachBytes) = true) (ht : ts[j]? = some 22) (hd : ds[j]? = some d)
    (h : DataW.Trod enc Try.prog W 0 (fun _ => true) true 22 (.slice a len cap) d p) : ∃ ls : List Int, len = ls.length ∧ Ints 0 W.heap.size W a ls ∧ (a = none → ls.length = 0 ∧ cap = 0) ∧ ls.length ≤ 17592186043904 := by
  obtain ⟨fuel, hf⟩ := h
  obtain ⟨a', cap', ls, hcs, hi, hn, hx⟩ := trod_ints hf
  simp [Value.cells] at hcs
  obtain ⟨rfl, rfl, rfl⟩ := hcs
  refine ⟨ls, rfl, hi, hn, ?_⟩
  rcases hx with ⟨_, h0⟩ | ⟨els, sp, hx, hl⟩
  · omega
  · simp only at hx
    subst hx
    have := sized_slice hsz ht hd Try.underlying22
    rw [Try.bytes3] at this
    simp only [reachBytes] at this
    omega
end
end Go.Proofs.Ytdeigchkpakdaaa
