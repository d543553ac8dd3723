/- PROVED: how the laws' arguments are opened: bytes as a list of numbers below 256, where they lie; what stays readable where older blocks are kept. -/
import Derived.Test.YtgdhdaaeklfkgaaDoorAlive
import Derived.ProofKit
import Derived.OpenShut
import Derived.ChangeOld
import Derived.SizedLaws
import Derived.Deep.Slices
import Derived.Lib.SmallJoins
namespace Go.Proofs.YtgdhdaaeklfkgaaDoor
open Go.ChangeShapes Go.WideShapes Go.ChangeAt Go.RowKit

theorem own : ownKnob Tryd.prog.godebug = none := by kernel_rfl
theorem laidOut : laidOutB Tryd.prog = true := by kernel_rfl
theorem bytes5 : Tryd.prog.bytesOf 5 = 1 := by kernel_rfl
theorem cells5 : Tryd.prog.cellsOf 5 = 1 := by kernel_rfl

theorem lt_of_cell {w : World} {p : Addr} {v : Value} (h : w.cell? p = some v) : p.block < w.heap.size := by
  unfold World.cell? at h
  rcases Nat.lt_or_ge p.block w.heap.size with h' | h'
  · exact h'
  · rw [Array.getElem?_eq_none h'] at h; simp at h
theorem bytes_keep {w w' : World} {B : Nat} (h : Below B w w') {v : Value} {xs : List Nat} (hv : BytesAt w v xs) (hB : w.heap.size ≤ B) : BytesAt w' v xs := by
  rcases hv with hv | ⟨b, o, c, rfl, hc⟩
  · exact Or.inl hv
  · rcases Nat.eq_zero_or_pos xs.length with h0 | h0
    · have hxs := List.eq_nil_of_length_eq_zero h0
      subst hxs
      exact Or.inl ⟨rfl, _, c, rfl⟩
    · have hlt := lt_of_cell (hc 0 h0)
      exact Or.inr ⟨b, o, c, rfl, fun i hi => by
        rw [World.cell?_of_block (w := w) (h.block b (Nat.lt_of_lt_of_le hlt hB))]; exact hc i hi⟩

/-- What Make answers, and what is kept. -/
theorem make_b (w : World) :
    Calls Tryd.prog 5 #[] w fun e w' => e = .returned (.agg (tabA 256)) ∧ Below w.heap.size w w' :=
  (make_c w).mono fun e w' ⟨he, hw⟩ => ⟨he, by rw [hw]; exact ((Below.refl _ w).alloc (Nat.le_refl _) _).alloc (by simp) _⟩
theorem zeroA : ∀ w, (zeroValue 25).run Tryd.prog w = .ok (.agg (tabA 0)) w := by
  have hz := zeroT.1
  rw [← tabA_zero] at hz
  exact hz
theorem infoT : (Tryd.prog.info? 25).map (·.size) = some (tabA 256).size := by rw [tabA_size]; exact zeroT.2
theorem tab_new (w : World) (t : TypeId) : TabIn (w.alloc (.cells (tabA 256) t)) w.heap.size := tabIn_of (heap_new _ _)
theorem mem_of_map {zs : List Int} (h : ∀ z ∈ zs, 0 ≤ z ∧ z ≤ 255) : ∀ x ∈ zs.map Int.toNat, x < 256 := by
  intro x hx
  obtain ⟨z, hz, rfl⟩ := List.mem_map.1 hx
  have := h z hz
  omega

section
variable {H : Type} {enc : TypeId × Value → H} {W : World}
theorem trod_text {fuel : Nat} {cs : List Value} {x : DataW H × List MemPlace} (h : DataW.trod enc Tryd.prog W 0 (fun _ => true) true fuel 22 cs = some x) :
    ∃ a len cap xs, cs = [.slice a len cap] ∧ BytesAt W (.slice a len cap) xs ∧ xs.length = len ∧ (∀ x ∈ xs, x < 256) ∧ len ≤ cap ∧ cap ≤ maxLen ∧ (0 < cap → ∃ b o, a = some ⟨b, o, none⟩) ∧ ((x.1 = .nil ∧ len = 0) ∨ ∃ els sp, x.1 = .slice els sp ∧ els.length = len) := by
  rcases open_ints Tryd.underlying22 Tryd.underlying5 cells5 h with ⟨rfl, rfl⟩ | ⟨a, l, c, zs, rfl, _, hl, hm, hz, rfl, hcell, hwz⟩
  · exact ⟨none, 0, 0, [], rfl, Or.inl ⟨rfl, none, 0, rfl⟩, rfl, by simp, by omega, by unfold maxLen; omega, fun h => absurd h (by omega), .inl ⟨rfl, rfl⟩⟩
  · have hz' : zs.length = c := by simpa using hz
    have hsp : 0 < c → ∃ b o, a = ⟨b, o, none⟩ := fun h0 => by
      obtain ⟨b, off, spot⟩ := a
      have hc := hcell 0 (by omega)
      have hspot : spot = none := by simpa [Addr.add] using World.cell?_spot hc
      subst hspot
      exact ⟨b, off, rfl⟩
    refine ⟨some a, l, c, (zs.take l).map Int.toNat, rfl, ?_, by simp; omega, mem_of_map fun z hz => bounds_u8 (hwz _ (List.mem_of_mem_take hz)), by omega, by omega, ?_, .inr ⟨_, _, rfl, by simp [lits]; omega⟩⟩
    · by_cases h0 : l = 0
      · subst h0
        exact Or.inl ⟨by simp, some a, c, rfl⟩
      · obtain ⟨b, off, spot⟩ := a
        have hc := hcell 0 (by omega)
        have hspot : spot = none := by simpa [Addr.add] using World.cell?_spot hc
        subst hspot
        refine Or.inr ⟨b, off, c, by simp [Nat.min_eq_left (show l ≤ zs.length by omega)], fun i hi => ?_⟩
        have hi' : i < l := by simp at hi; omega
        have := hcell i (by omega)
        have e : ((⟨b, off, none⟩ : Addr).add i) = ⟨b, off + i, none⟩ := by unfold Addr.add; split <;> simp_all
        rw [e] at this
        rw [this]
        have hlt : i < zs.length := by omega
        have hb := bounds_u8 (hwz zs[i] (List.getElem_mem hlt))
        simp [List.getD, hi', hlt]
        omega
    · intro h0
      obtain ⟨b, o, rfl⟩ := hsp h0
      exact ⟨b, o, rfl⟩

theorem open_text {ts : List TypeId} {ds : List (DataW H)} {j : Nat} {a : Option Addr} {len cap : Nat} {d : DataW H} {p : List MemPlace} (hsz : (DataW.weightsEach Tryd.prog ts ds).all (· ≤ reachBytes) = true) (ht : ts[j]? = some 22) (hd : ds[j]? = some d)
    (h : DataW.Trod enc Tryd.prog W 0 (fun _ => true) true 22 (.slice a len cap) d p) : ∃ xs, BytesAt W (.slice a len cap) xs ∧ xs.length = len ∧ (∀ x ∈ xs, x < 256) ∧ len ≤ cap ∧ cap ≤ maxLen ∧ (0 < cap → ∃ b o, a = some ⟨b, o, none⟩) ∧ len ≤ 140737488351232 := by
  obtain ⟨fuel, hf⟩ := h
  obtain ⟨a', len', cap', zs, hcs, htx, h1, h2, h3, h4, h5, hx⟩ := trod_text hf
  simp [Value.cells] at hcs
  obtain ⟨rfl, rfl, rfl⟩ := hcs
  refine ⟨zs, htx, h1, h2, h3, h4, h5, ?_⟩
  rcases hx with ⟨_, h0⟩ | ⟨els, sp, hx, hl⟩
  · omega
  · simp only at hx
    subst hx
    have := sized_slice hsz ht hd Tryd.underlying22
    rw [bytes5] at this
    simp only [reachBytes] at this
    omega
end
end Go.Proofs.YtgdhdaaeklfkgaaDoor
