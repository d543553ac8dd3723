/- How the laws' arguments are opened: bytes, rows of bytes. -/
import Derived.Test.YtlbigbljioffjaaSRef
import Derived.Test.YtlbigbljioffjaaSAbc
import Derived.ProofKit
import Derived.OpenShut
import Derived.ShutString
import Derived.ChangeOld
import Derived.SizedLaws
import Derived.Deep.Slices
import Derived.Deep.Strs
import Derived.Lib.SmallJoins
namespace Go.Proofs.Ytlbigbljioffjaa.S
set_option maxRecDepth 100000
open Go.ChangeShapes Go.WideShapes Go.ChangeAt Go.RowKit

theorem own : ownKnob Try.prog.godebug = none := by kernel_rfl
theorem laidOut : laidOutB Try.prog = true := by kernel_rfl
theorem bytesU8 : Try.prog.bytesOf 5 = 1 := by kernel_rfl
theorem cellsU8 : Try.prog.cellsOf 5 = 1 := by kernel_rfl
theorem cellsTB : Try.prog.cellsOf 22 = 1 := by kernel_rfl

section
variable {H : Type} {enc : TypeId × Value → H} {W : World}

/-- Bytes that came in. -/
structure BIn (W : World) (a : Option Addr) (cap : Nat) (ys : List Nat) : Prop where
  text : TextAt W a ys
  by_ : By ys
  cap_ : ys.length ≤ cap
  most : cap ≤ 9223372036854775807
  nil : a = none → ys.length = 0 ∧ cap = 0
theorem trod_bys {fuel : Nat} {cs : List Value} {x : DataW H × List MemPlace} (h : DataW.trod enc Try.prog W 0 (fun _ => true) true fuel 22 cs = some x) :
    ∃ a cap ys, cs = [.slice a ys.length cap] ∧ BIn W a cap ys ∧ ((x.1 = .nil ∧ ys.length = 0) ∨ ∃ els sp, x.1 = .slice els sp ∧ els.length = ys.length) := by
  rcases open_ints Try.underlying22 Try.underlying5 cellsU8 h with ⟨rfl, rfl⟩ | ⟨a, l, c, zs, rfl, _, hl, hm, hz, rfl, hcell, hwz⟩
  · exact ⟨none, 0, [], rfl, ⟨.inl rfl, fun x hx => by simp at hx, Nat.zero_le _, by omega, fun _ => ⟨rfl, rfl⟩⟩, .inl ⟨rfl, rfl⟩⟩
  · have hz' : zs.length = c := by simpa using hz
    have hlen : ((zs.take l).map Int.toNat).length = l := by simp; omega
    have hb : ∀ z ∈ zs, 0 ≤ z ∧ z ≤ 255 := fun z hz => by have := bounds_u8 (hwz z hz); omega
    refine ⟨some a, c, (zs.take l).map Int.toNat, by rw [hlen], ⟨?_, ?_, by omega, by unfold maxLen at hm; omega, fun e => by cases e⟩, .inr ⟨_, _, rfl, by simp [lits]⟩⟩
    · by_cases h0 : l = 0
      · left; rw [hlen]; exact h0
      · obtain ⟨b, off, spot⟩ := a
        have hc := hcell 0 (by omega)
        have hspot : spot = none := by simpa [Addr.add] using World.cell?_spot hc
        subst hspot
        refine .inr ⟨b, off, rfl, ?_, fun i hi => ?_⟩
        · have := lt_of_cell hc
          simpa [Addr.add] using this
        · rw [hlen] at hi
          have hiz : i < zs.length := by omega
          have := hcell i (by omega)
          rw [addr_plain] at this
          rw [this]
          have hzb := hb _ (List.getElem_mem hiz)
          simp [List.getD, hi, hiz]
          omega
    · intro x hx
      simp only [List.mem_map] at hx
      obtain ⟨z, hz, rfl⟩ := hx
      have := hb z (List.mem_of_mem_take hz)
      omega
theorem open_bys {a : Option Addr} {len cap : Nat} {d : DataW H} {p : List MemPlace} (h : DataW.Trod enc Try.prog W 0 (fun _ => true) true 22 (.slice a len cap) d p) : ∃ ys, len = ys.length ∧ BIn W a cap ys := by
  obtain ⟨fuel, hf⟩ := h
  obtain ⟨a', cap', ys, hcs, hb, _⟩ := trod_bys hf
  simp [Value.cells] at hcs
  obtain ⟨rfl, rfl, rfl⟩ := hcs
  exact ⟨ys, rfl, hb⟩
theorem len_bys {ts : List TypeId} {ds : List (DataW H)} {j : Nat} {a : Option Addr} {len cap : Nat} {d : DataW H} {p : List MemPlace} (hsz : (DataW.weightsEach Try.prog ts ds).all (· ≤ reachBytes) = true) (ht : ts[j]? = some 22) (hd : ds[j]? = some d)
    (h : DataW.Trod enc Try.prog W 0 (fun _ => true) true 22 (.slice a len cap) d p) : len ≤ 140737488351232 := by
  obtain ⟨fuel, hf⟩ := h
  obtain ⟨a', cap', ys, hcs, hb, hx⟩ := trod_bys hf
  simp [Value.cells] at hcs
  obtain ⟨rfl, rfl, rfl⟩ := hcs
  rcases hx with ⟨_, h0⟩ | ⟨els, sp, hx, hl⟩
  · omega
  · simp only at hx
    subst hx
    have := sized_slice hsz ht hd Try.underlying22
    rw [bytesU8] at this
    simp only [reachBytes] at this
    omega

/-- Rows of bytes that came in: for each its address, its room, its bytes. -/
def RowsIn (W : World) (a : Option Addr) (rs : List (Option Addr × Nat × List Nat)) : Prop :=
  rs.length = 0 ∨ ∃ b off, b < W.heap.size ∧ a = some ⟨b, off, none⟩ ∧ ∀ i r, rs[i]? = some r → W.cell? ⟨b, off + i, none⟩ = some (.slice r.1 r.2.2.length r.2.1) ∧ BIn W r.1 r.2.1 r.2.2
theorem open_rows {a : Option Addr} {len cap : Nat} {d : DataW H} {p : List MemPlace} (h : DataW.Trod enc Try.prog W 0 (fun _ => true) true 27 (.slice a len cap) d p) : ∃ rs, len = rs.length ∧ RowsIn W a rs := by
  obtain ⟨fuel, hf⟩ := h
  rcases Deep.open_slice Try.underlying27 hf with ⟨hcs, _⟩ | ⟨ad, l, c, m, n, D, Pl, hcs, _, hl, hm, hmm, _, hall⟩
  · simp [Value.cells] at hcs
    obtain ⟨rfl, rfl, rfl⟩ := hcs
    exact ⟨[], rfl, .inl rfl⟩
  · simp [Value.cells] at hcs
    obtain ⟨rfl, rfl, rfl⟩ := hcs
    have hmc : m = cap := by simpa using hmm
    subst hmc
    by_cases h0 : len = 0
    · exact ⟨[], h0, .inl rfl⟩
    · obtain ⟨b, off, spot⟩ := ad
      rw [cellsTB] at hall
      have one0 : ∀ i, i < len → ∃ r : Option Addr × Nat × List Nat, W.cell? (((⟨b, off, spot⟩ : Addr).add (i * 1)).add 0) = some (.slice r.1 r.2.2.length r.2.1) ∧ BIn W r.1 r.2.1 r.2.2 := fun i hi => by
        obtain ⟨cs, hc, ht⟩ := hall i (by omega)
        obtain ⟨a', cap', ys, rfl, hb, _⟩ := trod_bys ht
        obtain ⟨_, _, hcell⟩ := World.cells?_some hc
        have q0 := hcell 0 (by simp)
        exact ⟨(a', cap', ys), by simpa using q0, hb⟩
      obtain ⟨r0, hr0, _⟩ := one0 0 (by omega)
      have hspot : spot = none := by simpa [Addr.add] using World.cell?_spot hr0
      subst hspot
      have hb : b < W.heap.size := by
        have := lt_of_cell hr0
        simpa [Addr.add] using this
      have one : ∀ i, i < len → ∃ r : Option Addr × Nat × List Nat, W.cell? ((⟨b, off, none⟩ : Addr).add (i * 1)) = some (.slice r.1 r.2.2.length r.2.1) ∧ BIn W r.1 r.2.1 r.2.2 := fun i hi => by
        obtain ⟨r, h1, h2⟩ := one0 i hi
        rw [addr_plain, addr_plain, Nat.add_zero] at h1
        rw [addr_plain]
        exact ⟨r, h1, h2⟩
      obtain ⟨f, hfs⟩ := Deep.choose_lt (n := len) (p := fun i (r : Option Addr × Nat × List Nat) => W.cell? ((⟨b, off, none⟩ : Addr).add (i * 1)) = some (.slice r.1 r.2.2.length r.2.1) ∧ BIn W r.1 r.2.1 r.2.2) one
      refine ⟨(List.range len).map f, by simp, .inr ⟨b, off, hb, rfl, fun i r hr => ?_⟩⟩
      have hi : i < len := by
        rcases Nat.lt_or_ge i len with h' | h'
        · exact h'
        · rw [List.getElem?_eq_none (by simpa using h')] at hr; cases hr
      have hfr : f i = r := by simpa [hi] using hr
      have := hfs i hi
      rw [addr_plain, Nat.mul_one, hfr] at this
      exact this
end
/-- A law's call that answers true and writes nothing that was there. -/
def Yes (w : World) (e : Ending) (w' : World) : Prop := e = .returned (.bool true) ∧ Below w.heap.size w w'
end Go.Proofs.Ytlbigbljioffjaa.S
