/- How the laws' arguments are opened: bytes. -/
import Derived.Test.YtgamfpgejkhbcaaDoorHOwn
import Derived.Laws.BytesArg
import Derived.ProofKit
import Derived.OpenShut
import Derived.ShutString
import Derived.ChangeOld
import Derived.SizedLaws
import Derived.Deep.Slices
import Derived.Deep.Strs
import Derived.Lib.SmallJoins
namespace Go.Proofs.YtgamfpgejkhbcaaDoor.S
set_option maxRecDepth 100000
open Go.ChangeShapes Go.WideShapes Go.ChangeAt Go.RowKit

theorem own : ownKnob Tryd.prog.godebug = none := by kernel_rfl
theorem laidOut : laidOutB Tryd.prog = true := by kernel_rfl
theorem bytesU8 : Tryd.prog.bytesOf 5 = 1 := by kernel_rfl
theorem cellsU8 : Tryd.prog.cellsOf 5 = 1 := by kernel_rfl
theorem cellsTB : Tryd.prog.cellsOf 22 = 1 := by kernel_rfl

section
variable {H : Type} {enc : TypeId × Value → H} {W : World}

/-- Bytes that came in. -/
structure BIn (W : World) (a : Option Addr) (cap : Nat) (ys : List Nat) : Prop where
  text : TextAt W a ys
  by_ : By ys
  cap_ : ys.length ≤ cap
  most : cap ≤ 9223372036854775807
  nil : a = none → ys.length = 0 ∧ cap = 0
theorem trod_bys {fuel : Nat} {cs : List Value} {x : DataW H × List MemPlace} (h : DataW.trod enc Tryd.prog W 0 (fun _ => true) true fuel 22 cs = some x) :
    ∃ a cap ys, cs = [.slice a ys.length cap] ∧ BIn W a cap ys ∧ ((x.1 = .nil ∧ ys.length = 0) ∨ ∃ els sp, x.1 = .slice els sp ∧ els.length = ys.length) := by
  rcases open_ints Tryd.underlying22 Tryd.underlying5 cellsU8 h with ⟨rfl, rfl⟩ | ⟨a, l, c, zs, rfl, _, hl, hm, hz, rfl, hcell, hwz⟩
  · exact ⟨none, 0, [], rfl, ⟨.inl rfl, fun x hx => by simp at hx, Nat.zero_le _, by omega, fun _ => ⟨rfl, rfl⟩⟩, .inl ⟨rfl, rfl⟩⟩
  · have hz' : zs.length = c := by simpa using hz
    have hlen : ((zs.take l).map Int.toNat).length = l := by simp; omega
    have hb : ∀ z ∈ zs, 0 ≤ z ∧ z ≤ 255 := fun z hz => by have := bounds_u8 (hwz z hz); omega
    refine ⟨some a, c, (zs.take l).map Int.toNat, by rw [hlen], ⟨?_, ?_, by omega, by unfold maxLen at hm; omega, fun e => by cases e⟩, .inr ⟨_, _, rfl, by simp [lits]⟩⟩
    · by_cases h0 : l = 0
      · left; rw [hlen]; exact h0
      · obtain ⟨b, off, spot⟩ := a
        have hc := hcell 0 (by omega)
        have hspot : spot = none := by simpa [Addr.add] using World.cell?_spot hc
        subst hspot
        refine .inr ⟨b, off, rfl, ?_, fun i hi => ?_⟩
        · have := lt_of_cell hc
          simpa [Addr.add] using this
        · rw [hlen] at hi
          have hiz : i < zs.length := by omega
          have := hcell i (by omega)
          rw [addr_plain] at this
          rw [this]
          have hzb := hb _ (List.getElem_mem hiz)
          simp [List.getD, hi, hiz]
          omega
    · intro x hx
      simp only [List.mem_map] at hx
      obtain ⟨z, hz, rfl⟩ := hx
      have := hb z (List.mem_of_mem_take hz)
      omega
theorem open_bys {a : Option Addr} {len cap : Nat} {d : DataW H} {p : List MemPlace} (h : DataW.Trod enc Tryd.prog W 0 (fun _ => true) true 22 (.slice a len cap) d p) : ∃ ys, len = ys.length ∧ BIn W a cap ys := by
  obtain ⟨fuel, hf⟩ := h
  obtain ⟨a', cap', ys, hcs, hb, _⟩ := trod_bys hf
  simp [Value.cells] at hcs
  obtain ⟨rfl, rfl, rfl⟩ := hcs
  exact ⟨ys, rfl, hb⟩
theorem len_bys {ts : List TypeId} {ds : List (DataW H)} {j : Nat} {a : Option Addr} {len cap : Nat} {d : DataW H} {p : List MemPlace} (hsz : (DataW.weightsEach Tryd.prog ts ds).all (· ≤ reachBytes) = true) (ht : ts[j]? = some 22) (hd : ds[j]? = some d)
    (h : DataW.Trod enc Tryd.prog W 0 (fun _ => true) true 22 (.slice a len cap) d p) : len ≤ 140737488351232 := by
  obtain ⟨fuel, hf⟩ := h
  obtain ⟨a', cap', ys, hcs, hb, hx⟩ := trod_bys hf
  simp [Value.cells] at hcs
  obtain ⟨rfl, rfl, rfl⟩ := hcs
  rcases hx with ⟨_, h0⟩ | ⟨els, sp, hx, hl⟩
  · omega
  · simp only at hx
    subst hx
    have := sized_slice hsz ht hd Tryd.underlying22
    rw [bytesU8] at this
    simp only [reachBytes] at this
    omega

end
/-- A law's call that answers true and writes nothing that was there. -/
def Yes (w : World) (e : Ending) (w' : World) : Prop := e = .returned (.bool true) ∧ Below w.heap.size w w'
theorem conv_at {w : World} {a : Option Addr} {cap : Nat} {ys : List Nat} (h : TextAt w a ys) : (convert 22 9 (.slice a ys.length cap)).run Tryd.prog w = .ok (.string (strOfNums (ys.map fun (x : Nat) => (x : Int)))) w := by
  rcases h with h | ⟨b, off, rfl, _, hc⟩
  · obtain rfl : ys = [] := List.eq_nil_of_length_eq_zero h
    cases a with
    | none => exact run_convert_bytes_nil w 22 5 Tryd.underlying22 Tryd.underlying5 0 cap 9 Tryd.underlying9
    | some ad =>
      rw [show ([] : List Nat).length = 0 from rfl, run_convert_bytes_string w 22 9 5 _ 0 cap Tryd.underlying22 Tryd.underlying5 Tryd.underlying9, run_bytesToString w ad 0 cap [] (by simpa using run_loadCells_list (P := Tryd.prog) w ad [] (by simp))]
      rfl
  · refine run_convert_bytes_arg w 22 5 Tryd.underlying22 Tryd.underlying5 b off ys.length cap _ (by simp) (fun i hi => ?_) 9 Tryd.underlying9
    rw [hc i hi]
    simp [hi]
end Go.Proofs.YtgamfpgejkhbcaaDoor.S
