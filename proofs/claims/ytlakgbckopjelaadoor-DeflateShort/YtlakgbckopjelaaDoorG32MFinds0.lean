/- Several texts, laid together: MAlive, MOpen, MFinds0. -/
import Derived.Test.YtlakgbckopjelaaDoorG31MTellR
import Derived.Lib.SlBytesConst
import Derived.ProofKit
import Derived.OpenShut
import Derived.ShutString
import Derived.ChangeOld
import Derived.SizedLaws
import Derived.Deep.Slices
import Derived.Deep.Strs
import Derived.Lib.SmallJoins
/- The laws' probe. -/
namespace Go.Proofs.YtlakgbckopjelaaDoor.M
set_option maxRecDepth 100000
open Go Go.RowKit

abbrev lit3 : List Tk := [(97, 0, 0), (98, 0, 0), (0, 4, 2)]
abbrev lit8 : List Int := [97, 97, 97, 97, 97, 97, 97, 97]
abbrev lit3O : Obj := .cells #[.int .u8 97, .int .i64 0, .int .i64 0, .int .u8 98, .int .i64 0, .int .i64 0, .int .u8 0, .int .i64 4, .int .i64 2] 32
abbrev lit8O : Obj := .cells #[.int .u8 97, .int .u8 97, .int .u8 97, .int .u8 97, .int .u8 97, .int .u8 97, .int .u8 97, .int .u8 97] 5 (8, 9)
end Go.Proofs.YtlakgbckopjelaaDoor.M

/- How the laws' arguments are opened: tokens, bytes. -/
namespace Go.Proofs.YtlakgbckopjelaaDoor.M
set_option maxRecDepth 100000
open Go.ChangeShapes Go.WideShapes Go.ChangeAt Go.RowKit

theorem own : ownKnob Tryd.prog.godebug = none := by kernel_rfl
theorem laidOut : laidOutB Tryd.prog = true := by kernel_rfl
theorem Tryd.bytes5 : Tryd.prog.bytesOf 5 = 1 := by kernel_rfl
theorem Tryd.cells5 : Tryd.prog.cellsOf 5 = 1 := by kernel_rfl
theorem Tryd.cells3 : Tryd.prog.cellsOf 3 = 1 := by kernel_rfl
theorem Tryd.cells32 : Tryd.prog.cellsOf 32 = 3 := by kernel_rfl

section
variable {H : Type} {enc : TypeId × Value → H} {W : World}

theorem addr_plain (b off i : Nat) : ((⟨b, off, none⟩ : Addr).add i) = ⟨b, off + i, none⟩ := by unfold Addr.add; split <;> simp_all

/-- Bytes that came in. -/
structure BIn (W : World) (a : Option Addr) (cap : Nat) (zs : List Int) : Prop where
  by_ : Bys W a zs
  cap_ : zs.length ≤ cap
  most : cap ≤ 9223372036854775807
  nil : a = none → zs.length = 0 ∧ cap = 0
theorem trod_bys {fuel : Nat} {cs : List Value} {x : DataW H × List MemPlace} (h : DataW.trod enc Tryd.prog W 0 (fun _ => true) true fuel 22 cs = some x) :
    ∃ a cap zs, cs = [.slice a zs.length cap] ∧ BIn W a cap zs ∧ ((x.1 = .nil ∧ zs.length = 0) ∨ ∃ els sp, x.1 = .slice els sp ∧ els.length = zs.length) := by
  rcases open_ints Tryd.underlying22 Tryd.underlying5 Tryd.cells5 h with ⟨rfl, rfl⟩ | ⟨a, l, c, zs, rfl, _, hl, hm, hz, rfl, hcell, hwz⟩
  · exact ⟨none, 0, [], rfl, ⟨⟨.inl rfl, by intro i; simp [ln]⟩, Nat.zero_le _, by omega, fun _ => ⟨rfl, rfl⟩⟩, .inl ⟨rfl, rfl⟩⟩
  · have hz' : zs.length = c := by simpa using hz
    have hlen : (zs.take l).length = l := by simp; omega
    refine ⟨some a, c, zs.take l, by rw [hlen], ⟨⟨?_, ?_⟩, by omega, by unfold maxLen at hm; omega, fun e => by cases e⟩, .inr ⟨_, _, rfl, by simp [lits]⟩⟩
    · by_cases h0 : l = 0
      · left; rw [hlen]; exact h0
      · obtain ⟨b, off, spot⟩ := a
        have hc := hcell 0 (by omega)
        have hspot : spot = none := by simpa [Addr.add] using World.cell?_spot hc
        subst hspot
        refine .inr ⟨b, off, ?_, rfl, fun i hi => ?_⟩
        · have := lt_of_cell hc
          simpa [Addr.add] using this
        · rw [hlen] at hi
          have := hcell i (by omega)
          rw [addr_plain] at this
          rw [this]
          simp [ln, List.getD, hi]
    · intro i
      by_cases hi : i < (zs.take l).length
      · have hm := List.getElem_mem hi
        have hw := bounds_u8 (hwz _ (List.mem_of_mem_take hm))
        rw [ln_in hi]
        omega
      · simp [ln, List.getD, List.getElem?_eq_none (show (zs.take l).length ≤ i by omega)]
theorem open_bys {a : Option Addr} {len cap : Nat} {d : DataW H} {p : List MemPlace} (h : DataW.Trod enc Tryd.prog W 0 (fun _ => true) true 22 (.slice a len cap) d p) : ∃ zs, len = zs.length ∧ BIn W a cap zs := by
  obtain ⟨fuel, hf⟩ := h
  obtain ⟨a', cap', zs, hcs, hb, _⟩ := trod_bys hf
  simp [Value.cells] at hcs
  obtain ⟨rfl, rfl, rfl⟩ := hcs
  exact ⟨zs, rfl, hb⟩

/-- Tokens that came in. -/
structure TIn (W : World) (a : Option Addr) (cap : Nat) (xs : List Tk) : Prop where
  toks : Toks W a xs
  bt : Bt xs
  cap_ : xs.length ≤ cap
  nil : a = none → xs.length = 0 ∧ cap = 0
theorem open_tok {fuel b o : Nat} {cs : List Value} {x : DataW H × List MemPlace} (hc : W.cells? 0 ⟨b, o, none⟩ 3 = some cs) (h : DataW.trod enc Tryd.prog W 0 (fun _ => true) true fuel 32 cs = some x) :
    ∃ t : Tk, (0 ≤ t.1 ∧ t.1 ≤ 255) ∧ W.cell? ⟨b, o, none⟩ = some (.int .u8 t.1) ∧ W.cell? ⟨b, o + 1, none⟩ = some (.int .i64 t.2.1) ∧ W.cell? ⟨b, o + 2, none⟩ = some (.int .i64 t.2.2) := by
  obtain ⟨_, hl, hcell⟩ := World.cells?_some hc
  obtain ⟨y0, y1, y2, n, _, _, h0, h1, h2⟩ := Deep.trod_struct3 Tryd.underlying32 h
  match cs, hl with
  | [c0, c1, c2], _ =>
    simp only [Tryd.cells3, Tryd.cells5] at h0 h1 h2
    obtain ⟨k, e0, _, wf0⟩ := DataW.trod_int Tryd.underlying5 h0
    obtain ⟨v, e1, _, _⟩ := DataW.trod_int Tryd.underlying3 h1
    obtain ⟨m, e2, _, _⟩ := DataW.trod_int Tryd.underlying3 h2
    simp at e0 e1 e2
    subst e0 e1 e2
    have q0 := hcell 0 (by omega)
    have q1 := hcell 1 (by omega)
    have q2 := hcell 2 (by omega)
    rw [addr_plain] at q0 q1 q2
    have hb := bounds_u8 wf0
    exact ⟨(k, v, m), ⟨by simp only; omega, by simp only; omega⟩, by simpa using q0, by simpa using q1, by simpa using q2⟩
theorem open_toks {a : Option Addr} {len cap : Nat} {d : DataW H} {p : List MemPlace} (h : DataW.Trod enc Tryd.prog W 0 (fun _ => true) true 28 (.slice a len cap) d p) : ∃ xs, len = xs.length ∧ TIn W a cap xs := by
  obtain ⟨fuel, hf⟩ := h
  rcases Deep.open_slice Tryd.underlying28 hf with ⟨hcs, _⟩ | ⟨ad, l, c, m, n, D, Pl, hcs, _, hl, hm, hmm, _, hall⟩
  · simp [Value.cells] at hcs
    obtain ⟨rfl, rfl, rfl⟩ := hcs
    exact ⟨[], rfl, .inl rfl, Bt.nil, Nat.zero_le _, fun _ => ⟨rfl, rfl⟩⟩
  · simp [Value.cells] at hcs
    obtain ⟨rfl, rfl, rfl⟩ := hcs
    have hmc : m = cap := by simpa using hmm
    subst hmc
    by_cases h0 : len = 0
    · exact ⟨[], h0, .inl rfl, Bt.nil, Nat.zero_le _, fun e => by cases e⟩
    · obtain ⟨b, off, spot⟩ := ad
      rw [Tryd.cells32] at hall
      obtain ⟨cs0, hc0, _⟩ := hall 0 (by omega)
      obtain ⟨_, hl0, hcell0⟩ := World.cells?_some hc0
      have q0 := hcell0 0 (by omega)
      have hspot : spot = none := by
        match cs0, hl0 with
        | [c0, c1, c2], _ =>
          have q1 : W.cell? ((⟨b, off, spot⟩ : Addr).add (0 * 3) |>.add 0) = some c0 := by simpa using q0
          simpa [Addr.add] using World.cell?_spot q1
      subst hspot
      have hb : b < W.heap.size := by
        match cs0, hl0 with
        | [c0, c1, c2], _ =>
          have q1 : W.cell? ((⟨b, off, none⟩ : Addr).add (0 * 3) |>.add 0) = some c0 := by simpa using q0
          have := lt_of_cell q1
          simpa [Addr.add] using this
      obtain ⟨f, hfs⟩ := Deep.choose_lt (n := len) (p := fun i (t : Tk) => (0 ≤ t.1 ∧ t.1 ≤ 255) ∧ W.cell? ⟨b, off + i * 3, none⟩ = some (.int .u8 t.1) ∧ W.cell? ⟨b, off + i * 3 + 1, none⟩ = some (.int .i64 t.2.1) ∧ W.cell? ⟨b, off + i * 3 + 2, none⟩ = some (.int .i64 t.2.2)) (fun i hi => by
        obtain ⟨cs, hc, ht⟩ := hall i (by omega)
        rw [addr_plain] at hc
        exact open_tok hc ht)
      have hlen : ((List.range len).map f).length = len := by simp
      have hat : ∀ i, i < len → tk ((List.range len).map f) i = f i := fun i hi => by
        rw [tk_in (by rw [hlen]; exact hi)]; simp
      refine ⟨(List.range len).map f, hlen.symm, .inr ⟨b, off, hb, rfl, fun i hi => ?_⟩, fun i => ?_, by rw [hlen]; exact hl, fun e => by cases e⟩
      · rw [hlen] at hi
        rw [hat i hi]
        exact (hfs i hi).2
      · by_cases hi : i < len
        · rw [hat i hi]; exact (hfs i hi).1
        · unfold tk List.getD; rw [List.getElem?_eq_none (by rw [hlen]; omega)]; simp
end
/-- A law's call that answers true and writes nothing that was there. -/
def Yes (w : World) (e : Ending) (w' : World) : Prop := e = .returned (.bool true) ∧ Below w.heap.size w w'
end Go.Proofs.YtlakgbckopjelaaDoor.M

/- What is found, whatever the level. -/
namespace Go.Proofs.YtlakgbckopjelaaDoor.M
set_option maxRecDepth 100000
open Go Go.RowKit

/-- What is found, whatever the level. -/
theorem FindOk.all {zs : List Int} {lv : Int} {w : World} {e : Ending} {w' : World} (h : FindOk zs lv w e w') (hz : ∀ i, 0 ≤ ln zs i ∧ ln zs i ≤ 255) : ∃ a cap xs, e = .returned (.slice a xs.length cap) ∧ Toks w' a xs ∧ Below w.heap.size w w' ∧ Rt xs ∧ Bt xs ∧ tel xs = zs ∧ xs.length ≤ zs.length ∧ (1 ≤ lv → FdTo zs zs.length xs ∧ FndAll zs lv xs) ∧ OwnsT w' w.heap.size (.slice a xs.length cap) xs := by
  obtain ⟨a, cap, xs, he, ho, hb, h0, h1⟩ := h
  obtain ⟨_, _, hv, htk, _, _, _⟩ := ho.form
  simp only [Value.slice.injEq] at hv
  obtain ⟨rfl, _, rfl⟩ := hv
  by_cases hlv : lv < 1
  · obtain rfl := h0 hlv
    exact ⟨_, _, _, he, htk, hb, alT_rt zs, alT_bt hz, alT_tell zs, by rw [alT_length]; exact Nat.le_refl _, h1, ho⟩
  · have hf := (h1 (by omega)).1
    exact ⟨_, _, _, he, htk, hb, hf.rt, hf.bt, by rw [hf.tell, List.take_length], hf.many, h1, ho⟩

end Go.Proofs.YtlakgbckopjelaaDoor.M
