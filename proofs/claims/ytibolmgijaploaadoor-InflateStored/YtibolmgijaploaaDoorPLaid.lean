/- PROVED: where the listed variable reads as the program's text lays it, the order of lengths lies in its variable; the world that the program's own start leaves is such a world. How the laws' arguments are opened. -/
import Derived.Test.YtibolmgijaploaaDoorPAlive
import Derived.Test.YtibolmgijaploaaDoorOpen
import Derived.Test.YtibolmgijaploaaDoorCards
import Derived.Test.YtibolmgijaploaaDoorTie
import Derived.LaidMore
import Derived.Lib.LaidTab
import Derived.Stop.Joined
import Derived.Lay
import Derived.ChangeMaps5
import Derived.SevenTiedAt
import Derived.JoinedCond
namespace Go.Proofs.YtibolmgijaploaaDoor
set_option maxRecDepth 100000
open Go Go.RowKit
set_option linter.unusedVariables false

/-- The name of the listed variable, as the row has it. -/
def vnO : String := ((Rows.inflateReadsRow.laid.map Prod.fst)[0]?).getD ""
theorem gO : Tryd.prog.globalNamed vnO = some 0 := by kernel_rfl
theorem tO : (Tryd.prog.globals[0]?).map (·.type) = some 94 := by kernel_rfl
theorem tabIs_of_vars {P : Program} {W : World} {name : String} {k : IntKind} {zs : List Int} {rest : List (String × DataW Unit)} {g : Nat} {t e : TypeId} {n : Nat} {ps : List MemPlace}
    (hg : P.globalNamed name = some g) (hty : (P.globals[g]?).map (·.type) = some t) (ht : P.underlying t = some (.array n e)) (he : P.underlying e = some (.int k)) (hce : P.cellsOf e = 1) (hct : P.cellsOf t = n)
    (h : DataW.LaidVars P W ((name, Lib.tabData k zs) :: rest) ps) : Lib.TabIs P W name k zs := by
  obtain ⟨g', t', cs, fuel, p, q, hg', ht', hvar, hd, _, _⟩ := h
  obtain rfl := Option.some.inj (hg.symm.trans hg')
  obtain rfl := Option.some.inj (hty.symm.trans ht')
  unfold Lib.TabIs
  rw [hvar, ← Lib.cells_of_tab ht he hce hct hd]
theorem laid_eq : ∃ r, Rows.inflateReadsRow.laid = (vnO, Lib.tabData .i64 (iOrd.map Int.ofNat)) :: r := ⟨_, rfl⟩
theorem cells19 : Tryd.prog.cellsOf 94 = 19 := by kernel_rfl
theorem tab_of_laid {W : World} (h : laidMetH Tryd.prog Rows.inflateReadsRow.laid W) : Tab W := by
  rw [MakeChecks.laidMetH_plain _ _ _ (by kernel_rfl)] at h
  obtain ⟨r, he⟩ := laid_eq
  rw [he] at h
  obtain ⟨ps, hl, _⟩ := h
  have hO := tabIs_of_vars gO tO Tryd.underlying94 Tryd.underlying3 Tryd.cells3 cells19 hl
  intro i hi
  have := hO.cell gO i (by rw [List.length_map]; exact hi)
  rw [this]
  congr 2
  have hi' : i < iOrd.length := hi
  simp [List.getD, hi']
theorem wit_met (os : Os) (args : Array Value) : laidMetH Tryd.prog Rows.inflateReadsRow.laid ((World.laidAll Tryd.prog os Rows.inflateReadsRow.laid).forCall (fun _ _ => 0) ⟨#[], args, []⟩).memory := by
  rw [MakeChecks.laidMetH_plain _ _ _ (by kernel_rfl)]
  exact laidMet_laidAll _ (by kernel_rfl) (by kernel_rfl)

section
open Go.ChangeShapes Go.WideShapes Go.ChangeAt
variable {H : Type} {enc : TypeId × Value → H} {W : World}
/-- Bytes that come in. -/
def BIn (W : World) (a : Option Addr) (len cap : Nat) (zs : List Int) : Prop := Text W.heap.size W a len zs ∧ len ≤ cap ∧ (a = none → len = 0 ∧ cap = 0)
theorem trod_bytes {fuel : Nat} {cs : List Value} {x : DataW H × List MemPlace} (h : DataW.trod enc Tryd.prog W 0 (fun _ => true) true fuel 22 cs = some x) :
    ∃ a len cap zs, cs = [.slice a len cap] ∧ BIn W a len cap zs ∧ ((x.1 = .nil ∧ len = 0) ∨ ∃ els sp, x.1 = .slice els sp ∧ els.length = len) := by
  rcases open_ints Tryd.underlying22 Tryd.underlying5 Tryd.cells5 h with ⟨rfl, rfl⟩ | ⟨a, l, c, zs, rfl, _, hl, hm, hz, rfl, hcell, hwz⟩
  · exact ⟨none, 0, 0, [], rfl, ⟨⟨rfl, by intro i; simp, .inl rfl⟩, Nat.le_refl _, fun _ => ⟨rfl, rfl⟩⟩, .inl ⟨rfl, rfl⟩⟩
  · have hz' : zs.length = c := by simpa using hz
    refine ⟨some a, l, c, zs.take l, rfl, ⟨⟨by simp; omega, ?_, ?_⟩, hl, fun e => by simp at e⟩, .inr ⟨_, _, rfl, by simp [lits]; omega⟩⟩
    · intro i
      by_cases hi : i < (zs.take l).length
      · have hm := List.getElem_mem hi
        have hw := bounds_u8 (hwz _ (List.mem_of_mem_take hm))
        simp only [List.getD, List.getElem?_eq_getElem hi, Option.getD_some]
        omega
      · simp [List.getD, List.getElem?_eq_none (show (zs.take l).length ≤ i by omega)]
    · by_cases h0 : l = 0
      · exact .inl h0
      · obtain ⟨b, off, spot⟩ := a
        have hc := hcell 0 (by omega)
        have hspot : spot = none := by simpa [Addr.add] using World.cell?_spot hc
        subst hspot
        refine .inr ⟨b, off, ?_, rfl, fun i hi => ?_⟩
        · have := lt_of_cell hc
          simpa [Addr.add] using this
        · have := hcell i (by omega)
          have e : ((⟨b, off, none⟩ : Addr).add i) = ⟨b, off + i, none⟩ := by unfold Addr.add; split <;> simp_all
          rw [e] at this
          rw [this]
          simp [List.getD, hi]
theorem open_bytes {ts : List TypeId} {ds : List (DataW H)} {j : Nat} {a : Option Addr} {len cap : Nat} {d : DataW H} {p : List MemPlace} (hsz : (DataW.weightsEach Tryd.prog ts ds).all (· ≤ reachBytes) = true) (ht : ts[j]? = some 22) (hd : ds[j]? = some d)
    (h : DataW.Trod enc Tryd.prog W 0 (fun _ => true) true 22 (.slice a len cap) d p) : ∃ zs, BIn W a len cap zs ∧ len ≤ 140737488351232 := by
  obtain ⟨fuel, hf⟩ := h
  obtain ⟨a', len', cap', zs, hcs, htx, hx⟩ := trod_bytes hf
  simp [Value.cells] at hcs
  obtain ⟨rfl, rfl, rfl⟩ := hcs
  refine ⟨zs, htx, ?_⟩
  rcases hx with ⟨_, h0⟩ | ⟨els, sp, hx, hl⟩
  · omega
  · simp only at hx
    subst hx
    have := sized_slice hsz ht hd Tryd.underlying22
    rw [Tryd.bytes5] at this
    simp only [reachBytes] at this
    omega
theorem bulk_one (d : DataW H) : 1 ≤ Rows.uptoBulk d := by
  cases d with
  | lit l => cases l <;> simp [Rows.uptoBulk]
  | nil => simp [Rows.uptoBulk]
  | ptr d => simp [Rows.uptoBulk]
  | slice elems spare => simp [Rows.uptoBulk]
  | agg parts => simp [Rows.uptoBulk]
  | iface t d => simp [Rows.uptoBulk]
  | map entries => simp [Rows.uptoBulk]
  | held h => simp [Rows.uptoBulk]
theorem bulk_len (l : List (DataW H)) : l.length ≤ Rows.uptoBulkAll l := by
  induction l with
  | nil => simp [Rows.uptoBulkAll]
  | cons x r ih => have := bulk_one x; simp only [Rows.uptoBulkAll, List.length_cons]; omega
theorem open_small {a : Option Addr} {len cap : Nat} {d : DataW H} {p : List MemPlace} (hk : Rows.uptoBulk d ≤ 1048576) (h : DataW.Trod enc Tryd.prog W 0 (fun _ => true) true 22 (.slice a len cap) d p) : ∃ zs, BIn W a len cap zs ∧ len ≤ 1048576 := by
  obtain ⟨fuel, hf⟩ := h
  obtain ⟨a', len', cap', zs, hcs, htx, hx⟩ := trod_bytes hf
  simp [Value.cells] at hcs
  obtain ⟨rfl, rfl, rfl⟩ := hcs
  refine ⟨zs, htx, ?_⟩
  rcases hx with ⟨_, h0⟩ | ⟨els, sp, hx, hl⟩
  · omega
  · simp only at hx
    subst hx
    have := bulk_len els
    simp only [Rows.uptoBulk] at hk
    omega
end
theorem BIn.stay {W W' : World} {a : Option Addr} {len cap : Nat} {zs : List Int} (h : BIn W a len cap zs) (k : Below W.heap.size W W') : BIn W' a len cap zs :=
  ⟨(h.1.kept (Kept.of_below k) (fun b hb e => by omega)).up k.size, h.2⟩
theorem inf_in {W : World} {a : Option Addr} {len cap : Nat} {zs : List Int} (h : BIn W a len cap zs) (hT : Tab W) (hl : len ≤ 140737488351232) (most : Int) (hm : most ≤ 10000000) : Calls Tryd.prog 10 #[.slice a len cap, .int .i64 most] W (InfOk W (iAns zs most.toNat)) :=
  inflate_c a len cap zs most W h.1 hT hl h.2.1 hm
theorem Tab.pos {w : World} (h : Tab w) : 0 < w.heap.size := lt_of_cell (h 0 (by decide))
theorem Tab.on {w w' : World} (h : Tab w) (k : Below w.heap.size w w') : Tab w' := h.below k h.pos
end Go.Proofs.YtibolmgijaploaaDoor
