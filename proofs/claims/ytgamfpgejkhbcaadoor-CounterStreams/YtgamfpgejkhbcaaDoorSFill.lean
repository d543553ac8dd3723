/- An array that is filled place by place; a whole array loaded and stored; bytes in memory. -/
import Derived.Test.YtgamfpgejkhbcaaDoorSWord
import Derived.Deep.WholeRow
import Derived.Laws.ResultCell
import Derived.Deep.LoopGhost
import Derived.Handy
import Derived.OwnWalk
import Derived.Deep.MidRow
import Derived.BigRegion
import Derived.Laws.AppendOwnNone
import Derived.Deep.DeepCutAuto
import Derived.Deep.RegionWith
import Derived.Deep.RegionLaw
import Derived.Laws.CopyOwn
import Derived.Deep.DeepFit
import Derived.WalkMore
namespace Go.Proofs.YtgamfpgejkhbcaaDoor.S
set_option maxRecDepth 100000
open Go Go.RowKit

theorem hide {p : Prop} (h : p) : Hid p := h
/-- N places, of which the first t hold f's numbers, and the others 0. -/
def fA (K : IntKind) (N : Nat) (f : Nat → Nat) (t : Nat) : Array Value := ((List.range N).map fun i => Value.int K ((if i < t then f i else 0 : Nat) : Int)).toArray
theorem fA_size (K : IntKind) (N : Nat) (f : Nat → Nat) (t : Nat) : (fA K N f t).size = N := by simp [fA]
theorem fA_zero (K : IntKind) (N : Nat) (f : Nat → Nat) : fA K N f 0 = Array.replicate N (.int K 0) := by
  apply Array.ext_getElem?
  intro i
  simp only [fA, List.getElem?_toArray, List.getElem?_map, Array.getElem?_replicate]
  by_cases h : i < N <;> simp [h]
theorem fA_at (K : IntKind) {N : Nat} (f : Nat → Nat) {t i : Nat} (h : i < N) (hi : i < t) : (fA K N f t)[i]? = some (.int K (f i : Nat)) := by
  simp [fA, h, hi]
theorem fA_get (K : IntKind) {N : Nat} (f : Nat → Nat) {t i : Nat} (h : i < N) : (fA K N f t)[i]? = some (.int K ((if i < t then f i else 0 : Nat) : Int)) := by
  simp [fA, h]
theorem fA_not (K : IntKind) {N : Nat} (f : Nat → Nat) {t : Nat} (h : t < N) : (fA K N f t)[t]? = some (.int K 0) := by
  simp [fA, h]
theorem fA_set (K : IntKind) {N : Nat} (f : Nat → Nat) {t : Nat} (h : t < N) : (fA K N f t).setIfInBounds t (.int K (f t : Nat)) = fA K N f (t + 1) := by
  apply Array.ext_getElem?
  intro i
  rw [Array.getElem?_setIfInBounds, fA_size]
  by_cases hi : t = i
  · subst hi
    simp [fA, h]
  · by_cases h2 : i < N
    · have : (i < t) ↔ (i < t + 1) := by omega
      simp [fA, hi, h2, this]
    · simp [fA, hi, h2]
theorem fA_one (K : IntKind) (N : Nat) (f : Nat → Nat) (t : Nat) : (fA K N f t).all (·.oneCell') = true := by
  simp [fA, Value.oneCell']
theorem fA_congr (K : IntKind) (N : Nat) {f f' : Nat → Nat} (h : ∀ i, i < N → f i = f' i) (t : Nat) : fA K N f t = fA K N f' t := by
  unfold fA
  congr 1
  apply List.map_congr_left
  intro i hi
  rw [h i (by simpa using hi)]

theorem lt_of_block' {w : World} {b : Nat} {o : Obj} (h : w.heap[b]? = some o) : b < w.heap.size := by
  rcases Nat.lt_or_ge b w.heap.size with h' | h'
  · exact h'
  · rw [Array.getElem?_eq_none h'] at h; simp at h
theorem heap_old {w : World} {o : Obj} {b : Nat} {p : Obj} (h : w.heap[b]? = some p) : (w.alloc o).heap[b]? = some p := by
  rw [Below.heap_alloc _ _ _ (lt_of_block' h)]; exact h
theorem wpList_load_row {P : Program} {ops : Array Oper} {rest : List Oper} {op : Oper} {a : Act} {w : World} {Q : Exit → Act → World → Prop} (hgd : op.guard = none) (ty : TypeId) (x : Operand) (ho : op.op = .load ty x)
    (g : Nat) (hx : a.eval x = .pointer (some ⟨g, 0, none⟩)) (cs : Array Value) (t : TypeId) (fr : Nat × Nat) (hg : w.heap[g]? = some (.cells cs t fr)) (d : TypeDesc)
    (hu : P.underlying ty = some d) (hd : (match d with | .struct _ | .array _ _ => true | _ => false) = true) (hi : (P.info? ty).map (·.size) = some cs.size)
    (h : wpList P ops Q rest (a.put op.dst (.agg cs)) w) : wpList P ops Q (op :: rest) a w :=
  wpList_plain hgd fun _ hK => by
    unfold Oper.wp execOp
    simp only [ho, hx, Instr.loadAt, Instr.sureAddr, Sem.run_bind, Sem.run_pure, Result.andThen_ok, run_loadVar_row w g t ty cs fr d hg hu hd hi]
    exact hK _ _ h
theorem kept_setRow (M : Nat → Prop) (w : World) (g : Nat) (c : Array Value) (h : M g) : Kept M w (w.setRow g c) :=
  ⟨rfl, rfl, rfl, by simp [World.setRow], fun k _ hn => by
    show (w.heap.modify g _)[k]? = _
    rw [Array.getElem?_modify, if_neg (fun e => hn (by rw [← e]; exact h))]⟩
theorem setRow_heap' (w : World) (g : Nat) (c old : Array Value) (t : TypeId) (fr : Nat × Nat) (h : w.heap[g]? = some (.cells old t fr)) : (w.setRow g c).heap[g]? = some (.cells c t fr) := by
  show (w.heap.modify g _)[g]? = _
  rw [Array.getElem?_modify, if_pos rfl, h]; rfl
/-- A whole array stored: what the block holds then, and that all else is kept. -/
theorem wpList_store_row {P : Program} {ops : Array Oper} {rest : List Oper} {op : Oper} {a : Act} {w : World} {Q : Exit → Act → World → Prop} (hgd : op.guard = none) (ty : TypeId) (x y : Operand) (ho : op.op = .store ty x y)
    (g : Nat) (cells : Array Value) (hx : a.eval x = .pointer (some ⟨g, 0, none⟩)) (hy : a.eval y = .agg cells) (old : Array Value) (t : TypeId) (hg : w.heap[g]? = some (.cells old t (0, 0)))
    (hi : (P.info? ty).map (·.size) = some cells.size) (hs : old.size = cells.size) (h1 : cells.all (·.oneCell') = true)
    (h : ∀ w2, Hid (w2.heap[g]? = some (.cells cells t (0, 0))) → Hid (Kept (fun k => k = g) w w2) → wpList P ops Q rest (a.put op.dst undef) w2) : wpList P ops Q (op :: rest) a w :=
  wpList_plain hgd fun _ hK => by
    unfold Oper.wp execOp
    simp only [ho, hx, hy, Instr.storeAt, Instr.sureAddr, Sem.run_bind, Sem.run_pure, Result.andThen_ok, run_storeVar_row w g t ty old cells hg hi hs h1]
    exact hK _ _ (h _ (setRow_heap' w g cells old t _ hg) (kept_setRow _ _ _ _ rfl))

theorem zero80 (f : Nat → Nat) : (∀ w, (zeroValue 101).run Tryd.prog w = .ok (.agg (fA .u32 80 f 0)) w) ∧ (Tryd.prog.info? 101).map (·.size) = some 80 := by
  rw [fA_zero]
  exact zero_of_info (by kernel_rfl)
theorem zero20 (f : Nat → Nat) : (∀ w, (zeroValue 55).run Tryd.prog w = .ok (.agg (fA .u8 20 f 0)) w) ∧ (Tryd.prog.info? 55).map (·.size) = some 20 := by
  rw [fA_zero]
  exact zero_of_info (by kernel_rfl)
theorem info80 (f : Nat → Nat) (t : Nat) : (Tryd.prog.info? 101).map (·.size) = some (fA .u32 80 f t).size := by rw [fA_size]; exact (zero80 f).2
theorem info20 (f : Nat → Nat) (t : Nat) : (Tryd.prog.info? 55).map (·.size) = some (fA .u8 20 f t).size := by rw [fA_size]; exact (zero20 f).2

theorem arrLen64 : Tryd.prog.arrayLen 83 = 64 := by kernel_rfl
theorem arrLen72 : Tryd.prog.arrayLen 105 = 72 := by kernel_rfl
theorem addr_plain (b off i : Nat) : ((⟨b, off, none⟩ : Addr).add i) = ⟨b, off + i, none⟩ := by unfold Addr.add; split <;> simp_all
theorem infoB : (Tryd.prog.info? 5).map (fun i => (i.zero, i.size, i.bytes)) = some (some (.int .u8 0), 1, 1) := by kernel_rfl
theorem infoW : (Tryd.prog.info? 79).map (fun i => (i.zero, i.size, i.bytes)) = some (some (.int .u32 0), 1, 4) := by kernel_rfl
theorem size5 (w : World) : (sizeOf 5).run Tryd.prog w = .ok 1 w := by
  obtain ⟨i5, hi5, _, hs5, _⟩ := info_parts infoB
  simp [sizeOf, typeInfo, hi5, hs5]
theorem elem64 : Tryd.prog.elem 83 = 5 := by kernel_rfl
theorem elem72 : Tryd.prog.elem 105 = 5 := by kernel_rfl
theorem slice64_l (K : IntKind) (W : World) (b o l : Nat) (hl : l < 64) :
    (Instr.sliceAt 83 (.pointer (some ⟨b, o, none⟩)) (some (.int K (l : Int))) none none).run Tryd.prog W = .ok (.slice (some ⟨b, o + l, none⟩) (64 - l) (64 - l)) W := by
  rw [run_sliceAt_array_l W 83 ⟨b, o, none⟩ (by kernel_rfl) K (l : Int) (by omega) (by rw [arrLen64]; omega), arrLen64, elem64, size5]
  simp only [Result.andThen_ok, slicedAt, Int.toNat_natCast, Nat.mul_one]
  rw [if_neg (by omega), addr_plain]
theorem slice72_h (K : IntKind) (W : World) (b o l : Nat) (hl : l ≤ 72) :
    (Instr.sliceAt 105 (.pointer (some ⟨b, o, none⟩)) none (some (.int K (l : Int))) none).run Tryd.prog W = .ok (.slice (some ⟨b, o, none⟩) l 72) W := by
  rw [run_sliceAt_array_h W 105 ⟨b, o, none⟩ (by kernel_rfl) K (l : Int) (by omega) (by rw [arrLen72]; omega), arrLen72, elem72, size5]
  simp only [Result.andThen_ok, slicedAt, Int.toNat_natCast, Nat.mul_one]
  rw [if_neg (by omega), addr_plain]
  rfl
/-- The bytes xs lie in block b from o on. -/
def Bs (w : World) (b o : Nat) (xs : List Nat) : Prop := ∀ i, i < xs.length → w.cell? ⟨b, o + i, none⟩ = some (.int .u8 (xs.getD i 0 : Nat))
theorem Bs.kept {M : Nat → Prop} {w w' : World} {b o : Nat} {xs : List Nat} (h : Bs w b o xs) (k : Kept M w w') (hb : b < w.heap.size) (hn : ¬ M b) : Bs w' b o xs := fun i hi => (k.cell (p := ⟨b, o + i, none⟩) hb hn).trans (h i hi)
theorem Bs.below {B : Nat} {w w' : World} {b o : Nat} {xs : List Nat} (h : Bs w b o xs) (k : Below B w w') (hb : b < B) : Bs w' b o xs := fun i hi => (k.cell (p := ⟨b, o + i, none⟩) hb).trans (h i hi)
end Go.Proofs.YtgamfpgejkhbcaaDoor.S
