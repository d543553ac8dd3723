/- Rows of numbers in memory: where a slice leads, what a swap makes of them. -/
import Derived.Test.YtdeigchkpakdaaaLSort
import Derived.Test.YtdeigchkpakdaaaWorld
import Derived.Deep.WholeRow
import Derived.Laws.ResultCell
import Derived.Deep.LoopGhost
import Derived.BigRegion
namespace Go.Proofs.Ytdeigchkpakdaaa
open Go Go.RowKit

/-- A fact kept from the walk. -/
theorem hide {p : Prop} (h : p) : Hid p := h

/-- The numbers ls lie in memory where a slice leads, in a block from lo up to hi. -/
def Ints (lo hi : Nat) (w : World) (a : Option Addr) (ls : List Int) : Prop :=
  ls.length = 0 ∨ ∃ b off, lo ≤ b ∧ b < hi ∧ b < w.heap.size ∧ a = some ⟨b, off, none⟩ ∧ ∀ i, i < ls.length → w.cell? ⟨b, off + i, none⟩ = some (.int .i64 (ln ls i))

theorem Ints.kept {lo hi : Nat} {M : Nat → Prop} {w w' : World} {a : Option Addr} {ls : List Int} (h : Ints lo hi w a ls) (k : Kept M w w') (hn : ∀ b, lo ≤ b → b < hi → ¬ M b) : Ints lo hi w' a ls := by
  rcases h with h | ⟨b, off, h1, h2, h3, ha, hc⟩
  · exact .inl h
  · exact .inr ⟨b, off, h1, h2, Nat.lt_of_lt_of_le h3 k.size, ha, fun i hi => (k.cell h3 (hn b h1 h2)).trans (hc i hi)⟩
theorem Ints.below {lo hi B : Nat} {w w' : World} {a : Option Addr} {ls : List Int} (h : Ints lo hi w a ls) (k : Below B w w') (hB : hi ≤ B) : Ints lo hi w' a ls :=
  h.kept (Kept.of_below k) (fun b _ h2 h3 => by omega)
theorem Ints.wide {lo hi lo' hi' : Nat} {w : World} {a : Option Addr} {ls : List Int} (h : Ints lo hi w a ls) (h1 : lo' ≤ lo) (h2 : hi ≤ hi') : Ints lo' hi' w a ls := by
  rcases h with h | ⟨b, off, k1, k2, r⟩
  · exact .inl h
  · exact .inr ⟨b, off, by omega, by omega, r⟩

theorem Ints.stay {lo hi : Nat} {w w' : World} {a : Option Addr} {ls : List Int} (h : Ints lo hi w a ls) (k : Below w.heap.size w w') : Ints lo hi w' a ls := by
  rcases h with h | ⟨b, off, h1, h2, h3, ha, hc⟩
  · exact .inl h
  · exact .inr ⟨b, off, h1, h2, Nat.lt_of_lt_of_le h3 k.size, ha, fun i hi => (k.cell (p := ⟨b, off + i, none⟩) h3).trans (hc i hi)⟩
theorem Ints.src {lo hi : Nat} {w : World} {a : Option Addr} {ls : List Int} (h : Ints lo hi w a ls) (h0 : 0 < ls.length) : ∃ ad, a = some ad ∧ ∀ j u, (ls.map (Value.int .i64))[j]? = some u → w.cell? (ad.add j) = some u := by
  obtain ⟨b, off, _, _, _, rfl, hc⟩ := h.resolve_left (by omega)
  refine ⟨_, rfl, fun j u hj => ?_⟩
  have hjl : j < ls.length := by
    rcases Nat.lt_or_ge j ls.length with h' | h'
    · exact h'
    · simp [List.getElem?_eq_none (show (ls.map (Value.int .i64)).length ≤ j by simpa using h')] at hj
  have e : ((⟨b, off, none⟩ : Addr).add j) = ⟨b, off + j, none⟩ := by unfold Addr.add; split <;> simp_all
  rw [e, hc j hjl]
  simp [hjl] at hj
  rw [← hj]
  simp [ln, List.getD, hjl]

theorem lt_of_block' {w : World} {b : Nat} {o : Obj} (h : w.heap[b]? = some o) : b < w.heap.size := by
  rcases Nat.lt_or_ge b w.heap.size with h' | h'
  · exact h'
  · rw [Array.getElem?_eq_none h'] at h; simp at h
theorem heap_old {w : World} {o : Obj} {b : Nat} {p : Obj} (h : w.heap[b]? = some p) : (w.alloc o).heap[b]? = some p := by
  rw [Below.heap_alloc _ _ _ (lt_of_block' h)]; exact h
theorem setRow_alloc_old (w : World) (o : Obj) (g : Nat) (c : Array Value) (h : g < w.heap.size) : (w.alloc o).setRow g c = (w.setRow g c).alloc o := by
  simp only [World.setRow, World.alloc]
  congr 1
  apply Array.ext_getElem?
  intro i
  rw [Array.getElem?_modify, Array.getElem?_push, Array.getElem?_push, Array.getElem?_modify, Array.size_modify]
  by_cases h1 : i = w.heap.size
  · have : ¬ g = i := by omega
    simp [h1]
    intro; omega
  · simp [h1]
theorem wpList_load_row {P : Program} {ops : Array Oper} {rest : List Oper} {op : Oper} {a : Act} {w : World} {Q : Exit → Act → World → Prop} (hgd : op.guard = none) (ty : TypeId) (x : Operand) (ho : op.op = .load ty x)
    (g : Nat) (hx : a.eval x = .pointer (some ⟨g, 0, none⟩)) (cs : Array Value) (t : TypeId) (fr : Nat × Nat) (hg : w.heap[g]? = some (.cells cs t fr)) (d : TypeDesc)
    (hu : P.underlying ty = some d) (hd : (match d with | .struct _ | .array _ _ => true | _ => false) = true) (hi : (P.info? ty).map (·.size) = some cs.size)
    (h : wpList P ops Q rest (a.put op.dst (.agg cs)) w) : wpList P ops Q (op :: rest) a w :=
  wpList_plain hgd fun _ hK => by
    unfold Oper.wp execOp
    simp only [ho, hx, Instr.loadAt, Instr.sureAddr, Sem.run_bind, Sem.run_pure, Result.andThen_ok, run_loadVar_row w g t ty cs fr d hg hu hd hi]
    exact hK _ _ h
theorem wpList_store_row {P : Program} {ops : Array Oper} {rest : List Oper} {op : Oper} {a : Act} {w : World} {Q : Exit → Act → World → Prop} (hgd : op.guard = none) (ty : TypeId) (x y : Operand) (ho : op.op = .store ty x y)
    (g : Nat) (cells : Array Value) (hx : a.eval x = .pointer (some ⟨g, 0, none⟩)) (hy : a.eval y = .agg cells) (old : Array Value) (t : TypeId) (hg : w.heap[g]? = some (.cells old t (0, 0)))
    (hi : (P.info? ty).map (·.size) = some cells.size) (hs : old.size = cells.size) (h1 : cells.all (·.oneCell') = true) (w2 : World) (hw : w.setRow g cells = w2)
    (h : wpList P ops Q rest (a.put op.dst undef) w2) : wpList P ops Q (op :: rest) a w :=
  wpList_plain hgd fun _ hK => by
    unfold Oper.wp execOp
    simp only [ho, hx, hy, Instr.storeAt, Instr.sureAddr, Sem.run_bind, Sem.run_pure, Result.andThen_ok, run_storeVar_row w g t ty old cells hg hi hs h1]
    rw [hw]
    exact hK _ _ h

theorem wpList_load_row_if {P : Program} {ops : Array Oper} {rest : List Oper} {op : Oper} {a : Act} {w : World} {Q : Exit → Act → World → Prop} (ty : TypeId) (x : Operand) (ho : op.op = .load ty x) (hw : Region.wanted op (yielded ops a.tmps) = true)
    (g : Nat) (hx : a.eval x = .pointer (some ⟨g, 0, none⟩)) (cs : Array Value) (t : TypeId) (fr : Nat × Nat) (hg : w.heap[g]? = some (.cells cs t fr)) (d : TypeDesc)
    (hu : P.underlying ty = some d) (hd : (match d with | .struct _ | .array _ _ => true | _ => false) = true) (hi : (P.info? ty).map (·.size) = some cs.size)
    (h : wpList P ops Q rest (a.put op.dst (.agg cs)) w) : wpList P ops Q (op :: rest) a w :=
  wpList_step fun _ hK => by
    rw [if_pos hw]
    unfold Oper.wp execOp
    simp only [ho, hx, Instr.loadAt, Instr.sureAddr, Sem.run_bind, Sem.run_pure, Result.andThen_ok, run_loadVar_row w g t ty cs fr d hg hu hd hi]
    exact hK _ _ h


/-- A row of numbers in a block of its own, with what stands behind it. -/
def rowA (d : List Int) (sp : Array Value) : Array Value := (d.map (Value.int .i64)).toArray ++ sp
def Ro (g : Nat) (sp : Array Value) (d : List Int) (w : World) : Prop := w.heap[g]? = some (.cells (rowA d sp) 3 (0, 0))
theorem rowA_at (d : List Int) (sp : Array Value) {i : Nat} (h : i < d.length) : (rowA d sp)[i]? = some (.int .i64 (ln d i)) := by
  unfold rowA
  rw [Array.getElem?_append_left (by simpa using h)]
  simp [ln_in h, h]
theorem rowA_set (d : List Int) (sp : Array Value) (i : Nat) (v : Int) (h : i < d.length) : (rowA d sp).setIfInBounds i (.int .i64 v) = rowA (d.set i v) sp := by
  unfold rowA
  apply Array.ext_getElem?
  intro k
  rw [Array.getElem?_setIfInBounds]
  by_cases hk : k < d.length
  · rw [Array.getElem?_append_left (by simpa using hk), Array.getElem?_append_left (by simpa using hk)]
    by_cases e : i = k
    · subst e; simp [h]; omega
    · simp [e]
  · have e : ¬ i = k := by omega
    rw [if_neg e, Array.getElem?_append_right (by simpa using hk), Array.getElem?_append_right (by simpa using hk)]
    simp
theorem Ro.lt {g : Nat} {sp : Array Value} {d : List Int} {w : World} (h : Ro g sp d w) : g < w.heap.size := lt_of_block h
theorem Ro.cell {g : Nat} {sp : Array Value} {d : List Int} {w : World} (h : Ro g sp d w) {i : Nat} (hi : i < d.length) : w.cell? ⟨g, i, none⟩ = some (.int .i64 (ln d i)) := by
  rw [cells_of h, rowA_at d sp hi]
theorem Ro.free {g : Nat} {sp : Array Value} {d : List Int} {w : World} (h : Ro g sp d w) (i : Nat) : w.frozen? ⟨g, i, none⟩ = false := free_of h i
theorem Ro.set {g : Nat} {sp : Array Value} {d : List Int} {w : World} (h : Ro g sp d w) {i : Nat} (hi : i < d.length) (v : Int) : Ro g sp (d.set i v) (w.setCell ⟨g, i, none⟩ (.int .i64 v)) := by
  unfold Ro at h ⊢
  rw [set_of h, rowA_set d sp i v hi]
theorem Ro.swp {g : Nat} {sp : Array Value} {d : List Int} {w : World} (h : Ro g sp d w) {i j : Nat} (hi : i < d.length) (hj : j < d.length) : Ro g sp (swp d i j) ((w.setCell ⟨g, i, none⟩ (.int .i64 (ln d j))).setCell ⟨g, j, none⟩ (.int .i64 (ln d i))) := (h.set hi _).set (by simpa using hj) _
theorem Ro.kept {M : Nat → Prop} {g : Nat} {sp : Array Value} {d : List Int} {w w' : World} (h : Ro g sp d w) (k : Kept M w w') (hn : ¬ M g) : Ro g sp d w' := k.heap h hn
theorem Ro.drewN {g : Nat} {sp : Array Value} {d : List Int} {w : World} (h : Ro g sp d w) (n : Nat) : Ro g sp d (w.drewN n) := h
end Go.Proofs.Ytdeigchkpakdaaa
