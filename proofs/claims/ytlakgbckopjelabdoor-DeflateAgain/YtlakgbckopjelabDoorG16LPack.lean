/- Several texts, laid together: LMem, LOwn, LPar, LPack. -/
import Derived.Test.YtlakgbckopjelabDoorG15LSort
import Derived.Test.YtlakgbckopjelabDoorG00Read
import Derived.Deep.WholeRow
import Derived.Laws.ResultCell
import Derived.Deep.LoopGhost
import Derived.BigRegion
import Derived.Laws.AppendOwnNone
import Derived.Deep.MidRow
/- Rows of numbers in memory: where a slice leads, what a swap makes of them. -/
namespace Go.Proofs.YtlakgbckopjelabDoor.L
set_option maxRecDepth 100000
open Go Go.RowKit

/-- A fact kept from the walk. -/
theorem hide {p : Prop} (h : p) : Hid p := h

/-- The numbers ls lie in memory where a slice leads, in a block from lo up to hi. -/
def Ints (lo hi : Nat) (w : World) (a : Option Addr) (ls : List Int) : Prop :=
  ls.length = 0 ∨ ∃ b off, lo ≤ b ∧ b < hi ∧ b < w.heap.size ∧ a = some ⟨b, off, none⟩ ∧ ∀ i, i < ls.length → w.cell? ⟨b, off + i, none⟩ = some (.int .i64 (ln ls i))

theorem Ints.kept {lo hi : Nat} {M : Nat → Prop} {w w' : World} {a : Option Addr} {ls : List Int} (h : Ints lo hi w a ls) (k : Kept M w w') (hn : ∀ b, lo ≤ b → b < hi → ¬ M b) : Ints lo hi w' a ls := by
  rcases h with h | ⟨b, off, h1, h2, h3, ha, hc⟩
  · exact .inl h
  · exact .inr ⟨b, off, h1, h2, Nat.lt_of_lt_of_le h3 k.size, ha, fun i hi => (k.cell h3 (hn b h1 h2)).trans (hc i hi)⟩
theorem Ints.below {lo hi B : Nat} {w w' : World} {a : Option Addr} {ls : List Int} (h : Ints lo hi w a ls) (k : Below B w w') (hB : hi ≤ B) : Ints lo hi w' a ls :=
  h.kept (Kept.of_below k) (fun b _ h2 h3 => by omega)
theorem Ints.wide {lo hi lo' hi' : Nat} {w : World} {a : Option Addr} {ls : List Int} (h : Ints lo hi w a ls) (h1 : lo' ≤ lo) (h2 : hi ≤ hi') : Ints lo' hi' w a ls := by
  rcases h with h | ⟨b, off, k1, k2, r⟩
  · exact .inl h
  · exact .inr ⟨b, off, by omega, by omega, r⟩

theorem Ints.stay {lo hi : Nat} {w w' : World} {a : Option Addr} {ls : List Int} (h : Ints lo hi w a ls) (k : Below w.heap.size w w') : Ints lo hi w' a ls := by
  rcases h with h | ⟨b, off, h1, h2, h3, ha, hc⟩
  · exact .inl h
  · exact .inr ⟨b, off, h1, h2, Nat.lt_of_lt_of_le h3 k.size, ha, fun i hi => (k.cell (p := ⟨b, off + i, none⟩) h3).trans (hc i hi)⟩
theorem Ints.src {lo hi : Nat} {w : World} {a : Option Addr} {ls : List Int} (h : Ints lo hi w a ls) (h0 : 0 < ls.length) : ∃ ad, a = some ad ∧ ∀ j u, (ls.map (Value.int .i64))[j]? = some u → w.cell? (ad.add j) = some u := by
  obtain ⟨b, off, _, _, _, rfl, hc⟩ := h.resolve_left (by omega)
  refine ⟨_, rfl, fun j u hj => ?_⟩
  have hjl : j < ls.length := by
    rcases Nat.lt_or_ge j ls.length with h' | h'
    · exact h'
    · simp [List.getElem?_eq_none (show (ls.map (Value.int .i64)).length ≤ j by simpa using h')] at hj
  have e : ((⟨b, off, none⟩ : Addr).add j) = ⟨b, off + j, none⟩ := by unfold Addr.add; split <;> simp_all
  rw [e, hc j hjl]
  simp [hjl] at hj
  rw [← hj]
  simp [ln, List.getD, hjl]

theorem lt_of_block' {w : World} {b : Nat} {o : Obj} (h : w.heap[b]? = some o) : b < w.heap.size := by
  rcases Nat.lt_or_ge b w.heap.size with h' | h'
  · exact h'
  · rw [Array.getElem?_eq_none h'] at h; simp at h
theorem heap_old {w : World} {o : Obj} {b : Nat} {p : Obj} (h : w.heap[b]? = some p) : (w.alloc o).heap[b]? = some p := by
  rw [Below.heap_alloc _ _ _ (lt_of_block' h)]; exact h
theorem setRow_alloc_old (w : World) (o : Obj) (g : Nat) (c : Array Value) (h : g < w.heap.size) : (w.alloc o).setRow g c = (w.setRow g c).alloc o := by
  simp only [World.setRow, World.alloc]
  congr 1
  apply Array.ext_getElem?
  intro i
  rw [Array.getElem?_modify, Array.getElem?_push, Array.getElem?_push, Array.getElem?_modify, Array.size_modify]
  by_cases h1 : i = w.heap.size
  · have : ¬ g = i := by omega
    simp [h1]
    intro; omega
  · simp [h1]
theorem wpList_load_row {P : Program} {ops : Array Oper} {rest : List Oper} {op : Oper} {a : Act} {w : World} {Q : Exit → Act → World → Prop} (hgd : op.guard = none) (ty : TypeId) (x : Operand) (ho : op.op = .load ty x)
    (g : Nat) (hx : a.eval x = .pointer (some ⟨g, 0, none⟩)) (cs : Array Value) (t : TypeId) (fr : Nat × Nat) (hg : w.heap[g]? = some (.cells cs t fr)) (d : TypeDesc)
    (hu : P.underlying ty = some d) (hd : (match d with | .struct _ | .array _ _ => true | _ => false) = true) (hi : (P.info? ty).map (·.size) = some cs.size)
    (h : wpList P ops Q rest (a.put op.dst (.agg cs)) w) : wpList P ops Q (op :: rest) a w :=
  wpList_plain hgd fun _ hK => by
    unfold Oper.wp execOp
    simp only [ho, hx, Instr.loadAt, Instr.sureAddr, Sem.run_bind, Sem.run_pure, Result.andThen_ok, run_loadVar_row w g t ty cs fr d hg hu hd hi]
    exact hK _ _ h
theorem wpList_store_row {P : Program} {ops : Array Oper} {rest : List Oper} {op : Oper} {a : Act} {w : World} {Q : Exit → Act → World → Prop} (hgd : op.guard = none) (ty : TypeId) (x y : Operand) (ho : op.op = .store ty x y)
    (g : Nat) (cells : Array Value) (hx : a.eval x = .pointer (some ⟨g, 0, none⟩)) (hy : a.eval y = .agg cells) (old : Array Value) (t : TypeId) (hg : w.heap[g]? = some (.cells old t (0, 0)))
    (hi : (P.info? ty).map (·.size) = some cells.size) (hs : old.size = cells.size) (h1 : cells.all (·.oneCell') = true) (w2 : World) (hw : w.setRow g cells = w2)
    (h : wpList P ops Q rest (a.put op.dst undef) w2) : wpList P ops Q (op :: rest) a w :=
  wpList_plain hgd fun _ hK => by
    unfold Oper.wp execOp
    simp only [ho, hx, hy, Instr.storeAt, Instr.sureAddr, Sem.run_bind, Sem.run_pure, Result.andThen_ok, run_storeVar_row w g t ty old cells hg hi hs h1]
    rw [hw]
    exact hK _ _ h

theorem wpList_load_row_if {P : Program} {ops : Array Oper} {rest : List Oper} {op : Oper} {a : Act} {w : World} {Q : Exit → Act → World → Prop} (ty : TypeId) (x : Operand) (ho : op.op = .load ty x) (hw : Region.wanted op (yielded ops a.tmps) = true)
    (g : Nat) (hx : a.eval x = .pointer (some ⟨g, 0, none⟩)) (cs : Array Value) (t : TypeId) (fr : Nat × Nat) (hg : w.heap[g]? = some (.cells cs t fr)) (d : TypeDesc)
    (hu : P.underlying ty = some d) (hd : (match d with | .struct _ | .array _ _ => true | _ => false) = true) (hi : (P.info? ty).map (·.size) = some cs.size)
    (h : wpList P ops Q rest (a.put op.dst (.agg cs)) w) : wpList P ops Q (op :: rest) a w :=
  wpList_step fun _ hK => by
    rw [if_pos hw]
    unfold Oper.wp execOp
    simp only [ho, hx, Instr.loadAt, Instr.sureAddr, Sem.run_bind, Sem.run_pure, Result.andThen_ok, run_loadVar_row w g t ty cs fr d hg hu hd hi]
    exact hK _ _ h


/-- A row of numbers in a block of its own, with what stands behind it. -/
def rowA (d : List Int) (sp : Array Value) : Array Value := (d.map (Value.int .i64)).toArray ++ sp
def Ro (g : Nat) (sp : Array Value) (d : List Int) (w : World) : Prop := w.heap[g]? = some (.cells (rowA d sp) 3 (0, 0))
theorem rowA_at (d : List Int) (sp : Array Value) {i : Nat} (h : i < d.length) : (rowA d sp)[i]? = some (.int .i64 (ln d i)) := by
  unfold rowA
  rw [Array.getElem?_append_left (by simpa using h)]
  simp [ln_in h, h]
theorem rowA_set (d : List Int) (sp : Array Value) (i : Nat) (v : Int) (h : i < d.length) : (rowA d sp).setIfInBounds i (.int .i64 v) = rowA (d.set i v) sp := by
  unfold rowA
  apply Array.ext_getElem?
  intro k
  rw [Array.getElem?_setIfInBounds]
  by_cases hk : k < d.length
  · rw [Array.getElem?_append_left (by simpa using hk), Array.getElem?_append_left (by simpa using hk)]
    by_cases e : i = k
    · subst e; simp [h]; omega
    · simp [e]
  · have e : ¬ i = k := by omega
    rw [if_neg e, Array.getElem?_append_right (by simpa using hk), Array.getElem?_append_right (by simpa using hk)]
    simp
theorem Ro.lt {g : Nat} {sp : Array Value} {d : List Int} {w : World} (h : Ro g sp d w) : g < w.heap.size := lt_of_block h
theorem Ro.cell {g : Nat} {sp : Array Value} {d : List Int} {w : World} (h : Ro g sp d w) {i : Nat} (hi : i < d.length) : w.cell? ⟨g, i, none⟩ = some (.int .i64 (ln d i)) := by
  rw [cells_of h, rowA_at d sp hi]
theorem Ro.free {g : Nat} {sp : Array Value} {d : List Int} {w : World} (h : Ro g sp d w) (i : Nat) : w.frozen? ⟨g, i, none⟩ = false := free_of h i
theorem Ro.set {g : Nat} {sp : Array Value} {d : List Int} {w : World} (h : Ro g sp d w) {i : Nat} (hi : i < d.length) (v : Int) : Ro g sp (d.set i v) (w.setCell ⟨g, i, none⟩ (.int .i64 v)) := by
  unfold Ro at h ⊢
  rw [set_of h, rowA_set d sp i v hi]
theorem Ro.swp {g : Nat} {sp : Array Value} {d : List Int} {w : World} (h : Ro g sp d w) {i j : Nat} (hi : i < d.length) (hj : j < d.length) : Ro g sp (swp d i j) ((w.setCell ⟨g, i, none⟩ (.int .i64 (ln d j))).setCell ⟨g, j, none⟩ (.int .i64 (ln d i))) := (h.set hi _).set (by simpa using hj) _
theorem Ro.kept {M : Nat → Prop} {g : Nat} {sp : Array Value} {d : List Int} {w w' : World} (h : Ro g sp d w) (k : Kept M w w') (hn : ¬ M g) : Ro g sp d w' := k.heap h hn
theorem Ro.drewN {g : Nat} {sp : Array Value} {d : List Int} {w : World} (h : Ro g sp d w) (n : Nat) : Ro g sp d (w.drewN n) := h
end Go.Proofs.YtlakgbckopjelabDoor.L

/- Rows of numbers that are a call's own: appended to, made. -/
namespace Go.Proofs.YtlakgbckopjelabDoor.L
set_option maxRecDepth 100000
open Go Go.RowKit

theorem Tryd.info3 : (Tryd.prog.info? 3).map (fun i => (i.zero, i.size, i.bytes)) = some (some (.int .i64 0), 1, 8) := by kernel_rfl
/-- A slice value that owns the numbers L. -/
def Owns (w : World) (base : Nat) (v : Value) (L : List Int) : Prop := w.ownsRow base 3 1 v L.length (L.map (Value.int .i64))

theorem Owns.nil (w : World) (base : Nat) : Owns w base (.slice none 0 0) [] := World.ownsRow_nil _ _ _ _
theorem Owns.kept {M : Nat → Prop} {w w' : World} {base : Nat} {v : Value} {L : List Int} (h : Owns w base v L) (k : Kept M w w') (hn : ∀ g, v.ownBlock = some g → ¬ M g) : Owns w' base v L := ownsRow_kept h k hn
theorem Owns.low {w : World} {base base' : Nat} {v : Value} {L : List Int} (h : Owns w base v L) (hb : base' ≤ base) : Owns w base' v L := by
  obtain ⟨h1, h2⟩ := h
  refine ⟨h1, ?_⟩
  rcases h2 with h2 | ⟨g, cap, cur, hv, hg, r⟩
  · exact .inl h2
  · exact .inr ⟨g, cap, cur, hv, by omega, r⟩
theorem Owns.form {w : World} {base : Nat} {v : Value} {L : List Int} (h : Owns w base v L) : ∃ a cap, v = .slice a L.length cap ∧ (0 < L.length → ∃ g, v.ownBlock = some g ∧ base ≤ g ∧ g < w.heap.size ∧ a = some ⟨g, 0, none⟩ ∧ ∀ j, j < L.length → w.cell? ⟨g, j, none⟩ = some (.int .i64 (L.getD j 0))) := by
  rcases h.2 with ⟨rfl, h2⟩ | ⟨g, cap, cur, rfl, hg, hh, hr⟩
  · exact ⟨none, 0, by rw [h2], fun h => by omega⟩
  · refine ⟨_, _, rfl, fun _ => ⟨g, rfl, hg, lt_of_block hh, rfl, fun j hj => ?_⟩⟩
    have := World.ownsRow.cellAt h j (by omega)
    rw [this]
    simp [List.getD, hj]
theorem Owns.push {w : World} {base : Nat} {v : Value} {L : List Int} {x : Int} (h : w.ownsRow base 3 1 v (L.length + 1) (L.map (Value.int .i64) ++ [.int .i64 x])) : Owns w base v (L ++ [x]) := by
  unfold Owns
  simpa using h

theorem one_int (w : World) (x : Value) : ∀ j u, [x][j]? = some u → (w.alloc (.cells #[x] 3)).cell? ((⟨w.heap.size, 0, none⟩ : Addr).add j) = some u := World.news_of_block (heap_new w (.cells #[x] 3))

theorem own_form {w : World} {base e : Nat} {v : Value} {n : Nat} {xs : List Value} (h : w.ownsRow base e 1 v n xs) : ∃ a cap, v = .slice a n cap := by
  rcases h.2 with ⟨rfl, h2⟩ | ⟨g, cap, cur, rfl, _⟩
  · exact ⟨none, 0, by rw [h2]⟩
  · exact ⟨_, _, rfl⟩

theorem one_int' (w : World) (x : Value) (n : Nat) (h : w.heap.size = n) : ∀ j u, [x][j]? = some u → (w.alloc (.cells #[x] 3)).cell? ((⟨n, 0, none⟩ : Addr).add j) = some u := by
  subst h; exact one_int w x

theorem Owns.ints {w : World} {base : Nat} {v : Value} {L : List Int} (h : Owns w base v L) : ∃ a cap, v = .slice a L.length cap ∧ Ints base w.heap.size w a L := by
  obtain ⟨a, cap, hv, hf⟩ := h.form
  refine ⟨a, cap, hv, ?_⟩
  by_cases h0 : L.length = 0
  · exact .inl h0
  · obtain ⟨g, _, h2, h3, ha, hc⟩ := hf (by omega)
    exact .inr ⟨g, 0, h2, h3, h3, ha, fun i hi => by rw [Nat.zero_add]; exact hc i hi⟩


/-- An owned row lies in a block of its own. -/
theorem Owns.ro {w : World} {base : Nat} {v : Value} {L : List Int} (h : Owns w base v L) (h0 : L ≠ []) : ∃ g sp cap, v = .slice (some ⟨g, 0, none⟩) L.length cap ∧ base ≤ g ∧ L.length ≤ cap ∧ cap ≤ maxLen ∧ sp.size = cap - L.length ∧ Ro g sp L w := by
  rcases h.2 with ⟨_, h2⟩ | ⟨g, cap, cur, rfl, hg, hh, hc1, hc2, hc3, hc4⟩
  · exact absurd (List.eq_nil_of_length_eq_zero h2) h0
  · rw [Nat.mul_one] at hc3 hc4
    refine ⟨g, (cur.toList.drop L.length).toArray, cap, rfl, hg, hc1, hc2, by simp [hc3], ?_⟩
    unfold Ro rowA
    rw [hh, ← hc4]
    simp
theorem Owns.of_ro {w : World} {base g cap : Nat} {sp : Array Value} {L : List Int} (h : Ro g sp L w) (hg : base ≤ g) (hc : L.length ≤ cap) (hm : cap ≤ maxLen) (hs : sp.size = cap - L.length) : Owns w base (.slice (some ⟨g, 0, none⟩) L.length cap) L := by
  refine ⟨by simp, .inr ⟨g, cap, rowA L sp, rfl, hg, h, hc, hm, ?_, ?_⟩⟩
  · simp [rowA, hs]; omega
  · simp [rowA]
theorem made_ints (n : Nat) (i : TypeInfo) (hi : Tryd.prog.info? 3 = some i) (hz : i.zero = some (.int .i64 0)) (hs : i.size = 1) (hb : i.bytes = 8) (hn : n ≤ 1000000000) (W : World) :
    (Instr.makeSlice 41 (.int .i64 (n : Int)) (.int .i64 (n : Int))).run Tryd.prog W = .ok (.slice (some ⟨W.heap.size, 0, none⟩) n n) (W.alloc (.cells (rowA (List.replicate n 0) #[]) 3)) := by
  have := run_make (P := Tryd.prog) W 41 3 i (.int .i64 0) Tryd.underlying41 hi hz .i64 .i64 n n (by omega) (by omega) (by rw [hb]; omega) (by omega)
  rw [this, hs]
  have e2 : madeCells (Value.int .i64 0).cells n = rowA (List.replicate n 0) #[] := by
    have := toList_madeCells_one (Value.int .i64 0) n
    rw [← Array.toList_inj]
    simpa [Value.cells, rowA] using this
  rw [Int.toNat_natCast, Nat.mul_one, e2]
theorem Ro.ints {g : Nat} {sp : Array Value} {d : List Int} {w : World} (h : Ro g sp d w) {lo hi : Nat} (h1 : lo ≤ g) (h2 : g < hi) : Ints lo hi w (some ⟨g, 0, none⟩) d :=
  .inr ⟨g, 0, h1, h2, h.lt, rfl, fun i hi => by rw [Nat.zero_add]; exact h.cell hi⟩
end Go.Proofs.YtlakgbckopjelabDoor.L

/- Rows of parcels in memory: two cells each. -/
namespace Go.Proofs.YtlakgbckopjelabDoor.L
set_option maxRecDepth 100000
open Go Go.RowKit

/-- A parcel of a row. -/
def px (xs : List (Int × Bool)) (i : Nat) : Int × Bool := xs.getD i (0, false)
theorem px_in {xs : List (Int × Bool)} {i : Nat} (h : i < xs.length) : px xs i = xs[i] := by simp [px, List.getD, h]
theorem px_set (xs : List (Int × Bool)) (i : Nat) (v : Int × Bool) (h : i < xs.length) (x : Nat) : px (xs.set i v) x = if x = i then v else px xs x := by
  unfold px List.getD
  rw [List.getElem?_set]
  by_cases e : i = x
  · subst e; simp [h]
  · have : ¬ x = i := fun e' => e e'.symm
    simp [e, this]
/-- The cells of a row. -/
def pc (xs : List (Int × Bool)) (j : Nat) : Value := if j % 2 = 0 then .int .i64 (px xs (j / 2)).1 else .bool (px xs (j / 2)).2
def parA (xs : List (Int × Bool)) : Array Value := ((List.range (2 * xs.length)).map (pc xs)).toArray
theorem parA_size (xs : List (Int × Bool)) : (parA xs).size = 2 * xs.length := by simp [parA]
theorem parA_at (xs : List (Int × Bool)) {j : Nat} (h : j < 2 * xs.length) : (parA xs)[j]? = some (pc xs j) := by simp [parA, h]
theorem pc_even (xs : List (Int × Bool)) (i : Nat) : pc xs (2 * i) = .int .i64 (px xs i).1 := by
  unfold pc; rw [if_pos (by omega), show 2 * i / 2 = i by omega]
theorem pc_odd (xs : List (Int × Bool)) (i : Nat) : pc xs (2 * i + 1) = .bool (px xs i).2 := by
  unfold pc; rw [if_neg (by omega), show (2 * i + 1) / 2 = i by omega]
theorem parA_set (xs : List (Int × Bool)) (i : Nat) (v : Int × Bool) (h : i < xs.length) : ((parA xs).setIfInBounds (2 * i) (.int .i64 v.1)).setIfInBounds (2 * i + 1) (.bool v.2) = parA (xs.set i v) := by
  apply Array.ext_getElem?
  intro j
  rw [Array.getElem?_setIfInBounds, Array.getElem?_setIfInBounds]
  by_cases hj : j < 2 * xs.length
  · rw [parA_at xs hj, parA_at (xs.set i v) (by simpa using hj)]
    by_cases e1 : 2 * i + 1 = j
    · subst e1
      rw [if_pos rfl, if_pos (by simp [parA_size]; omega), pc_odd, px_set xs i v h, if_pos rfl]
    · rw [if_neg e1]
      by_cases e2 : 2 * i = j
      · subst e2
        rw [if_pos rfl, if_pos (by simp [parA_size]; omega), pc_even, px_set xs i v h, if_pos rfl]
      · rw [if_neg e2]
        have hne : ¬ j / 2 = i := by omega
        simp only [pc, px_set xs i v h, if_neg hne]
  · rw [if_neg (by omega), if_neg (by omega)]
    simp [parA, hj]
theorem parA_set0 (xs : List (Int × Bool)) (i : Nat) (x : Int) (h : i < xs.length) : (parA xs).setIfInBounds (2 * i) (.int .i64 x) = parA (xs.set i (x, (px xs i).2)) := by
  have := parA_set xs i (x, (px xs i).2) h
  rw [← this]
  apply Array.ext_getElem?
  intro j
  rw [Array.getElem?_setIfInBounds (i := 2 * i + 1)]
  by_cases e : 2 * i + 1 = j
  · subst e
    rw [if_pos rfl, if_pos (by simp [parA_size]; omega), Array.getElem?_setIfInBounds, if_neg (by omega), parA_at xs (by omega), pc_odd]
  · rw [if_neg e]
/-- A row of parcels in a block of its own. -/
def PRo (g : Nat) (xs : List (Int × Bool)) (w : World) : Prop := w.heap[g]? = some (.cells (parA xs) 120 (0, 0))
theorem PRo.lt {g : Nat} {xs : List (Int × Bool)} {w : World} (h : PRo g xs w) : g < w.heap.size := lt_of_block h
theorem PRo.kept {M : Nat → Prop} {g : Nat} {xs : List (Int × Bool)} {w w' : World} (h : PRo g xs w) (k : Kept M w w') (hn : ¬ M g) : PRo g xs w' := k.heap h hn
theorem PRo.c0 {g : Nat} {xs : List (Int × Bool)} {w : World} (h : PRo g xs w) {i : Nat} (hi : i < xs.length) : w.cell? ⟨g, 2 * i, none⟩ = some (.int .i64 (px xs i).1) := by
  rw [cells_of h, parA_at xs (by omega), pc_even]
theorem PRo.c1 {g : Nat} {xs : List (Int × Bool)} {w : World} (h : PRo g xs w) {i : Nat} (hi : i < xs.length) : w.cell? ⟨g, 2 * i + 1, none⟩ = some (.bool (px xs i).2) := by
  rw [cells_of h, parA_at xs (by omega), pc_odd]
theorem PRo.free {g : Nat} {xs : List (Int × Bool)} {w : World} (h : PRo g xs w) (i : Nat) : w.frozen? ⟨g, i, none⟩ = false := free_of h i
theorem PRo.set {g : Nat} {xs : List (Int × Bool)} {w : World} (h : PRo g xs w) {i : Nat} (hi : i < xs.length) (v : Int × Bool) : PRo g (xs.set i v) ((w.setCell ⟨g, 2 * i, none⟩ (.int .i64 v.1)).setCell ⟨g, 2 * i + 1, none⟩ (.bool v.2)) := by
  unfold PRo at h ⊢
  rw [set_of (set_of h (2 * i) _), parA_set xs i v hi]
theorem PRo.set0 {g : Nat} {xs : List (Int × Bool)} {w : World} (h : PRo g xs w) {i : Nat} (hi : i < xs.length) (x : Int) : PRo g (xs.set i (x, (px xs i).2)) (w.setCell ⟨g, 2 * i, none⟩ (.int .i64 x)) := by
  unfold PRo at h ⊢
  rw [set_of h (2 * i) _, parA_set0 xs i x hi]
theorem PRo.range {g : Nat} {xs : List (Int × Bool)} {w : World} (h : PRo g xs w) {i : Nat} (hi : i < xs.length) : w.rangeAt g (2 * i) [.int .i64 (px xs i).1, .bool (px xs i).2] := by
  intro j v hv
  match j, hv with
  | 0, hv => simp at hv; subst hv; exact h.c0 hi
  | 1, hv => simp at hv; subst hv; exact h.c1 hi
/-- The parcels xs where a slice leads. -/
def Par (lo hi : Nat) (w : World) (a : Option Addr) (xs : List (Int × Bool)) : Prop :=
  xs.length = 0 ∨ ∃ b s ys, lo ≤ b ∧ b < hi ∧ PRo b ys w ∧ a = some ⟨b, 2 * s, none⟩ ∧ s + xs.length ≤ ys.length ∧ ∀ i, i < xs.length → px ys (s + i) = px xs i
theorem Par.kept {lo hi : Nat} {M : Nat → Prop} {w w' : World} {a : Option Addr} {xs : List (Int × Bool)} (h : Par lo hi w a xs) (k : Kept M w w') (hn : ∀ b, lo ≤ b → b < hi → ¬ M b) : Par lo hi w' a xs := by
  rcases h with h | ⟨b, s, ys, h1, h2, h3, r⟩
  · exact .inl h
  · exact .inr ⟨b, s, ys, h1, h2, h3.kept k (hn b h1 h2), r⟩
theorem Par.of_ro {g lo hi : Nat} {xs : List (Int × Bool)} {w : World} (h : PRo g xs w) (h1 : lo ≤ g) (h2 : g < hi) : Par lo hi w (some ⟨g, 0, none⟩) xs :=
  .inr ⟨g, 0, xs, h1, h2, h, rfl, by omega, fun i _ => by rw [Nat.zero_add]⟩
theorem Par.wide {lo hi lo' hi' : Nat} {w : World} {a : Option Addr} {xs : List (Int × Bool)} (h : Par lo hi w a xs) (h1 : lo' ≤ lo) (h2 : hi ≤ hi') : Par lo' hi' w a xs := by
  rcases h with h | ⟨b, s, ys, k1, k2, r⟩
  · exact .inl h
  · exact .inr ⟨b, s, ys, by omega, by omega, r⟩
/-- A row that is filled place by place. -/
def filP (ys : List (Int × Bool)) (i : Nat) : List (Int × Bool) := (List.range ys.length).map fun j => if j < i then px ys j else (0, false)
theorem filP_length (ys : List (Int × Bool)) (i : Nat) : (filP ys i).length = ys.length := by simp [filP]
theorem filP_zero (ys : List (Int × Bool)) : filP ys 0 = List.replicate ys.length (0, false) := by
  apply List.ext_getElem?
  intro k
  by_cases h : k < ys.length
  · simp [filP, h]
  · simp [filP, h]
theorem filP_all (ys : List (Int × Bool)) : filP ys ys.length = ys := by
  apply List.ext_getElem?
  intro k
  by_cases h : k < ys.length
  · simp [filP, h, px_in h]
  · simp [filP, h]
theorem filP_set (ys : List (Int × Bool)) (i : Nat) (h : i < ys.length) : (filP ys i).set i (px ys i) = filP ys (i + 1) := by
  apply List.ext_getElem?
  intro k
  rw [List.getElem?_set, filP_length]
  by_cases e : i = k
  · subst e
    simp [filP, h]
  · rw [if_neg e]
    by_cases hk : k < ys.length
    · have : k < i ↔ k < i + 1 := by omega
      simp [filP, hk, this]
    · simp [filP, hk]
theorem Tryd.infoPar : (Tryd.prog.info? 120).map (fun i => (i.zero, i.size, i.bytes)) = some (some (.agg #[.int .i64 0, .bool false]), 2, 16) := by kernel_rfl
theorem parA_zero (n : Nat) : madeCells (Value.agg #[.int .i64 0, .bool false]).cells (n * 2) = parA (List.replicate n (0, false)) := by
  apply Array.ext_getElem?
  intro j
  by_cases h : j < 2 * n
  · rw [parA_at _ (by simpa using h)]
    have hp : px (List.replicate n ((0 : Int), false)) (j / 2) = (0, false) := by
      rw [px_in (by simp; omega)]; simp
    unfold pc
    rw [hp]
    have hj : j < n * 2 := by omega
    by_cases e : j % 2 = 0
    · simp [madeCells, Value.cells, hj, e]
    · have e1 : j % 2 = 1 := by omega
      simp [madeCells, Value.cells, hj, e1]
  · have hj : ¬ j < n * 2 := by omega
    rw [Array.getElem?_eq_none (by rw [size_madeCells]; omega), Array.getElem?_eq_none (by rw [parA_size]; simp; omega)]
theorem made_pars (n : Nat) (i : TypeInfo) (hi : Tryd.prog.info? 120 = some i) (hz : i.zero = some (.agg #[.int .i64 0, .bool false])) (hs : i.size = 2) (hb : i.bytes = 16) (hn : n ≤ 100000000) (W : World) :
    (Instr.makeSlice 118 (.int .i64 (n : Int)) (.int .i64 (n : Int))).run Tryd.prog W = .ok (.slice (some ⟨W.heap.size, 0, none⟩) n n) (W.alloc (.cells (parA (List.replicate n (0, false))) 120)) := by
  have := run_make (P := Tryd.prog) W 118 120 i (.agg #[.int .i64 0, .bool false]) Tryd.underlying118 hi hz .i64 .i64 n n (by omega) (by omega) (by rw [hb]; omega) (by omega)
  rw [this, hs, Int.toNat_natCast, parA_zero]
end Go.Proofs.YtlakgbckopjelabDoor.L

/- Parcels taken together two by two. -/
namespace Go.Proofs.YtlakgbckopjelabDoor.L
set_option maxRecDepth 100000
open Go Go.RowKit

def prsP (xs : List (Int × Bool)) : List (Int × Bool) := (List.range (xs.length / 2)).map fun i => ((px xs (2 * i)).1 + (px xs (2 * i + 1)).1, true)
theorem prsP_length (xs : List (Int × Bool)) : (prsP xs).length = xs.length / 2 := by simp [prsP]
theorem prsP_at (xs : List (Int × Bool)) {i : Nat} (h : i < xs.length / 2) : px (prsP xs) i = ((px xs (2 * i)).1 + (px xs (2 * i + 1)).1, true) := by
  rw [px_in (by rw [prsP_length]; exact h)]; simp [prsP]
/-- No parcel is too great. -/
def Small (xs : List (Int × Bool)) (W : Int) : Prop := ∀ i, i < xs.length → 0 ≤ (px xs i).1 ∧ (px xs i).1 ≤ W

set_option maxHeartbeats 1000000 in
set_option maxRecDepth 100000 in
theorem pack_c (lo hi : Nat) (a : Option Addr) (cap : Nat) (xs : List (Int × Bool)) (w : World) (hn : xs.length ≤ 100000) (hs : Small xs 1152921504606846976) (hhi : hi ≤ w.heap.size) (hP : Par lo hi w a xs) :
    Calls Tryd.prog 74 #[.slice a xs.length cap] w fun e w' => e = .returned (.slice (some ⟨w.heap.size, 0, none⟩) (xs.length / 2) (xs.length / 2)) ∧ PRo w.heap.size (prsP xs) w' ∧ Below w.heap.size w w' := by
  obtain ⟨i0, hi0, hz0, hz1', hz2'⟩ := info_parts Tryd.infoPar
  have hmk := made_pars (xs.length / 2) i0 hi0 hz0 hz1' hz2' (by omega)
  obtain ⟨N, hN⟩ : ∃ N, xs.length / 2 = N := ⟨_, rfl⟩
  have HN := hide hN
  have hN' : (xs.length : Int) / 2 = (N : Int) := by omega
  have hN1 : 2 * N ≤ xs.length := by omega
  rw [hN] at hmk ⊢
  clear hN
  have HP := hide hP
  have HS := hide hs
  clear hP hs
  go_enter Tryd.func74, Tryd.ntmps74
  go_wp2_with fail
  go_loopg [11] N (fun gk v11 wx => ∃ i : Nat, i + gk = N ∧ v11 = .int .i64 i ∧ Hid (PRo w.heap.size (filP (prsP xs) i) wx ∧ Below w.heap.size w wx))
  case atStart =>
    refine ⟨0, by omega, rfl, ?_, (Below.refl _ w).alloc (Nat.le_refl _) _⟩
    rw [filP_zero, prsP_length, HN.out]
    exact heap_new w _
  case round =>
    obtain ⟨i, hig, rfl, HI⟩ := hrel
    cases gk with
    | zero =>
      obtain rfl : i = N := by omega
      go_wp2_with fail
      go_ret
      have := HI.out
      rw [← HN.out, ← prsP_length, filP_all] at this
      exact ⟨rfl, this⟩
    | succ gk =>
      obtain ⟨b, s, ys, hb1, hb2, hro, rfl, hle, hpx⟩ := HP.out.resolve_left (by omega)
      have hrw : PRo b ys wr := hro.kept (Kept.of_below HI.out.2) (by omega)
      have hlt : (i : Int) < (N : Int) := by omega
      have e1 := hpx (2 * i) (by omega)
      have e2 := hpx (2 * i + 1) (by omega)
      have cx := hrw.c0 (i := s + 2 * i) (by omega)
      have cy := hrw.c0 (i := s + (2 * i + 1)) (by omega)
      rw [e1] at cx
      rw [e2] at cy
      have hx0 : (0 : Int) ≤ 2 * (i : Int) + 1 := by omega
      have hx1 : 2 * (i : Int) + 1 < (xs.length : Int) := by omega
      have hx2 : (2 * (i : Int) + 1).toNat = 2 * i + 1 := by omega
      have hx3 : (0 : Int) ≤ 2 * (i : Int) := by omega
      have hx4 : 2 * (i : Int) < (xs.length : Int) := by omega
      have hx5 : (2 * (i : Int)).toNat = 2 * i := by omega
      have bX := HS.out (2 * i) (by omega)
      have bY := HS.out (2 * i + 1) (by omega)
      have hset := HI.out.1.set (i := i) (by rw [filP_length, prsP_length, HN.out]; omega) (px (prsP xs) i)
      rw [filP_set _ i (by rw [prsP_length, HN.out]; omega), prsP_at xs (by rw [HN.out]; omega)] at hset
      have HSET := hide hset
      have t0 := HI.out.1.c0 (i := i) (by rw [filP_length, prsP_length, HN.out]; omega)
      have t1 := HI.out.1.c1 (i := i) (by rw [filP_length, prsP_length, HN.out]; omega)
      have f0 := HI.out.1.free (2 * i)
      have f1 := HI.out.1.free (2 * i + 1)
      rw [show 2 * (s + 2 * i) = 2 * s + 2 * i * 2 by omega] at cx
      rw [show 2 * (s + (2 * i + 1)) = 2 * s + (2 * i + 1) * 2 by omega] at cy
      rw [show 2 * i = i * 2 by omega] at t0 t1 f0 f1
      clear hset hpx e1 e2
      generalize (px xs (2 * i)).1 = X at cx bX HSET
      generalize (px xs (2 * i + 1)).1 = Y at cy bY HSET
      generalize (px (filP (prsP xs) i) i).1 = T0 at t0
      generalize (px (filP (prsP xs) i) i).2 = T1 at t1
      go_wp2_with fail
      go_region
      go_wp2_with fail
      go_roundg gk
      case measure => omega
      case rel =>
        have hs := HSET.out
        rw [show 2 * i = i * 2 by omega] at hs
        exact ⟨i + 1, by omega, by go_num, hs, ((HI.out.2.setCell (Nat.le_refl _) _).setCell (Nat.le_refl _) _).drew⟩
end Go.Proofs.YtlakgbckopjelabDoor.L
