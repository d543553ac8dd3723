/- A row of entries in a block of its own, whole: made, copied, one place written. -/
import Derived.Test.YtlfffpgokemjbabUWq
import Derived.Laws.CopyRow
import Derived.Laws.MakeOwn
import Derived.Laws.IdiomCopy
import Derived.Deep.WholeRow
namespace Go.Proofs.Ytlfffpgokemjbab.U
set_option maxRecDepth 100000
open Go Go.RowKit
set_option linter.unusedVariables false
theorem enL_len : ∀ ms : List En, (enL ms).length = ms.length * 6
  | [] => rfl
  | m :: r => by
    have hl : m.cells.toList.length = 6 := rfl
    show (m.cells.toList ++ enL r).length = _
    rw [List.length_append, hl, enL_len r, List.length_cons]; omega
theorem enL_one {ms : List En} {v : Value} (h : v ∈ enL ms) : v.oneCell' = true := by
  unfold enL at h
  obtain ⟨m, _, hm⟩ := List.mem_flatMap.1 h
  simp [En.cells] at hm
  rcases hm with rfl | rfl | rfl | rfl | rfl | rfl <;> rfl
/-- A row of entries in a block of its own. -/
def Er (g : Nat) (ms : List En) (w : World) : Prop := w.heap[g]? = some (.cells (enL ms).toArray 27 (0, 0))
theorem Er.lt {g : Nat} {ms : List En} {w : World} (h : Er g ms w) : g < w.heap.size := lt_of_block h
theorem Er.cell {g : Nat} {ms : List En} {w : World} (h : Er g ms w) {i : Nat} {m : En} (hm : ms[i]? = some m) {j : Nat} {u : Value} (hu : m.cells[j]? = some u) : w.cell? ⟨g, i * 6 + j, none⟩ = some u := by
  have hj : j < 6 := by
    rcases Nat.lt_or_ge j 6 with h' | h'
    · exact h'
    · have : m.cells.size = 6 := rfl
      rw [Array.getElem?_eq_none (by omega)] at hu; cases hu
  rw [cells_of h, List.getElem?_toArray, enL_at ms i j hj, hm]
  exact hu
theorem Er.in_ {g : Nat} {ms : List En} {w : World} (h : Er g ms w) : EntsIn w (some ⟨g, 0, none⟩) ms :=
  .inr ⟨g, 0, h.lt, rfl, fun i m hm j u hu => by rw [Nat.zero_add]; exact h.cell hm hu⟩
theorem Er.free {g : Nat} {ms : List En} {w : World} (h : Er g ms w) (i : Nat) : w.frozen? ⟨g, i, none⟩ = false := free_of h i
theorem Er.kept {M : Nat → Prop} {g : Nat} {ms : List En} {w w' : World} (h : Er g ms w) (k : Kept M w w') (hn : ¬ M g) : Er g ms w' := k.heap h hn
theorem Er.stay {g : Nat} {ms : List En} {w w' : World} (h : Er g ms w) (k : Below w.heap.size w w') : Er g ms w' := (k.block g h.lt).trans h
/-- The cells laid in a row. -/
theorem setCells_row (g : Nat) (t : TypeId) : ∀ (vs : List Value) (o : Nat) (cur : List Value) (w : World), w.heap[g]? = some (.cells cur.toArray t (0, 0)) → o + vs.length ≤ cur.length → (w.setCells g o vs).heap[g]? = some (.cells (cur.take o ++ vs ++ cur.drop (o + vs.length)).toArray t (0, 0)) ∧ Kept (fun k => k = g) w (w.setCells g o vs)
  | [], o, cur, w, h, _ => ⟨by rw [World.setCells]; simpa using h, Kept.refl _ _⟩
  | v :: r, o, cur, w, h, hl => by
    simp only [List.length_cons] at hl
    have h2 : (w.setCell ⟨g, o, none⟩ v).heap[g]? = some (.cells (cur.set o v).toArray t (0, 0)) := by
      rw [set_of h]; simp
    obtain ⟨ih, k⟩ := setCells_row g t r (o + 1) (cur.set o v) (w.setCell ⟨g, o, none⟩ v) h2 (by simp; omega)
    rw [World.setCells]
    refine ⟨?_, Kept.trans (Kept.setCell (M := fun k => k = g) (Kept.refl _ w) (p := ⟨g, o, none⟩) (fun _ => rfl) v) k (fun _ _ h => h)⟩
    rw [ih]
    congr 3
    apply List.ext_getElem?
    intro i
    simp only [List.length_cons, List.getElem?_append, List.length_append, List.length_take, List.getElem?_take, List.getElem?_drop, List.getElem?_set, List.length_set, List.getElem?_cons]
    repeat' split
    all_goals first | rfl | omega | (congr 1; omega) | skip
/-- One entry written over another one. -/
theorem enL_set {ms : List En} {i : Nat} {m : En} (hi : i < ms.length) : (enL ms).take (i * 6) ++ m.cells.toList ++ (enL ms).drop (i * 6 + 6) = enL (ms.set i m) := by
  have e : ms.set i m = ms.take i ++ m :: ms.drop (i + 1) := List.set_eq_take_append_cons_drop .. |>.trans (by simp [hi])
  have e2 : ms = ms.take i ++ (ms[i] :: ms.drop (i + 1)) := by rw [List.getElem_cons_drop, List.take_append_drop]
  have hc : ∀ x : En, x.cells.toList.length = 6 := fun _ => rfl
  have l1 : (enL (ms.take i)).length = i * 6 := by rw [enL_len, List.length_take, Nat.min_eq_left (by omega)]
  have s1 : enL ms = enL (ms.take i) ++ ((ms[i]).cells.toList ++ enL (ms.drop (i + 1))) := by
    conv => lhs; rw [e2, enL_app]
    rfl
  have s2 : enL (ms.set i m) = enL (ms.take i) ++ (m.cells.toList ++ enL (ms.drop (i + 1))) := by
    rw [e, enL_app]
    rfl
  rw [s2, s1, List.take_append_of_le_length (by omega), List.take_of_length_le (by omega), List.drop_append, List.drop_of_length_le (by omega), l1, Nat.add_sub_cancel_left, List.drop_append, List.drop_of_length_le (by rw [hc]; omega), hc]
  simp
theorem Er.put {g : Nat} {ms : List En} {w : World} (h : Er g ms w) {i : Nat} (hi : i < ms.length) (m : En) : Er g (ms.set i m) (w.setCells g (i * 6) m.cells.toList) ∧ Kept (fun k => k = g) w (w.setCells g (i * 6) m.cells.toList) := by
  have hl : m.cells.toList.length = 6 := rfl
  obtain ⟨h1, h2⟩ := setCells_row g 27 m.cells.toList (i * 6) (enL ms) w h (by rw [hl, enL_len]; omega)
  refine ⟨?_, h2⟩
  unfold Er
  rw [h1, hl, enL_set hi]
/-- One cell of an entry written. -/
theorem Er.set {g : Nat} {ms : List En} {w : World} (h : Er g ms w) {i : Nat} {m p : En} (hi : ms[i]? = some m) {j : Nat} (hj : j < 6) {v : Value} (hp : p.cells = m.cells.setIfInBounds j v) : Er g (ms.set i p) (w.setCell ⟨g, i * 6 + j, none⟩ v) := by
  have hil := (List.getElem?_eq_some_iff.1 hi).1
  unfold Er
  rw [set_of h]
  congr 2
  apply Array.ext_getElem?
  intro k
  rw [Array.getElem?_setIfInBounds, List.getElem?_toArray, List.getElem?_toArray]
  obtain ⟨q, r, rfl, hr⟩ : ∃ q r, k = q * 6 + r ∧ r < 6 := ⟨k / 6, k % 6, by omega, Nat.mod_lt _ (by omega)⟩
  rw [enL_at _ _ _ hr, enL_at _ _ _ hr, List.getElem?_set]
  have hs : (enL ms).toArray.size = ms.length * 6 := by simp [enL_len]
  have hcs : m.cells.size = 6 := rfl
  by_cases e : i = q
  · subst e
    rw [if_pos rfl, if_pos hil, hi]
    simp only [Option.bind_some, hp, Array.getElem?_setIfInBounds]
    by_cases e2 : j = r
    · subst e2
      rw [if_pos rfl, if_pos (by rw [hs]; omega), if_pos rfl, if_pos (by omega)]
    · rw [if_neg (by omega), if_neg e2]
  · rw [if_neg (by omega), if_neg e]
/-- A row of so many, made. -/
theorem made_ents (n : Nat) (hn : n ≤ 1000000000) (W : World) : ∃ cur : Array Value, cur.size = n * 6 ∧
    (Instr.makeSlice 22 (.int .i64 (n : Int)) (.int .i64 (n : Int))).run Try.prog W = .ok (.slice (some ⟨W.heap.size, 0, none⟩) n n) (W.alloc (.cells cur 27)) := by
  obtain ⟨i, hi, hz, hs, hb⟩ := info_parts infoE
  have := run_make (P := Try.prog) W 22 27 i _ Try.underlying22 hi hz .i64 .i64 n n (by omega) (by omega) (by rw [hb]; omega) (by omega)
  rw [hs] at this
  exact ⟨_, size_madeCells _ _, by simpa using this⟩
/-- A row copied from entries that lie elsewhere. -/
theorem run_copyE (w : World) (g n dc sc : Nat) (sp : Option Addr) (ty : TypeId) (cur : Array Value) (hg : w.heap[g]? = some (.cells cur 27 (0, 0))) (hcur : cur.size = n * 6) (es : List En) (hn : es.length = n) (hin : EntsIn w sp es) :
    ∃ w', (Builtin.copy_ #[22, 22] ty #[.slice (some ⟨g, 0, none⟩) n dc, .slice sp n sc]).run Try.prog w = .ok (goInt n) w' ∧ Er g es w' ∧ Kept (fun k => k = g) w w' := by
  obtain ⟨i, hi, hz, hs, hb⟩ := info_parts infoE
  have hu := run_underlying Try.underlying22
  by_cases h0 : n = 0
  · subst h0
    have e : es = [] := List.eq_nil_of_length_eq_zero hn
    subst e
    have ec : cur = #[] := Array.eq_empty_of_size_eq_zero (by omega)
    subst ec
    refine ⟨w, ?_, by unfold Er; rw [hg]; rfl, Kept.refl _ _⟩
    cases sp with
    | none => simp [Builtin.copy_, hu, Builtin.lenOf, Builtin.firstCells, sizeOf, typeInfo, hi, storeCells]
    | some a =>
      have := run_loadCells_list (P := Try.prog) w a [] (by simp)
      simp at this
      simp [Builtin.copy_, hu, Builtin.lenOf, Builtin.firstCells, sizeOf, typeInfo, hi, storeCells, this]
  · rcases hin with h | ⟨b, off, hbl, rfl, hc⟩
    · omega
    · have hsrc : ∀ j v, (enL es)[j]? = some v → w.cell? ((⟨b, off, none⟩ : Addr).add j) = some v := fun j v hj => by
        have e : ((⟨b, off, none⟩ : Addr).add j) = ⟨b, off + j, none⟩ := by unfold Addr.add; split <;> simp_all
        rw [e]
        obtain ⟨q, r, rfl, hr⟩ : ∃ q r, j = q * 6 + r ∧ r < 6 := ⟨j / 6, j % 6, by omega, Nat.mod_lt _ (by omega)⟩
        rw [enL_at _ _ _ hr] at hj
        obtain ⟨m, hm, hv⟩ := Option.bind_eq_some_iff.1 hj
        have := hc q m hm r v hv
        rw [show off + (q * 6 + r) = off + q * 6 + r by omega]
        exact this
      have hl := run_loadCells_list (P := Try.prog) w ⟨b, off, none⟩ (enL es) hsrc
      have hst := run_storeCells_at Try.prog g 0 27 (enL es) 0 cur w hg (by rw [enL_len]; omega) (fun v hv => enL_one hv)
      have e2 : (cur.toList.take (0 + 0) ++ enL es ++ cur.toList.drop (0 + 0 + (enL es).length)).toArray = (enL es).toArray := by
        rw [List.drop_of_length_le (by rw [enL_len]; simp; omega)]
        simp
      rw [e2] at hst
      refine ⟨w.setRow g (enL es).toArray, ?_, setRow_heap6 w g _ cur 27 _ hg, kept_setRow6 _ _ _⟩
      rw [enL_len, hn] at hl
      simp [Builtin.copy_, hu, Builtin.lenOf, Builtin.firstCells, sizeOf, typeInfo, hi, hs, hl, hst]
theorem wpList_copyE {ops : Array Oper} {rest : List Oper} {o : Oper} {act : Act} {Q : Exit → Act → World → Prop} (w : World) (hgd : o.guard = none) (d s : Operand)
    (ho : o.op = .call { callee := .builtin .copy, args := #[d, s], argTypes := #[22, 22] }) (g n dc sc : Nat) (sp : Option Addr) (hd : act.eval d = .slice (some ⟨g, 0, none⟩) n dc) (hs : act.eval s = .slice sp n sc)
    (cur : Array Value) (hg : w.heap[g]? = some (.cells cur 27 (0, 0))) (hcur : cur.size = n * 6) (es : List En) (hn : es.length = n) (hin : EntsIn w sp es)
    (h : ∀ w', Er g es w' → Kept (fun k => k = g) w w' → wpList Try.prog ops Q rest (act.put o.dst (goInt n)) w') : wpList Try.prog ops Q (o :: rest) act w := by
  refine wpList_plain hgd fun K hK => ?_
  obtain ⟨w', hrun, h1, h2⟩ := run_copyE w g n dc sc sp o.type cur hg hcur es hn hin
  unfold Oper.wp
  simp [execOp, ho, resolve, invoke, builtin, hd, hs, hrun, Result.andThen]
  exact hK _ _ (h w' h1 h2)
end Go.Proofs.Ytlfffpgokemjbab.U
