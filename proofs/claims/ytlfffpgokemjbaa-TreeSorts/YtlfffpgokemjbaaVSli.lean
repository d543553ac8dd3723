/- The program's Sort: what its sort is given, and its contract. -/
import Derived.Test.YtlfffpgokemjbaaVSrt
import Derived.Lib.ReflectliteSwap
import Derived.Laws.Externs
namespace Go.Proofs.Ytlfffpgokemjbaa.U
set_option maxRecDepth 100000
open Go Go.RowKit Go.Lib
open Go.Proofs.Ytlfffpgokemjbaa.O
set_option linter.unusedVariables false
/-- The row d of the places of es, laid in block g, and the slice that leads there, in block B. -/
def Rw (es : List En) (g B n : Nat) (d : List Int) (w : World) : Prop := d.Perm (idx n) ∧ Er g (pm es d) w ∧ w.heap[B]? = some (.cells #[.slice (some ⟨g, 0, none⟩) n n] 22 (0, 0))
noncomputable def iEnts : TypeInfo := (Try.prog.info? 22).get (by kernel_rfl)
noncomputable def iEnt : TypeInfo := (Try.prog.info? 30).get (by kernel_rfl)
theorem iEnt_size : iEnt.size = 6 := by kernel_rfl
theorem iEnt_nine (n : Nat) (h2 : 2 ≤ n) : Lib.swapperK n iEnt 25 = 9 := by
  have a : iEnt.hasPointers = true := by kernel_rfl
  have b : (iEnt.bytes == 8) = false := by kernel_rfl
  have c : (n == 0) = false := by simp; omega
  have d : (n == 1) = false := by simp; omega
  simp [Lib.swapperK, a, b, c, d]
theorem Rw.swap {es : List En} {g B n : Nat} (hgB : B ≠ g) (hl : n ≤ 1000000000) (hn : n = es.length) {d : List Int} {w : World} (h : Rw es g B n d w) (i j : Nat) (hi : i < n) (hj : j < n) :
    ∃ w', (callFunc 68 (#[.int .i64 i, .int .i64 j] ++ #[.slice (some ⟨g, 0, none⟩) n n, typeHandle Try.prog 30])).run Try.prog w = .ok (.value (.tuple #[])) w' ∧ Rw es g B n (swp d i j) w' ∧ Kept (fun i => i = g) w w' := by
  have hd : d.length = n := by rw [h.1.length_eq, idx_len]
  have pi := pm_at (es := es) (d := d) (i := i) (by omega)
  have pj := pm_at (es := es) (d := d) (i := j) (by omega)
  have hpl : (pm es d).length = n := by simp [pm, hd]
  have e := run_swap_cells (P := Try.prog) false 30 iEnt (by kernel_rfl) (fun _ => by kernel_rfl) g 0 n n i j hi hj (pk es (ln d i)).cells.toList (pk es (ln d j)).cells.toList (by rw [iEnt_size]; rfl) (by rw [iEnt_size]; rfl)
    (by intro u hu; simp [En.cells] at hu; rcases hu with rfl | rfl | rfl | rfl | rfl | rfl <;> rfl) (by intro u hu; simp [En.cells] at hu; rcases hu with rfl | rfl | rfl | rfl | rfl | rfl <;> rfl) w
    (fun k v hv => by rw [iEnt_size, Nat.zero_add]; exact h.2.1.cell pi (by rwa [Array.getElem?_toList] at hv)) (fun k v hv => by rw [iEnt_size, Nat.zero_add]; exact h.2.1.cell pj (by rwa [Array.getElem?_toList] at hv))
    (fun k _ => h.2.1.free _) (fun k _ => h.2.1.free _)
  rw [iEnt_size, Nat.zero_add, Nat.zero_add] at e
  obtain ⟨r1, k1⟩ := h.2.1.put (i := i) (by omega) (pk es (ln d j))
  obtain ⟨r2, k2⟩ := r1.put (i := j) (by simp [hpl]; omega) (pk es (ln d i))
  refine ⟨_, ?_, ⟨?_, ?_, ?_⟩, k1.trans k2 (fun _ _ h => h)⟩
  · rw [run_callFunc_extern (e := Extern.ReflectliteSwapper.swap false) Try.func68 (by kernel_rfl) (by kernel_rfl) (by kernel_rfl) (by kernel_rfl),
      show (#[Value.int .i64 (i : Int), Value.int .i64 (j : Int)] ++ #[Value.slice (some ⟨g, 0, none⟩) n n, typeHandle Try.prog 30]) = #[.int .i64 i, .int .i64 j, .slice (some ⟨g, 0, none⟩) n n, typeHandle Try.prog 30] from rfl, e]
    rfl
  · exact (swp_perm (by omega) (by omega)).trans h.1
  · rw [pm_swp]; exact r2
  · exact (k1.trans k2 (fun _ _ h => h)).heap h.2.2 (by exact hgB)
theorem Rw.less {es : List En} {g B n : Nat} (hl : n ≤ 1000000000) (hn : n = es.length) {d : List Int} {w : World} (h : Rw es g B n d w) (i j : Nat) (hi : i < n) (hj : j < n) :
    Calls Try.prog 30 (#[.int .i64 i, .int .i64 j] ++ #[.pointer (some ⟨B, 0, none⟩)]) w fun e w' => e = .returned (.bool (decide (rk es (ln d i) < rk es (ln d j)))) ∧ ∃ q, w' = w.drewN q := by
  have hd : d.length = n := by rw [h.1.length_eq, idx_len]
  have pi := pm_at (es := es) (d := d) (i := i) (by omega)
  have pj := pm_at (es := es) (d := d) (i := j) (by omega)
  have hpl : (pm es d).length = n := by simp [pm, hd]
  have hm : ln d i ∈ d := by rw [ln_in (by omega)]; exact List.getElem_mem _
  have hr := idx_mem.1 (h.1.mem_iff.1 hm)
  have e : decide (rk es (ln d i) < rk es (ln d j)) = gtB (pk es (ln d j)).path (pk es (ln d i)).path := by
    rw [Bool.eq_iff_iff, decide_eq_true_iff]
    exact rk_lt hr.1 (by rw [← hn]; exact hr.2)
  rw [e]
  exact sort1_c B g n (pm es d) i j _ _ w (by rw [cells_of h.2.2]; rfl) h.2.1 pi pj hpl hl
theorem ls_any {es : List En} {g B n : Nat} (hgB : B ≠ g) (hl : n ≤ 1000000000) (hn : n = es.length) (sf : Nat) (sb : Array Value)
    (hs : n ≤ 1 ∨ (sf = 68 ∧ sb = #[.slice (some ⟨g, 0, none⟩) n n, typeHandle Try.prog 30])) : LS 30 #[.pointer (some ⟨B, 0, none⟩)] sf sb g n (rk es) (Rw es g B n) where
  eg := fun args w => enters_of Try.func30 (by kernel_rfl) rfl args w
  drew := fun q h => ⟨h.1, h.2.1, h.2.2⟩
  alloc := fun o h => ⟨h.1, by have := h.2.1; unfold Er at *; rw [Below.heap_alloc _ _ _ (lt_of_block this)]; exact this, by rw [Below.heap_alloc _ _ _ (lt_of_block h.2.2)]; exact h.2.2⟩
  len := fun h => by rw [h.1.length_eq, idx_len]
  lt := fun h => h.2.1.lt
  less := fun i j h hi hj => h.less hl hn i j hi hj
  swap := fun i j h hi hj hij => by
    rcases hs with h1 | ⟨rfl, rfl⟩
    · omega
    · exact h.swap hgB hl hn i j hi hj
end Go.Proofs.Ytlfffpgokemjbaa.U
