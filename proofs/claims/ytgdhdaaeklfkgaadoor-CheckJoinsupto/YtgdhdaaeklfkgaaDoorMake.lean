/- PROVED: Make answers the table of what eight steps make of each byte; two blocks more lie in memory. -/
import Derived.Test.YtgdhdaaeklfkgaaDoorWhole
namespace Go.Proofs.YtgdhdaaeklfkgaaDoor
open Go Go.RowKit

/-- The first k places are made; the others are 0. -/
def tabL (k : Nat) : List Value := (List.range 256).map fun i => .int .u32 ((if i < k then e8 i else 0 : Nat) : Int)
def tabA (k : Nat) : Array Value := (tabL k).toArray
theorem tabA_size (k : Nat) : (tabA k).size = 256 := by simp [tabA, tabL]
theorem tabA_zero : tabA 0 = Array.replicate 256 (.int .u32 0) := by
  apply Array.ext_getElem?
  intro i
  simp only [tabA, tabL, List.getElem?_toArray, List.getElem?_map, Array.getElem?_replicate]
  by_cases h : i < 256
  · simp [h]
  · simp [h]
theorem tabA_at {k i : Nat} (h : i < 256) (hk : i < k) : (tabA k)[i]? = some (.int .u32 (e8 i : Nat)) := by
  simp [tabA, tabL, h, hk]
theorem tabA_not {k : Nat} (h : k < 256) : (tabA k)[k]? = some (.int .u32 0) := by
  simp [tabA, tabL, h]
theorem tabA_set {k : Nat} (h : k < 256) : (tabA k).setIfInBounds k (.int .u32 (e8 k : Nat)) = tabA (k + 1) := by
  apply Array.ext_getElem?
  intro i
  rw [Array.getElem?_setIfInBounds]
  by_cases hi : k = i
  · subst hi
    simp [tabA, tabL, h]
  · by_cases h2 : i < 256
    · have : (i < k) ↔ (i < k + 1) := by omega
      simp [tabA, tabL, hi, h2, this]
    · simp [tabA, tabL, hi, h2]
theorem tabA_one (k : Nat) : (tabA k).all (·.oneCell') = true := by
  simp [tabA, tabL, Value.oneCell']

theorem zeroT : (∀ w, (zeroValue 25).run Tryd.prog w = .ok (.agg (Array.replicate 256 (.int .u32 0))) w) ∧ (Tryd.prog.info? 25).map (·.size) = some 256 :=
  zero_of_info (by kernel_rfl)

set_option maxRecDepth 100000 in
theorem make_c (w : World) :
    Calls Tryd.prog 5 #[] w fun e w' => e = .returned (.agg (tabA 256)) ∧ w' = (w.alloc (.cells (tabA 256) 25)).alloc (.cells (tabA 256) 25) := by
  have hz := zeroT.1
  rw [← tabA_zero] at hz
  go_enter Tryd.func5, Tryd.ntmps5
  go_wp2_with fail
  go_loopg [3] 256 (fun g s3 wx => ∃ i : Nat, i + g = 256 ∧ s3 = .int .i64 i ∧ wx = (w.alloc (.cells (tabA 0) 25)).alloc (.cells (tabA i) 25))
  case atStart => exact ⟨0, by omega, rfl, rfl⟩
  case round =>
    obtain ⟨i, hig, rfl, rfl⟩ := hrel
    cases gk with
    | zero =>
      obtain rfl : i = 256 := by omega
      have hb1 : ((w.alloc (.cells (tabA 0) 25)).alloc (.cells (tabA 256) 25)).heap[w.heap.size + 1]? = some (.cells (tabA 256) 25 (0, 0)) := by
        have := heap_new (w.alloc (.cells (tabA 0) 25)) (.cells (tabA 256) 25)
        simpa using this
      have hb0 : ((w.alloc (.cells (tabA 0) 25)).alloc (.cells (tabA 256) 25)).heap[w.heap.size]? = some (.cells (tabA 0) 25 (0, 0)) := heap_old (heap_new _ _)
      have hw2 : ((w.alloc (.cells (tabA 0) 25)).alloc (.cells (tabA 256) 25)).setRow w.heap.size (tabA 256) = (w.alloc (.cells (tabA 256) 25)).alloc (.cells (tabA 256) 25) := by
        rw [setRow_alloc_old _ _ _ _ (by simp), World.setRow_alloc_new]
      have hi24 : (Tryd.prog.info? 25).map (·.size) = some (tabA 256).size := by rw [tabA_size]; exact zeroT.2
      have H1 : Hid _ := hb1
      have H0 : Hid _ := hb0
      have HW : Hid _ := hw2
      have HI : Hid _ := hi24
      clear hb1 hb0 hw2 hi24
      go_wp2_with (first
        | (refine wpList_load_row rfl 25 (.tmp 1) rfl (w.heap.size + 1) (by rfl) (tabA 256) 25 (0, 0) H1.out _ Tryd.underlying25 rfl HI.out ?_)
        | (refine wpList_store_row rfl 25 (.tmp 0) (.tmp 12) rfl w.heap.size (tabA 256) (by rfl) (by rfl) (tabA 0) 25 H0.out HI.out (by rw [tabA_size, tabA_size]) (tabA_one _) _ HW.out ?_))
      have hld : (loadVar 25 ⟨w.heap.size, 0, none⟩).run Tryd.prog ((w.alloc (.cells (tabA 256) 25)).alloc (.cells (tabA 256) 25)) = .ok (.agg (tabA 256)) ((w.alloc (.cells (tabA 256) 25)).alloc (.cells (tabA 256) 25)) :=
        run_loadVar_row _ _ 25 25 (tabA 256) (0, 0) _ (heap_old (heap_new _ _)) Tryd.underlying25 rfl HI.out
      refine bodyPost_ret (v := .agg (tabA 256)) ?_ rfl ⟨rfl, rfl⟩
      simp [results, asAddr, hld]
    | succ g =>
      have hi : (i : Int) < 256 := by omega
      have hi32 : (i : Int) % 4294967296 = (i : Int) := by omega
      have hsz := tabA_size i
      have hset := @tabA_set i (by omega)
      have hcell := @tabA_not i (by omega)
      go_wp2_with (go_at_call 11; refine (eight_c _ (by omega) _).mono ?_; rintro e w' ⟨rfl, rfl⟩)
      go_roundg g
      case measure => omega
      case rel => exact ⟨i + 1, by omega, by go_num, rfl⟩
end Go.Proofs.YtgdhdaaeklfkgaaDoor
