/- PROVED: the laws' probe answers true; what lay in memory ahead of it lies there still. -/
import Derived.Test.YtgdhdaaeklfkgaaDoorMore
import Derived.Lib.SlBytesConst
namespace Go.Proofs.YtgdhdaaeklfkgaaDoor
open Go Go.RowKit

theorem tab_below {w w' : World} {B b : Nat} (h : Below B w w') (hb : b < B) (ht : TabIn w b) : TabIn w' b := fun i hi => by
  rw [World.cell?_of_block (w := w) (h.block b hb)]; exact ht i hi
theorem bytes_below {w w' : World} {B : Nat} (h : Below B w w') {v : Value} {xs : List Nat} (hv : BytesAt w v xs) (hb : ∀ b o l c, v = .slice (some ⟨b, o, none⟩) l c → b < B) : BytesAt w' v xs := by
  rcases hv with hv | ⟨b, o, c, rfl, hc⟩
  · exact Or.inl hv
  · exact Or.inr ⟨b, o, c, rfl, fun i hi => by
      rw [World.cell?_of_block (w := w) (h.block b (hb b o _ c rfl))]; exact hc i hi⟩

def nine : List Nat := [49, 50, 51, 52, 53, 54, 55, 56, 57]
theorem nine_sum : mr 0 nine = 3421780262 := by decide +kernel
theorem e8_one : e8 1 = 1996959894 := by decide +kernel
def nineC : List Value := (#[.int .u8 49, .int .u8 50, .int .u8 51, .int .u8 52, .int .u8 53, .int .u8 54, .int .u8 55, .int .u8 56, .int .u8 57] : Array Value).toList
theorem nine_at {w : World} {b : Nat} {t : TypeId} {fr : Nat × Nat} (h : w.heap[b]? = some (.cells nineC.toArray t fr)) : BytesAt w (.slice (some ⟨b, 0, none⟩) 9 9) nine := by
  refine Or.inr ⟨b, 0, 9, rfl, fun i hi => ?_⟩
  rw [Nat.zero_add, cells_of h]
  have h9 : i < 9 := hi
  obtain rfl | rfl | rfl | rfl | rfl | rfl | rfl | rfl | rfl : i = 0 ∨ i = 1 ∨ i = 2 ∨ i = 3 ∨ i = 4 ∨ i = 5 ∨ i = 6 ∨ i = 7 ∨ i = 8 := by omega
  all_goals rfl

set_option maxRecDepth 100000 in
theorem alive_c (w : World) :
    Calls Tryd.prog 7 #[] w fun e w' => e = .returned (.bool true) ∧ Below w.heap.size w w' := by
  have hz := zeroT.1
  rw [← tabA_zero] at hz
  obtain ⟨W, hW⟩ : ∃ W, W = (w.alloc (.cells (tabA 256) 25)).alloc (.cells (tabA 256) 25) := ⟨_, rfl⟩
  have HW : Hid (W = (w.alloc (.cells (tabA 256) 25)).alloc (.cells (tabA 256) 25)) := hW
  have hm := make_c w
  rw [← hW] at hm
  clear hW
  have HI : Hid ((Tryd.prog.info? 25).map (·.size) = some (tabA 256).size) := by rw [tabA_size]; exact zeroT.2
  have kc := Lib.run_convert_bytes_const (P := Tryd.prog) (W.alloc (.cells (tabA 256) 25)) 22 5 #[.int .u8 49, .int .u8 50, .int .u8 51, .int .u8 52, .int .u8 53, .int .u8 54, .int .u8 55, .int .u8 56, .int .u8 57] 9 9 Tryd.underlying22 Tryd.underlying5
  have hsz : (W.alloc (.cells (tabA 256) 25)).heap.size = W.heap.size + 1 := by simp
  rw [hsz] at kc
  clear hsz
  obtain ⟨V, hV⟩ : ∃ V, V = (W.alloc (.cells (tabA 256) 25)).alloc (.cells nineC.toArray 5 (9, 10)) := ⟨_, rfl⟩
  have ht : TabIn V W.heap.size := by rw [hV]; exact tabIn_of (heap_old (heap_new _ _))
  have hn : BytesAt V (.slice (some ⟨W.heap.size + 1, 0, none⟩) 9 9) nine := by
    have := heap_new (W.alloc (.cells (tabA 256) 25)) (.cells nineC.toArray 5 (9, 10))
    rw [show (W.alloc (.cells (tabA 256) 25)).heap.size = W.heap.size + 1 by simp] at this
    rw [hV]; exact nine_at this
  have hs := sum_c W.heap.size (.slice (some ⟨W.heap.size + 1, 0, none⟩) 9 9) nine V ht hn (by decide) (by decide)
  rw [nine_sum] at hs
  have h1 := ht 1 (by omega)
  rw [e8_one] at h1
  have HB : Hid (Below w.heap.size w V) := by
    rw [hV, HW.out]
    exact ((((Below.refl _ w).alloc (Nat.le_refl _) _).alloc (by simp) _).alloc (by simp; omega) _).alloc (by simp; omega) _
  clear ht hn
  rw [hV] at h1 hs
  simp only [nineC] at h1 hs
  have HV : Hid (V = (W.alloc (.cells (tabA 256) 25)).alloc (.cells nineC.toArray 5 (9, 10))) := hV
  clear hV
  go_enter Tryd.func7, Tryd.ntmps7
  go_wp2_with (first
    | (go_at_call 5; refine hm.mono ?_; rintro e w' ⟨rfl, hw'⟩; obtain rfl : W = w' := hw'.symm)
    | (refine wpList_store_row rfl 25 (.tmp 1) (.tmp 2) rfl W.heap.size (tabA 256) (by rfl) (by rfl) (tabA 0) 25 (heap_new _ _) HI.out (by rw [tabA_size, tabA_size]) (tabA_one _) _ (World.setRow_alloc_new _ _ _ _) ?_)
    | (go_at_call 6; refine hs.mono ?_; rintro e w' ⟨rfl, hw'⟩; rw [hw']))
  go_ret
  exact ⟨rfl, by have := HB.out; rw [HV.out] at this; exact this⟩
end Go.Proofs.YtgdhdaaeklfkgaaDoor
