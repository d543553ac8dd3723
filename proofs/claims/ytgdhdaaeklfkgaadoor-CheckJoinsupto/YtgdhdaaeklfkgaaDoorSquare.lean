/- PROVED: what rowOfByte and square answer. -/
import Derived.Test.YtgdhdaaeklfkgaaDoorRow
namespace Go.Proofs.YtgdhdaaeklfkgaaDoor
open Go Go.RowKit

theorem setRow_self {w : World} {g : Nat} {cs c2 : Array Value} {t : TypeId} {fr : Nat × Nat} (h : w.heap[g]? = some (.cells cs t fr)) : (w.setRow g c2).heap[g]? = some (.cells c2 t fr) := by
  have hlt := lt_of_block' h
  have h' : w.heap[g] = .cells cs t fr := by simpa [Array.getElem?_eq_getElem hlt] using h
  show (w.heap.modify g _)[g]? = _
  rw [Array.getElem?_eq_getElem (by simpa using hlt), Array.getElem_modify_self, h']
theorem below_setRow' {B : Nat} {a w : World} (h : Below B a w) {g : Nat} (hg : B ≤ g) (c : Array Value) : Below B a (w.setRow g c) :=
  ⟨h.os, h.tape, h.output, by have := h.size; simp [World.setRow]; omega, fun k hk => by
    rw [← h.block k hk]
    show (w.heap.modify g _)[k]? = _
    rw [Array.getElem?_modify]
    have : ¬ g = k := by omega
    simp [this]⟩
theorem deB_below {w w' : World} {B : Nat} (h : Below B w w') (hB : 0 < B) (hT : DeB w) : DeB w' := fun j hj => by
  rw [h.cell (p := ⟨0, j, none⟩) hB]; exact hT j hj
theorem deB_pos {w : World} (hT : DeB w) : 0 < w.heap.size := lt_of_cell (hT 0 (by decide))
theorem deB_keep {w w' : World} (h : Below w.heap.size w w') (hT : DeB w) : DeB w' := deB_below h (deB_pos hT) hT
theorem below_drewN' {B : Nat} {a w : World} (h : Below B a w) (n : Nat) : Below B a (w.drewN n) := h.trans ⟨rfl, rfl, rfl, Nat.le_refl _, fun _ _ => rfl⟩

theorem rf8 (i : Nat) : e8 (2 ^ i) = rf 8 i := rfl

set_option maxRecDepth 100000 in
theorem rowOfByte_c (w : World) :
    Calls Tryd.prog 12 #[] w fun e w' => e = .returned (.agg (rwA (rf 8) 32)) ∧ Below w.heap.size w w' := by
  have hz := zeroR (rf 8)
  go_enter Tryd.func12, Tryd.ntmps12
  go_wp2_with fail
  go_loopg [3] 32 (fun g s3 wx => ∃ i : Nat, i + g = 32 ∧ s3 = .int .i64 i ∧ wx = (w.alloc (.cells (rwA (rf 8) 0) 37)).alloc (.cells (rwA (rf 8) i) 37))
  case atStart => exact ⟨0, by omega, rfl, rfl⟩
  case round =>
    obtain ⟨i, hig, rfl, rfl⟩ := hrel
    cases gk with
    | zero =>
      obtain rfl : i = 32 := by omega
      have H1 : Hid (((w.alloc (.cells (rwA (rf 8) 0) 37)).alloc (.cells (rwA (rf 8) 32) 37)).heap[w.heap.size + 1]? = some (.cells (rwA (rf 8) 32) 37 (0, 0))) := by
        have := heap_new (w.alloc (.cells (rwA (rf 8) 0) 37)) (.cells (rwA (rf 8) 32) 37)
        simpa [Hid] using this
      have H0 : Hid (((w.alloc (.cells (rwA (rf 8) 0) 37)).alloc (.cells (rwA (rf 8) 32) 37)).heap[w.heap.size]? = some (.cells (rwA (rf 8) 0) 37 (0, 0))) := heap_old (heap_new _ _)
      have HW : Hid (((w.alloc (.cells (rwA (rf 8) 0) 37)).alloc (.cells (rwA (rf 8) 32) 37)).setRow w.heap.size (rwA (rf 8) 32) = (w.alloc (.cells (rwA (rf 8) 32) 37)).alloc (.cells (rwA (rf 8) 32) 37)) := by
        show _ = _
        rw [setRow_alloc_old _ _ _ _ (by simp), World.setRow_alloc_new]
      go_wp2_with (first
        | (refine wpList_load_row rfl 37 (.tmp 1) rfl (w.heap.size + 1) (by rfl) (rwA (rf 8) 32) 37 (0, 0) H1.out _ Tryd.underlying37 rfl (infoR _ _) ?_)
        | (refine wpList_store_row rfl 37 (.tmp 0) (.tmp 12) rfl w.heap.size (rwA (rf 8) 32) (by rfl) (by rfl) (rwA (rf 8) 0) 37 H0.out (infoR _ _) (by rw [rwA_size, rwA_size]) (rwA_one _ _) _ HW.out ?_))
      have hld : (loadVar 37 ⟨w.heap.size, 0, none⟩).run Tryd.prog ((w.alloc (.cells (rwA (rf 8) 32) 37)).alloc (.cells (rwA (rf 8) 32) 37)) = .ok (.agg (rwA (rf 8) 32)) ((w.alloc (.cells (rwA (rf 8) 32) 37)).alloc (.cells (rwA (rf 8) 32) 37)) :=
        run_loadVar_row _ _ 37 37 (rwA (rf 8) 32) (0, 0) _ (heap_old (heap_new _ _)) Tryd.underlying37 rfl (infoR _ _)
      refine bodyPost_ret (v := .agg (rwA (rf 8) 32)) ?_ rfl ⟨rfl, ((Below.refl _ w).alloc (Nat.le_refl _) _).alloc (by simp) _⟩
      simp [results, asAddr, hld]
    | succ g =>
      have hi : (i : Int) < 32 := by omega
      have hcell := @rwA_not (rf 8) i (by omega)
      have hset := @rwA_set (rf 8) i (by omega)
      obtain ⟨P, hPe⟩ : ∃ P, P = 2 ^ i := ⟨_, rfl⟩
      have hpl : P < 4294967296 := by rw [hPe]; exact pow_lt32 (by omega)
      have hP := eight_c P hpl
      rw [hPe, rf8, ← hPe] at hP
      have hpc : (2 : Int) ^ i = (P : Int) := by rw [hPe]; simp
      have hsh : IntKind.u32.wrap (2 ^ i) = (P : Int) := by rw [hpc, wrap32]; omega
      have hsh2 : (2 : Int) ^ i % 4294967296 = (P : Int) := by rw [hpc]; omega
      clear hpc hPe
      generalize rf 8 i = R at hP hset
      go_wp2_with (go_at_call 11; refine (hP _).mono ?_; rintro e w' ⟨rfl, rfl⟩)
      go_roundg g
      case measure => omega
      case rel => exact ⟨i + 1, by omega, by go_num, rfl⟩

set_option maxHeartbeats 1000000 in
set_option maxRecDepth 100000 in
theorem square_c (b m : Nat) (w : World) (hr : RowIn w b m) (hT : DeB w) :
    Calls Tryd.prog 15 #[.pointer (some ⟨b, 0, none⟩)] w fun e w' => e = .returned (.agg (rwA (rf (m + m)) 32)) ∧ Below w.heap.size w w' := by
  have hz := zeroR (rf (m + m))
  have hbw : b < w.heap.size := lt_of_cell (hr 0 (by omega))
  have HR : Hid (RowIn w b m) := hr
  have HT : Hid (DeB w) := hT
  clear hr hT
  generalize hF : rf (m + m) = F at hz ⊢
  have HF : Hid (rf (m + m) = F) := hF
  clear hF
  go_enter Tryd.func15, Tryd.ntmps15
  go_wp2_with fail
  go_loopg [7] 32 (fun g s7 wx => ∃ i : Nat, i + g = 32 ∧ s7 = .int .i64 i ∧ wx.heap[w.heap.size]? = some (.cells (rwA F 0) 37 (0, 0)) ∧ wx.heap[w.heap.size + 1]? = some (.cells (rwA F i) 37 (0, 0)) ∧ Below w.heap.size w wx)
  case atStart => exact ⟨0, by omega, rfl, heap_old (heap_new _ _), by have := heap_new (w.alloc (.cells (rwA F 0) 37)) (.cells (rwA F 0) 37); simpa using this, ((Below.refl _ w).alloc (Nat.le_refl _) _).alloc (by simp) _⟩
  case round =>
    obtain ⟨i, hig, rfl, hb0, hb1, hbel⟩ := hrel
    have B0 : Hid (wr.heap[w.heap.size]? = some (.cells (rwA F 0) 37 (0, 0))) := hb0
    have B1 : Hid (wr.heap[w.heap.size + 1]? = some (.cells (rwA F i) 37 (0, 0))) := hb1
    have BE : Hid (Below w.heap.size w wr) := hbel
    clear hb0 hb1 hbel
    cases gk with
    | zero =>
      obtain rfl : i = 32 := by omega
      go_wp2_with (first
        | (refine wpList_load_row rfl 37 (.tmp 3) rfl (w.heap.size + 1) (by rfl) (rwA F 32) 37 (0, 0) B1.out _ Tryd.underlying37 rfl (infoR _ _) ?_)
        | (refine wpList_store_row rfl 37 (.tmp 2) (.tmp 19) rfl w.heap.size (rwA F 32) (by rfl) (by rfl) (rwA F 0) 37 B0.out (infoR _ _) (by rw [rwA_size, rwA_size]) (rwA_one _ _) _ rfl ?_))
      have hld : (loadVar 37 ⟨w.heap.size, 0, none⟩).run Tryd.prog (wr.setRow w.heap.size (rwA F 32)) = .ok (.agg (rwA F 32)) (wr.setRow w.heap.size (rwA F 32)) :=
        run_loadVar_row _ _ 37 37 (rwA F 32) (0, 0) _ (setRow_self B0.out) Tryd.underlying37 rfl (infoR _ _)
      refine bodyPost_ret (v := .agg (rwA F 32)) ?_ rfl ⟨rfl, below_setRow' BE.out (Nat.le_refl _) _⟩
      simp [results, asAddr, hld]
    | succ g =>
      have hi : (i : Int) < 32 := by omega
      have c1 := (BE.out.cell (p := ⟨b, i, none⟩) hbw).trans (HR.out i (by omega))
      have hFi : stN m (rf m i) = F i := by rw [rf_twice, HF.out]
      have hRl := rf_lt m (show i < 32 by omega)
      have hrow : RowIn wr b m := fun j hj => (BE.out.cell (p := ⟨b, j, none⟩) hbw).trans (HR.out j hj)
      have hdeb : DeB wr := deB_keep BE.out HT.out
      have AP : Hid (∀ q, Calls Tryd.prog 14 #[.pointer (some ⟨b, 0, none⟩), .int .u32 ((rf m i : Nat) : Int)] (wr.drewN q) fun e w' => e = .returned (.int .u32 (F i : Nat)) ∧ ∃ q2, w' = (wr.drewN q).drewN q2) := fun q => by
        rw [← hFi]; exact apply_c b m (rf m i) hRl (wr.drewN q) hrow hdeb
      have hset := @rwA_set F i (by omega)
      have hn1 : wr.cell? ⟨w.heap.size + 1, i, none⟩ = some (.int .u32 0) := (cells_of B1.out i).trans (@rwA_not F i (by omega))
      have hf1 : wr.frozen? ⟨w.heap.size + 1, i, none⟩ = false := free_of B1.out i
      clear hFi hrow hdeb hRl
      generalize rf m i = R at c1 AP
      generalize F i = Y at AP hset
      have SB : Hid (∀ q, (((wr.drewN q).setCell ⟨w.heap.size + 1, i, none⟩ (.int .u32 (Y : Int))).heap[w.heap.size + 1]? = some (.cells (rwA F (i + 1)) 37 (0, 0)))) := fun q => by
        have := set_of (w := wr.drewN q) B1.out i (.int .u32 (Y : Int))
        rw [hset] at this
        exact this
      clear hset
      go_wp2_with fail
      go_quiet (fail)
      go_wp2_with (go_at_call 14; refine (AP.out _).mono ?_; rintro e w' ⟨rfl, q2, rfl⟩)
      go_roundg g
      case measure => omega
      case rel => exact ⟨i + 1, by omega, by go_num, (Below.heap_setCell _ _ _ _ (by show w.heap.size ≠ w.heap.size + 1; omega)).trans B0.out, SB.out _, (below_drewN' BE.out _).setCell (by show w.heap.size ≤ w.heap.size + 1; omega) _⟩
end Go.Proofs.YtgdhdaaeklfkgaaDoor
