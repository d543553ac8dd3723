/- The words of a block: contract of spread. -/
import Derived.Test.YtgamfpgejkhbcaaDoorSFill
namespace Go.Proofs.YtgamfpgejkhbcaaDoor.S
set_option maxRecDepth 100000
open Go Go.RowKit

/-- What stands in memory while words are made. -/
structure SprAt (f : Nat → Nat) (w wx : World) (t : Nat) : Prop where
  r0 : wx.heap[w.heap.size]? = some (.cells (fA .u32 80 f 0) 101 (0, 0))
  r1 : wx.heap[w.heap.size + 1]? = some (.cells (fA .u32 80 f t) 101 (0, 0))
  bel : Below w.heap.size w wx
theorem SprAt.drewN {f : Nat → Nat} {w wx : World} {t : Nat} (h : SprAt f w wx t) (n : Nat) : SprAt f w (wx.drewN n) t := ⟨h.r0, h.r1, ⟨h.bel.os, h.bel.tape, h.bel.output, h.bel.size, h.bel.block⟩⟩
theorem SprAt.set {f : Nat → Nat} {w wx : World} {t : Nat} (h : SprAt f w wx t) (ht : t < 80) : SprAt f w (wx.setCell ⟨w.heap.size + 1, t, none⟩ (.int .u32 (f t : Nat))) (t + 1) := by
  refine ⟨?_, ?_, ?_⟩
  · rw [set_other (by omega)]; exact h.r0
  · rw [set_of h.r1, fA_set .u32 _ ht]
  · exact h.bel.setCell (by simp) _
theorem SprAt.start (f : Nat → Nat) (w : World) : SprAt f w ((w.alloc (.cells (fA .u32 80 f 0) 101)).alloc (.cells (fA .u32 80 f 0) 101)) 0 :=
  ⟨heap_new1 _ _ _, heap_new2 _ _ _, ((Below.refl _ w).alloc (Nat.le_refl _) _).alloc (by simp) _⟩

theorem cell_set_off {w : World} {g i j : Nat} {u : Value} (h : j ≠ i) : (w.setCell ⟨g, i, none⟩ u).cell? ⟨g, j, none⟩ = w.cell? ⟨g, j, none⟩ :=
  World.cell?_setCell_other w ⟨g, i, none⟩ ⟨g, j, none⟩ u (fun e => h (by injection e with _ e2 _; exact e2.symm))
set_option maxHeartbeats 4000000 in
theorem spread_c (b o : Nat) (bs : List Nat) (f : Nat → Nat) (w : World) (hb : Bs w b o bs) (hby : By bs) (hl : bs.length = 64) (hbw : b < w.heap.size) (hf : Wds bs f) :
    Calls Tryd.prog 68 #[.pointer (some ⟨b, o, none⟩)] w fun e w' => e = .returned (.agg (fA .u32 80 f 80)) ∧ Below w.heap.size w w' := by
  have hz : ∀ w, (zeroValue 101).run Tryd.prog w = .ok (.agg (fA .u32 80 f 0)) w := (zero80 f).1
  have HS0 := hide (SprAt.start f w)
  have HB := hide hb
  have HL := hide hl
  have HF := hide hf
  have HI := fun t => hide (info80 f t)
  clear hb hl hf
  go_enter Tryd.func68, Tryd.ntmps68
  go_wp2_with fail
  go_loopg [5] 80 (fun g s5 wx => ∃ t : Nat, t + g = 80 ∧ s5 = .int .i64 t ∧ Hid (SprAt f w wx t))
  case atStart => exact ⟨0, by omega, rfl, HS0⟩
  case round =>
    obtain ⟨t, htg, rfl, HS⟩ := hrel
    cases gk with
    | zero =>
      obtain rfl : t = 80 := by omega
      go_wp2_with (first
        | (refine wpList_load_row rfl 101 (.tmp 3) rfl (w.heap.size + 1) (by rfl) (fA .u32 80 f 80) 101 (0, 0) HS.out.r1 _ Tryd.underlying101 rfl (HI 80).out ?_)
        | (refine wpList_store_row rfl 101 (.tmp 2) (.tmp 41) rfl w.heap.size (fA .u32 80 f 80) (by rfl) (by rfl) (fA .u32 80 f 0) 101 HS.out.r0 (HI 80).out (by rw [fA_size, fA_size]) (fA_one _ _ _ _) ?_; intro w2 G2 K2))
      have hld : (loadVar 101 ⟨w.heap.size, 0, none⟩).run Tryd.prog w2 = .ok (.agg (fA .u32 80 f 80)) w2 :=
        run_loadVar_row _ _ 101 101 (fA .u32 80 f 80) (0, 0) _ G2.out Tryd.underlying101 rfl (HI 80).out
      refine bodyPost_ret (v := .agg (fA .u32 80 f 80)) ?_ rfl ⟨rfl, HS.out.bel.trans (K2.out.below HS.out.bel.size (fun i hi e => by omega))⟩
      simp [results, asAddr, hld]
    | succ g =>
      have hlt : (t : Int) < 80 := by omega
      have hn := fA_not .u32 f (show t < 80 by omega)
      have hc1 := (cells_of HS.out.r1 t).trans hn
      have hf1 := free_of HS.out.r1 t
      by_cases h16 : t < 16
      · have h16' : (t : Int) < 16 := by omega
        have HBx := hide (HB.out.below HS.out.bel hbw)
        have hwc : ∀ len cap, 4 ≤ len → Hid (Calls Tryd.prog 71 #[.slice (some ⟨b, o + t * 4, none⟩) len cap] wr fun e w' => e = .returned (.int .u32 (f t : Nat)) ∧ ∃ m, w' = wr.drewN m) := fun len cap h4 => by
          have hL := HL.out
          have q := HBx.out
          have := word_c b (o + t * 4) len cap _ _ _ _ wr (hby.getD (4 * t)) (hby.getD (4 * t + 1)) (hby.getD (4 * t + 2)) (hby.getD (4 * t + 3)) h4
            (by have := q (4 * t) (by omega); rw [show o + t * 4 = o + 4 * t by omega]; exact this)
            (by have := q (4 * t + 1) (by omega); rw [show o + t * 4 + 1 = o + (4 * t + 1) by omega]; exact this)
            (by have := q (4 * t + 2) (by omega); rw [show o + t * 4 + 2 = o + (4 * t + 2) by omega]; exact this)
            (by have := q (4 * t + 3) (by omega); rw [show o + t * 4 + 3 = o + (4 * t + 3) by omega]; exact this)
          rw [← HF.out.lo t h16] at this
          exact this
        have hsl := slice64_l .i64 wr b o (t * 4) (by omega)
        push_cast at hsl
        have hc2 := fun m => (cells_of (HS.out.drewN m).r1 t).trans hn
        have hf2 := fun m => free_of (HS.out.drewN m).r1 t
        clear hc1 hf1
        go_wp2_with (go_at_call 71; refine (hwc _ _ (by omega)).out.mono ?_; rintro e w' ⟨rfl, m, rfl⟩)
        go_roundg g
        case measure => omega
        case rel => exact ⟨t + 1, by omega, by go_num, (HS.out.drewN m).set (by omega)⟩
      · have h16' : ¬ (t : Int) < 16 := by omega
        obtain ⟨k, hk⟩ : ∃ k, t = k + 16 := ⟨t - 16, by omega⟩
        have q3 := (cells_of HS.out.r1 (k + 13)).trans (fA_at .u32 f (t := t) (by omega) (by omega))
        have q8 := (cells_of HS.out.r1 (k + 8)).trans (fA_at .u32 f (t := t) (by omega) (by omega))
        have q14 := (cells_of HS.out.r1 (k + 2)).trans (fA_at .u32 f (t := t) (by omega) (by omega))
        have q16 := (cells_of HS.out.r1 k).trans (fA_at .u32 f (t := t) (by omega) (by omega))
        have x1 := xor32 _ _ (HF.out.lt (k + 13)) (HF.out.lt (k + 8))
        have x2 := xor32 _ _ (xor_lt (HF.out.lt (k + 13)) (HF.out.lt (k + 8))) (HF.out.lt (k + 2))
        have x3 := xor32 _ _ (xor_lt (xor_lt (HF.out.lt (k + 13)) (HF.out.lt (k + 8))) (HF.out.lt (k + 2))) (HF.out.lt k)
        have x4 := xor_lt (xor_lt (xor_lt (HF.out.lt (k + 13)) (HF.out.lt (k + 8))) (HF.out.lt (k + 2))) (HF.out.lt k)
        have RT := fun W => hide (rot1_c _ x4 W)
        rw [← HF.out.hi k, ← hk] at RT
        obtain ⟨X, hX⟩ : ∃ X, X = f t := ⟨_, rfl⟩
        have HX := hide hX
        rw [← hX] at RT
        have HNE := hide (show k + 13 ≠ t ∧ k + 8 ≠ t ∧ k + 2 ≠ t ∧ k ≠ t from ⟨by omega, by omega, by omega, by omega⟩)
        have s3 : (t : Int) - 3 = ((k + 13 : Nat) : Int) := by omega
        have s8 : (t : Int) - 8 = ((k + 8 : Nat) : Int) := by omega
        have s14 : (t : Int) - 14 = ((k + 2 : Nat) : Int) := by omega
        have s16 : (t : Int) - 16 = (k : Int) := by omega
        have l3 : k + 13 < 80 := by omega
        have l8 : k + 8 < 80 := by omega
        have l14 : k + 2 < 80 := by omega
        have l16 : k < 80 := by omega
        generalize f (k + 13) = F3 at q3 x1 x2 x3 RT
        generalize f (k + 8) = F8 at q8 x1 x2 x3 RT
        generalize f (k + 2) = F14 at q14 x2 x3 RT
        generalize f k = F16 at q16 x3 RT
        generalize k + 13 = k3 at q3 s3 l3 HNE
        generalize k + 8 = k8 at q8 s8 l8 HNE
        generalize k + 2 = k14 at q14 s14 l14 HNE
        clear hk h16 hn x4 hX
        have w3 : IntKind.i64.wrap (k3 : Int) = (k3 : Int) := wrap_i64_small _ (by omega)
        have w8 : IntKind.i64.wrap (k8 : Int) = (k8 : Int) := wrap_i64_small _ (by omega)
        have w14 : IntKind.i64.wrap (k14 : Int) = (k14 : Int) := wrap_i64_small _ (by omega)
        have w16 : IntKind.i64.wrap (k : Int) = (k : Int) := wrap_i64_small _ (by omega)
        have i3 : (0 : Int) ≤ (k3 : Int) ∧ (k3 : Int) < 80 := ⟨by omega, by omega⟩
        have i8 : (0 : Int) ≤ (k8 : Int) ∧ (k8 : Int) < 80 := ⟨by omega, by omega⟩
        have i14 : (0 : Int) ≤ (k14 : Int) ∧ (k14 : Int) < 80 := ⟨by omega, by omega⟩
        have i16 : (0 : Int) ≤ (k : Int) ∧ (k : Int) < 80 := ⟨by omega, by omega⟩
        have i0 : (0 : Int) ≤ (t : Int) := by omega
        have KS := hide (show (wr.setCell ⟨w.heap.size + 1, t, none⟩ (.int .u32 (X : Int))).drew.cell? ⟨w.heap.size + 1, k3, none⟩ = some (.int .u32 (F3 : Int)) ∧ (wr.setCell ⟨w.heap.size + 1, t, none⟩ (.int .u32 (X : Int))).drew.cell? ⟨w.heap.size + 1, k8, none⟩ = some (.int .u32 (F8 : Int)) ∧ (wr.setCell ⟨w.heap.size + 1, t, none⟩ (.int .u32 (X : Int))).drew.cell? ⟨w.heap.size + 1, k14, none⟩ = some (.int .u32 (F14 : Int)) ∧ (wr.setCell ⟨w.heap.size + 1, t, none⟩ (.int .u32 (X : Int))).drew.cell? ⟨w.heap.size + 1, k, none⟩ = some (.int .u32 (F16 : Int)) from
          ⟨(cell_set_off HNE.out.1).trans q3, (cell_set_off HNE.out.2.1).trans q8, (cell_set_off HNE.out.2.2.1).trans q14, (cell_set_off HNE.out.2.2.2).trans q16⟩)
        go_upto_region 7 with fail
        go_region_held3 (fun w' => w'.cell? ⟨w.heap.size + 1, k3, none⟩ = some (.int .u32 (F3 : Int)) ∧ w'.cell? ⟨w.heap.size + 1, k8, none⟩ = some (.int .u32 (F8 : Int)) ∧ w'.cell? ⟨w.heap.size + 1, k14, none⟩ = some (.int .u32 (F14 : Int)) ∧ w'.cell? ⟨w.heap.size + 1, k, none⟩ = some (.int .u32 (F16 : Int))) (first | exact KS.out | assumption | go_keep) ((go_at_call 70; refine (RT _).out.mono ?_; rintro e w' ⟨rfl, rfl⟩))
        go_wp2_with fail
        go_roundg g
        case measure => omega
        case rel => exact ⟨t + 1, by omega, by go_num, by rw [HX.out]; exact (HS.out.set (by omega)).drewN 1⟩
end Go.Proofs.YtgamfpgejkhbcaaDoor.S
