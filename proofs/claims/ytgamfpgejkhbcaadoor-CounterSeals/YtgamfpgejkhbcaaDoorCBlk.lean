/- The program's xored and moved: contracts. -/
import Derived.Test.YtgamfpgejkhbcaaDoorCWord
namespace Go.Proofs.YtgamfpgejkhbcaaDoor.K
set_option maxRecDepth 100000
open Go Go.RowKit

theorem zeroBlk (f : Nat → Nat) : (∀ w, (zeroValue 63).run Tryd.prog w = .ok (.agg (cA f 0)) w) ∧ (Tryd.prog.info? 63).map (·.size) = some 16 := by
  rw [cA, fA_zero]
  exact zero_of_info (by kernel_rfl)
theorem infoBlk (f : Nat → Nat) (t : Nat) : (Tryd.prog.info? 63).map (·.size) = some (cA f t).size := by rw [cA, fA_size]; exact (zeroBlk f).2
/-- What stands in memory while one block is xored to another. -/
structure XS (w : World) (h g : Nat → Nat) (wx : World) : Prop where
  a : wx.heap[w.heap.size]? = some (.cells (cA h 16) 63 (0, 0))
  b : wx.heap[w.heap.size + 1]? = some (.cells (cA g 16) 63 (0, 0))
  res : wx.heap[w.heap.size + 1 + 1]? = some (.cells (cA h 0) 63 (0, 0))
  bel : Below w.heap.size w wx
theorem XS.drew {w : World} {h g : Nat → Nat} {wx : World} (x : XS w h g wx) : XS w h g wx.drew := ⟨x.a, x.b, x.res, ⟨x.bel.os, x.bel.tape, x.bel.output, x.bel.size, x.bel.block⟩⟩
theorem XS.set {w : World} {f z g : Nat → Nat} {i : Nat} {wx : World} (h : XS w (pt f z i) g wx) (hi : i < 16) : XS w (pt f z (i + 1)) g (wx.setCell ⟨w.heap.size, i, none⟩ (.int .u8 (z i : Nat))) :=
  ⟨by rw [set_of h.a, pt_set _ _ hi], (set_other (by omega)).trans h.b, by rw [cA_nil _ (pt f z i)]; exact (set_other (by omega)).trans h.res, h.bel.setCell (p := ⟨w.heap.size, i, none⟩) (Nat.le_refl _) _⟩
set_option maxHeartbeats 8000000 in
theorem xored_c (f g : Nat → Nat) (w : World) (hf : By16 f) (hg : By16 g) :
    Calls Tryd.prog 33 #[.agg (cA f 16), .agg (cA g 16)] w fun e w' => e = .returned (.agg (cA (fun i => f i ^^^ g i) 16)) ∧ Below w.heap.size w w' := by
  have hz : ∀ w, (zeroValue 63).run Tryd.prog w = .ok (.agg (cA f 0)) w := (zeroBlk f).1
  have HF := hide hf
  have HG := hide hg
  obtain ⟨q0, q1, q2⟩ := heap3 w (.cells (cA f 16) 63) (.cells (cA g 16) 63) (.cells (cA f 0) 63)
  have M0 : Hid (XS w (pt f (fun i => f i ^^^ g i) 0) g (((w.alloc (.cells (cA f 16) 63)).alloc (.cells (cA g 16) 63)).alloc (.cells (cA f 0) 63))) := by
    rw [pt_zero]
    exact ⟨q0, q1, q2, (((Below.refl _ w).alloc (Nat.le_refl _) _).alloc (by simp) _).alloc (by simp; omega) _⟩
  have HI := hide (infoBlk (fun i => f i ^^^ g i) 16)
  clear q0 q1 q2 hf hg
  go_enter Tryd.func33, Tryd.ntmps33
  go_wp2_with fail
  generalize ((w.alloc _).alloc _).alloc _ = wz at M0 ⊢
  go_loopg [6] 16 (fun gk u6 wx => ∃ i : Nat, i + gk = 16 ∧ u6 = .int .i64 i ∧ Hid (XS w (pt f (fun i => f i ^^^ g i) i) g wx))
  case atStart => exact ⟨0, by omega, rfl, M0⟩
  case round =>
    obtain ⟨i, hig, rfl, EX⟩ := hrel
    clear M0
    cases gk with
    | zero =>
      obtain rfl : i = 16 := by omega
      have hge : ¬ ((16 : Nat) : Int) < 16 := by omega
      have X0 := hide EX.out.a
      have X1 := hide EX.out.res
      have XB := hide EX.out.bel
      rw [pt_end] at X0
      clear EX
      have HS := hide (show (cA (pt f (fun i => f i ^^^ g i) 16) 0).size = (cA (fun i => f i ^^^ g i) 16).size by rw [cA_size, cA_size])
      have HO := hide (cA_one (fun i => f i ^^^ g i) 16)
      generalize cA (pt f (fun i => f i ^^^ g i) 16) 0 = oz at X1 HS
      obtain ⟨oc, hoc⟩ : ∃ oc, oc = cA (fun i => f i ^^^ g i) 16 := ⟨_, rfl⟩
      have HOC := hide hoc
      rw [← hoc] at X0 HI HS HO
      clear hoc
      go_wp2_with (first
        | (refine wpList_load_row rfl 63 (.tmp 2) rfl w.heap.size (by rfl) oc 63 (0, 0) X0.out _ Tryd.underlying63 rfl HI.out ?_)
        | (refine wpList_store_row rfl 63 (.tmp 4) (.tmp 18) rfl (w.heap.size + 1 + 1) oc (by rfl) (by rfl) oz 63 X1.out HI.out HS.out HO.out ?_; intro w6 G6 K6))
      have hld : (loadVar 63 ⟨w.heap.size + 1 + 1, 0, none⟩).run Tryd.prog w6 = .ok (.agg oc) w6 :=
        run_loadVar_row _ _ 63 63 oc (0, 0) _ G6.out Tryd.underlying63 rfl HI.out
      refine bodyPost_ret (v := .agg oc) ?_ rfl ⟨by rw [HOC.out], XB.out.trans (K6.out.below XB.out.size (fun i hi e => by omega))⟩
      simp [results, asAddr, hld]
    | succ g1 =>
      have hlt : (i : Int) < 16 := by omega
      have hi : i < 16 := by omega
      have hE := EX.out.drew
      have ca := (cells_of hE.a i).trans (cA_at _ hi)
      rw [pt_at] at ca
      have cb := (cells_of hE.b i).trans (cA_at _ hi)
      have fb := free_of hE.a i
      have hset := hide (hE.set hi)
      have q1 := HF.out i hi
      have q2 := HG.out i hi
      have hxr := xor8 _ _ q1 q2
      generalize f i ^^^ g i = Z at hset hxr
      generalize f i = F at ca q1 hxr
      generalize g i = G at cb q2 hxr
      have i0 : (0 : Int) ≤ (i : Int) := by omega
      clear hE hi EX
      go_upto_region 4 with fail
      go_region_with (fail)
      all_goals go_wp2_with fail
      all_goals (go_roundg g1; (case measure => omega); (case rel => exact ⟨i + 1, by omega, by go_num, hset⟩))
/-- What stands in memory while a block is moved through the box. -/
structure MS (w : World) (f : Nat → Nat) (t : Nat) (wx : World) : Prop where
  src : wx.heap[w.heap.size]? = some (.cells (cA f 16) 63 (0, 0))
  res : wx.heap[w.heap.size + 1]? = some (.cells (cA f 0) 63 (0, 0))
  out : wx.heap[w.heap.size + 1 + 1]? = some (.cells (cA (sub f) t) 63 (0, 0))
  bel : Below w.heap.size w wx
theorem MS.set {w : World} {f : Nat → Nat} {t : Nat} {wx : World} (h : MS w f t wx) (ht : t < 16) : MS w f (t + 1) (wx.setCell ⟨w.heap.size + 1 + 1, t, none⟩ (.int .u8 (sub f t : Nat))) :=
  ⟨(set_other (by omega)).trans h.src, (set_other (by omega)).trans h.res, by rw [set_of h.out, cA_set _ ht], h.bel.setCell (p := ⟨w.heap.size + 1 + 1, t, none⟩) (by show w.heap.size ≤ w.heap.size + 1 + 1; omega) _⟩
theorem MS.stay {w : World} {f : Nat → Nat} {t : Nat} {wx wy : World} (h : MS w f t wx) (hs : Below wx.heap.size wx wy) : MS w f t wy :=
  ⟨(hs.block _ (lt_of_block h.src)).trans h.src, (hs.block _ (lt_of_block h.res)).trans h.res, (hs.block _ (lt_of_block h.out)).trans h.out, h.bel.trans (hs.mono h.bel.size)⟩
set_option maxHeartbeats 8000000 in
theorem moved_c (f : Nat → Nat) (w : World) (hf : By16 f) (hT : Tab w) :
    Calls Tryd.prog 35 #[.agg (cA f 16)] w fun e w' => e = .returned (.agg (cA (sub f) 16)) ∧ Below w.heap.size w w' := by
  have hz : ∀ w, (zeroValue 63).run Tryd.prog w = .ok (.agg (cA f 0)) w := (zeroBlk f).1
  have HF := hide hf
  have HT := hide hT
  obtain ⟨q0, q1, q2⟩ := heap3 w (.cells (cA f 16) 63) (.cells (cA f 0) 63) (.cells (cA f 0) 63)
  have M0 : Hid (MS w f (4 * 0) (((w.alloc (.cells (cA f 16) 63)).alloc (.cells (cA f 0) 63)).alloc (.cells (cA f 0) 63))) :=
    ⟨q0, q1, by rw [show cA (sub f) (4 * 0) = cA f 0 from cA_nil _ _]; exact q2, (((Below.refl _ w).alloc (Nat.le_refl _) _).alloc (by simp) _).alloc (by simp; omega) _⟩
  have HI := hide (infoBlk (sub f) 16)
  clear q0 q1 q2 hf hT
  go_enter Tryd.func35, Tryd.ntmps35
  go_wp2_with fail
  generalize ((w.alloc _).alloc _).alloc _ = wz at M0 ⊢
  go_loopg [6] 4 (fun gk u6 wx => ∃ c : Nat, c + gk = 4 ∧ u6 = .int .i64 c ∧ Hid (MS w f (4 * c) wx))
  case atStart => exact ⟨0, by omega, rfl, M0⟩
  case round =>
    obtain ⟨c, hcg, rfl, MC⟩ := hrel
    clear M0
    cases gk with
    | zero =>
      obtain rfl : c = 4 := by omega
      have hge : ¬ ((4 : Nat) : Int) < 4 := by omega
      have X0 : Hid (wr.heap[w.heap.size + 1 + 1]? = some (.cells (cA (sub f) 16) 63 (0, 0))) := MC.out.out
      have X1 := hide MC.out.res
      have XB := hide MC.out.bel
      clear MC
      have HS := hide (show (cA f 0).size = (cA (sub f) 16).size by rw [cA_size, cA_size])
      have HO := hide (cA_one (sub f) 16)
      obtain ⟨oc, hoc⟩ : ∃ oc, oc = cA (sub f) 16 := ⟨_, rfl⟩
      have HOC := hide hoc
      rw [← hoc] at X0 HI HS HO
      clear hoc
      go_wp2_with (first
        | (refine wpList_load_row rfl 63 (.tmp 3) rfl (w.heap.size + 1 + 1) (by rfl) oc 63 (0, 0) X0.out _ Tryd.underlying63 rfl HI.out ?_)
        | (refine wpList_store_row rfl 63 (.tmp 2) (.tmp 29) rfl (w.heap.size + 1) oc (by rfl) (by rfl) (cA f 0) 63 X1.out HI.out HS.out HO.out ?_; intro w6 G6 K6))
      have hld : (loadVar 63 ⟨w.heap.size + 1, 0, none⟩).run Tryd.prog w6 = .ok (.agg oc) w6 :=
        run_loadVar_row _ _ 63 63 oc (0, 0) _ G6.out Tryd.underlying63 rfl HI.out
      refine bodyPost_ret (v := .agg oc) ?_ rfl ⟨by rw [HOC.out], XB.out.trans (K6.out.below XB.out.size (fun i hi e => by omega))⟩
      simp [results, asAddr, hld]
    | succ g1 =>
      have hlt4 : (c : Int) < 4 := by omega
      have M1 : Hid (MS w f (4 * c + 0) wr) := MC
      clear MC
      go_wp2_with fail
      go_loopg [9] 4 (fun gk u9 wx => ∃ i : Nat, i + gk = 4 ∧ u9 = .int .i64 i ∧ Hid (MS w f (4 * c + i) wx))
      case atStart => exact ⟨0, by omega, rfl, M1⟩
      case round =>
        obtain ⟨i, hig, rfl, MI⟩ := hrel
        clear M1
        cases gk with
        | zero =>
          obtain rfl : i = 4 := by omega
          have hge5 : ¬ ((4 : Nat) : Int) < 4 := by omega
          go_wp2_with fail
          go_roundg g1
          case measure => omega
          case rel => exact ⟨c + 1, by omega, by go_num, by rw [show 4 * (c + 1) = 4 * c + 4 by omega]; exact MI⟩
        | succ g4 =>
          have hlt5 : (i : Int) < 4 := by omega
          obtain ⟨t, ht⟩ : ∃ t, t = 4 * c + i := ⟨_, rfl⟩
          obtain ⟨j, hj⟩ : ∃ j, j = (c + i) % 4 := ⟨_, rfl⟩
          obtain ⟨s, hs⟩ : ∃ s, s = 4 * j + i := ⟨_, rfl⟩
          have hsg : sg t = s := by unfold sg; omega
          have hs16 : s < 16 := by omega
          have ht16 : t < 16 := by omega
          have HTN := hide (show 4 * c + (i + 1) = t + 1 by omega)
          rw [← ht] at MI
          have r1 : (4 : Int) * (c : Int) + (i : Int) = (t : Int) := by omega
          have r2 : ((c : Int) + (i : Int)) % 4 = (j : Int) := by omega
          have r3 : (4 : Int) * (j : Int) + (i : Int) = (s : Int) := by omega
          have cb := (cells_of MI.out.src s).trans (cA_at _ hs16)
          have hX := HF.out s hs16
          have HB := hide (box_p (f s) wr hX (HT.out.stay MI.out.bel))
          have NX := hide (fun (wy : World) (hs : Below wr.heap.size wr wy) => (MI.out.stay hs).set ht16)
          have FR := hide (fun (wy : World) (hs : Below wr.heap.size wr wy) => (MI.out.stay hs).out)
          rw [show sub f t = bx (f s) by unfold sub; rw [hsg]] at NX
          generalize bx (f s) = BV at HB NX
          generalize f s = X at cb hX HB
          have s0 : (0 : Int) ≤ (s : Int) := by omega
          have s1 : (s : Int) < 16 := by omega
          have t0 : (0 : Int) ≤ (t : Int) := by omega
          have t1 : (t : Int) < 16 := by omega
          have HTL := hide ht16
          clear ht hj hs hsg MI ht16 hs16
          go_wp2_with (go_at_call 47; refine HB.out.mono ?_; rintro e w1 ⟨rfl, b1⟩; have F1 := free_of (FR.out w1 b1) t; obtain ⟨o1, O1⟩ : ∃ v, w1.cell? ⟨w.heap.size + 1 + 1, t, none⟩ = some v := ⟨_, (cells_of (FR.out w1 b1) t).trans (fA_not .u8 _ HTL.out)⟩; have B1 := hide b1; clear b1)
          go_roundg g4
          case measure => omega
          case rel => exact ⟨i + 1, by omega, by go_num, by rw [HTN.out]; exact NX.out _ B1.out⟩
end Go.Proofs.YtgamfpgejkhbcaaDoor.K
