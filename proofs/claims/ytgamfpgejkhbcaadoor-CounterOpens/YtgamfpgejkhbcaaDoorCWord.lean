/- The program's mixedWord, boxed: contracts. -/
import Derived.Test.YtgamfpgejkhbcaaDoorCSmall
namespace Go.Proofs.YtgamfpgejkhbcaaDoor.K
set_option maxRecDepth 100000
open Go Go.RowKit

/-- Four bytes as an array's cells. -/
def wA (a b c d : Nat) : Array Value := #[.int .u8 (a : Int), .int .u8 (b : Int), .int .u8 (c : Int), .int .u8 (d : Int)]
theorem zero4 : (∀ w, (zeroValue 60).run Tryd.prog w = .ok (.agg (wA 0 0 0 0)) w) ∧ (Tryd.prog.info? 60).map (·.size) = some 4 := zero_of_info (by kernel_rfl)

theorem heap2w (w : World) (o p : Obj) : ((w.alloc o).alloc p).heap[w.heap.size]? = some o ∧ ((w.alloc o).alloc p).heap[w.heap.size + 1]? = some p := ⟨heap_new1 _ _ _, heap_new2 _ _ _⟩
theorem wA_one (a b c d : Nat) : (wA a b c d).all (·.oneCell') = true := by simp [wA, Value.oneCell']

set_option maxHeartbeats 4000000 in
theorem mixedWord_c (a b c d : Nat) (w : World) (ha : a < 256) (hb : b < 256) (hc : c < 256) (hd : d < 256) :
    Calls Tryd.prog 46 #[.agg (wA a b c d)] w fun e w' => e = .returned (.agg (wA (m0 a b c d) (m0 b c d a) (m0 c d a b) (m0 d a b c))) ∧ Below w.heap.size w w' := by
  have hz : ∀ w, (zeroValue 60).run Tryd.prog w = .ok (.agg (wA 0 0 0 0)) w := zero4.1
  have HA := fun W => hide (twice_c a W ha)
  have HB := fun W => hide (twice_c b W hb)
  have HC := fun W => hide (twice_c c W hc)
  have HD := fun W => hide (twice_c d W hd)
  have TA := fun W => hide (thrice_c a W ha)
  have TB := fun W => hide (thrice_c b W hb)
  have TC := fun W => hide (thrice_c c W hc)
  have TD := fun W => hide (thrice_c d W hd)
  have e0 := hide (show m0 a b c d = ((tm 2 a ^^^ tm 3 b) ^^^ c) ^^^ d from rfl)
  have e1 := hide (show m0 b c d a = ((a ^^^ tm 2 b) ^^^ tm 3 c) ^^^ d by unfold m0; ac_rfl)
  have e2 := hide (show m0 c d a b = ((a ^^^ b) ^^^ tm 2 c) ^^^ tm 3 d by unfold m0; ac_rfl)
  have e3 := hide (show m0 d a b c = ((tm 3 a ^^^ b) ^^^ c) ^^^ tm 2 d by unfold m0; ac_rfl)
  obtain ⟨y1, h1⟩ := xr (tm_lt 2 a) (tm_lt 3 b)
  obtain ⟨y2, h2⟩ := xr h1 hc
  obtain ⟨y3, h3⟩ := xr h2 hd
  obtain ⟨y4, h4⟩ := xr ha (tm_lt 2 b)
  obtain ⟨y5, h5⟩ := xr h4 (tm_lt 3 c)
  obtain ⟨y6, h6⟩ := xr h5 hd
  obtain ⟨y7, h7⟩ := xr ha hb
  obtain ⟨y8, h8⟩ := xr h7 (tm_lt 2 c)
  obtain ⟨y9, h9⟩ := xr h8 (tm_lt 3 d)
  obtain ⟨ya, h10⟩ := xr (tm_lt 3 a) hb
  obtain ⟨yb, h11⟩ := xr h10 hc
  obtain ⟨yc, h12⟩ := xr h11 (tm_lt 2 d)
  rw [← e0.out] at y3
  rw [← e1.out] at y6
  rw [← e2.out] at y9
  rw [← e3.out] at yc
  clear h1 h2 h3 h4 h5 h6 h7 h8 h9 h10 h11 h12 e0 e1 e2 e3 ha hb hc hd
  generalize m0 a b c d = V0 at *
  generalize m0 b c d a = V1 at *
  generalize m0 c d a b = V2 at *
  generalize m0 d a b c = V3 at *
  generalize tm 2 a ^^^ tm 3 b = Y1 at *
  generalize Y1 ^^^ c = Y2 at *
  generalize a ^^^ tm 2 b = Y4 at *
  generalize Y4 ^^^ tm 3 c = Y5 at *
  generalize a ^^^ b = Y7 at *
  generalize Y7 ^^^ tm 2 c = Y8 at *
  generalize tm 3 a ^^^ b = Ya at *
  generalize Ya ^^^ c = Yb at *
  generalize tm 2 a = a2 at *
  generalize tm 2 b = b2 at *
  generalize tm 2 c = c2 at *
  generalize tm 2 d = d2 at *
  generalize tm 3 a = a3 at *
  generalize tm 3 b = b3 at *
  generalize tm 3 c = c3 at *
  generalize tm 3 d = d3 at *
  obtain ⟨q0, q1⟩ := heap2w w (.cells (wA a b c d) 60) (.cells (wA 0 0 0 0) 60)
  have XB := hide (((Below.refl _ w).alloc (Nat.le_refl _) (.cells (wA a b c d) 60)).alloc (by simp) (.cells (wA 0 0 0 0) 60))
  have X1 := hide q1
  have c0 := cells_of q0 0
  have c1 := cells_of q0 1
  have c2' := cells_of q0 2
  have c3' := cells_of q0 3
  simp only [wA, List.getElem?_toArray, List.getElem?_cons_zero, List.getElem?_cons_succ] at c0 c1 c2' c3'
  have HI := hide (show (Tryd.prog.info? 60).map (·.size) = some (wA V0 V1 V2 V3).size from zero4.2)
  clear q0 q1
  go_enter Tryd.func46, Tryd.ntmps46
  go_upto_region 1 with fail
  simp only [wA] at *
  generalize (w.alloc _).alloc _ = wz at *
  go_quiet (fail)
  go_wp2_with (first
    | (go_at_call 45; refine (HA _).out.mono ?_; rintro e w1 ⟨rfl, hw⟩; rw [hw]; clear hw w1 HA)
    | (go_at_call 45; refine (HB _).out.mono ?_; rintro e w1 ⟨rfl, hw⟩; rw [hw]; clear hw w1 HB)
    | (go_at_call 45; refine (HC _).out.mono ?_; rintro e w1 ⟨rfl, hw⟩; rw [hw]; clear hw w1 HC)
    | (go_at_call 45; refine (HD _).out.mono ?_; rintro e w1 ⟨rfl, hw⟩; rw [hw]; clear hw w1 HD)
    | (go_at_call 53; refine (TB _).out.mono ?_; rintro e w1 ⟨rfl, hw⟩; rw [hw]; clear hw w1 TB)
    | (go_at_call 53; refine (TC _).out.mono ?_; rintro e w1 ⟨rfl, hw⟩; rw [hw]; clear hw w1 TC)
    | (go_at_call 53; refine (TD _).out.mono ?_; rintro e w1 ⟨rfl, hw⟩; rw [hw]; clear hw w1 TD)
    | (go_at_call 53; refine (TA _).out.mono ?_; rintro e w1 ⟨rfl, hw⟩; rw [hw]; clear hw w1 TA)
    | (refine wpList_store_row rfl 60 (.tmp 2) (.tmp 51) rfl (w.heap.size + 1) (wA V0 V1 V2 V3) (by rfl) (by rfl) (wA 0 0 0 0) 60 X1.out HI.out rfl (wA_one _ _ _ _) ?_; intro w6 G6 K6))
  have hld : (loadVar 60 ⟨w.heap.size + 1, 0, none⟩).run Tryd.prog w6 = .ok (.agg (wA V0 V1 V2 V3)) w6 :=
    run_loadVar_row _ _ 60 60 _ (0, 0) _ G6.out Tryd.underlying60 rfl HI.out
  refine bodyPost_ret (v := .agg (wA V0 V1 V2 V3)) ?_ rfl ⟨rfl, (XB.out.trans ((below_drewN wz nq).mono XB.out.size)).trans (K6.out.below XB.out.size (fun i hi e => by omega))⟩
  simp [results, asAddr, hld, Act.put]
/-- A word of which the first bytes have been taken through the box. -/
def bwA (a b c d k : Nat) : Array Value := wA (if 0 < k then bx a else a) (if 1 < k then bx b else b) (if 2 < k then bx c else c) (if 3 < k then bx d else d)
/-- What stands in memory meanwhile. -/
structure WB (w : World) (a b c d k : Nat) (wx : World) : Prop where
  src : wx.heap[w.heap.size]? = some (.cells (bwA a b c d k) 60 (0, 0))
  res : wx.heap[w.heap.size + 1]? = some (.cells (wA 0 0 0 0) 60 (0, 0))
  bel : Below w.heap.size w wx
theorem bwA_set (a b c d : Nat) {k : Nat} (hk : k < 4) : (bwA a b c d k).setIfInBounds k (.int .u8 (bx ([a, b, c, d].getD k 0) : Nat)) = bwA a b c d (k + 1) := by
  rcases (show k = 0 ∨ k = 1 ∨ k = 2 ∨ k = 3 by omega) with rfl | rfl | rfl | rfl <;> rfl
theorem WB.set {w : World} {a b c d k : Nat} {wx : World} (h : WB w a b c d k wx) (hk : k < 4) : WB w a b c d (k + 1) (wx.setCell ⟨w.heap.size, k, none⟩ (.int .u8 (bx ([a, b, c, d].getD k 0) : Nat))) :=
  ⟨by rw [set_of h.src, bwA_set _ _ _ _ hk], (set_other (by omega)).trans h.res, h.bel.setCell (p := ⟨w.heap.size, k, none⟩) (Nat.le_refl _) _⟩
theorem WB.stay {w : World} {a b c d k : Nat} {wx wy : World} (h : WB w a b c d k wx) (hs : Below wx.heap.size wx wy) : WB w a b c d k wy :=
  ⟨(hs.block _ (lt_of_block h.src)).trans h.src, (hs.block _ (lt_of_block h.res)).trans h.res, h.bel.trans (hs.mono h.bel.size)⟩
theorem word_ix (a b c d : Nat) {k : Nat} (hk : k < 4) (w : World) : (Instr.index 60 (.agg (wA a b c d)) (.int .i64 (k : Int))).run Tryd.prog w = .ok (.int .u8 ([a, b, c, d].getD k 0 : Nat)) w := by
  rcases (show k = 0 ∨ k = 1 ∨ k = 2 ∨ k = 3 by omega) with rfl | rfl | rfl | rfl <;> kernel_rfl
set_option maxHeartbeats 4000000 in
theorem boxed_c (a b c d : Nat) (w : World) (ha : a < 256) (hb : b < 256) (hc : c < 256) (hd : d < 256) (hT : Tab w) :
    Calls Tryd.prog 44 #[.agg (wA a b c d)] w fun e w' => e = .returned (.agg (wA (bx a) (bx b) (bx c) (bx d))) ∧ Below w.heap.size w w' := by
  have hz : ∀ w, (zeroValue 60).run Tryd.prog w = .ok (.agg (wA 0 0 0 0)) w := zero4.1
  obtain ⟨q0, q1⟩ := heap2w w (.cells (wA a b c d) 60) (.cells (wA 0 0 0 0) 60)
  have S0 : Hid (WB w a b c d 0 ((w.alloc (.cells (wA a b c d) 60)).alloc (.cells (wA 0 0 0 0) 60))) := ⟨q0, q1, ((Below.refl _ w).alloc (Nat.le_refl _) _).alloc (by simp) _⟩
  have HT := hide hT
  have HL := hide (show ∀ k, k < 4 → [a, b, c, d].getD k 0 < 256 from fun k hk => by
    rcases (show k = 0 ∨ k = 1 ∨ k = 2 ∨ k = 3 by omega) with rfl | rfl | rfl | rfl <;> assumption)
  have HI := hide (show (Tryd.prog.info? 60).map (·.size) = some (wA a b c d).size from zero4.2)
  have HJ := hide (show (Tryd.prog.info? 60).map (·.size) = some (wA (bx a) (bx b) (bx c) (bx d)).size from zero4.2)
  have HX := hide (fun (k : Nat) (hk : k < 4) => word_ix a b c d hk)
  have HW := hide (show bwA a b c d 0 = wA a b c d from rfl)
  clear q0 q1 hT ha hb hc hd
  generalize wA a b c d = WV at HX HI HW S0 ⊢
  go_enter Tryd.func44, Tryd.ntmps44
  go_upto_region 1 with fail
  generalize (w.alloc _).alloc _ = wz at *
  have q0 : Hid (wz.heap[w.heap.size]? = some (.cells WV 60 (0, 0))) := by rw [← HW.out]; exact S0.out.src
  go_wp2_with (refine wpList_load_row rfl 60 (.tmp 1) rfl w.heap.size (by rfl) WV 60 (0, 0) q0.out _ Tryd.underlying60 rfl HI.out ?_)
  clear q0
  go_loopg [6] 4 (fun gk u6 wx => ∃ k : Nat, k + gk = 4 ∧ u6 = .int .i64 (k : Int) ∧ Hid (WB w a b c d k wx))
  case atStart => exact ⟨0, by omega, rfl, S0⟩
  case round =>
    obtain ⟨k, hkg, rfl, SX⟩ := hrel
    clear S0
    cases gk with
    | zero =>
      obtain rfl : k = 4 := by omega
      have hge : ¬ ((4 : Nat) : Int) < 4 := by omega
      have X0 : Hid (wr.heap[w.heap.size]? = some (.cells (wA (bx a) (bx b) (bx c) (bx d)) 60 (0, 0))) := SX.out.src
      have X1 := hide SX.out.res
      have XB := hide SX.out.bel
      clear SX
      go_wp2_with (first
        | (refine wpList_load_row rfl 60 (.tmp 1) rfl w.heap.size (by rfl) (wA (bx a) (bx b) (bx c) (bx d)) 60 (0, 0) X0.out _ Tryd.underlying60 rfl HJ.out ?_)
        | (refine wpList_store_row rfl 60 (.tmp 2) (.tmp 15) rfl (w.heap.size + 1) (wA (bx a) (bx b) (bx c) (bx d)) (by rfl) (by rfl) (wA 0 0 0 0) 60 X1.out HJ.out rfl (wA_one _ _ _ _) ?_; intro w6 G6 K6))
      have hld : (loadVar 60 ⟨w.heap.size + 1, 0, none⟩).run Tryd.prog w6 = .ok (.agg (wA (bx a) (bx b) (bx c) (bx d))) w6 :=
        run_loadVar_row _ _ 60 60 _ (0, 0) _ G6.out Tryd.underlying60 rfl HJ.out
      refine bodyPost_ret (v := .agg (wA (bx a) (bx b) (bx c) (bx d))) ?_ rfl ⟨rfl, XB.out.trans (K6.out.below XB.out.size (fun i hi e => by omega))⟩
      simp [results, asAddr, hld]
    | succ g1 =>
      have hlt : ((k : Nat) : Int) < 4 := by omega
      have k0 : (0 : Int) ≤ (k : Int) := by omega
      have hk4 : k < 4 := by omega
      have hx := HX.out k hk4
      have hv := HL.out k hk4
      have HB := hide (box_p ([a, b, c, d].getD k 0) wr hv (HT.out.stay SX.out.bel))
      have HK := hide hk4
      clear hk4
      have NX := hide (fun (wy : World) (hs : Below wr.heap.size wr wy) => (SX.out.stay hs).set HK.out)
      have FR := hide (fun (wy : World) (hs : Below wr.heap.size wr wy) => (SX.out.stay hs).src)
      generalize [a, b, c, d].getD k 0 = X at hx hv HB NX
      generalize bx X = Y at HB NX
      go_wp2_with (go_at_call 47; refine HB.out.mono ?_; rintro e w1 ⟨rfl, b1⟩; have F1 := free_of (FR.out w1 b1) k; obtain ⟨o1, O1⟩ : ∃ v, w1.cell? ⟨w.heap.size, k, none⟩ = some v := ⟨_, (cells_of (FR.out w1 b1) k).trans (Array.getElem?_eq_getElem (by exact HK.out))⟩; have B1 := hide b1; clear b1)
      go_roundg g1
      case measure => omega
      case rel => exact ⟨k + 1, by omega, by go_num, NX.out _ B1.out⟩
end Go.Proofs.YtgamfpgejkhbcaaDoor.K
