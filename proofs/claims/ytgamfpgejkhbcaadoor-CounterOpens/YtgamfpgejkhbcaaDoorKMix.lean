/- The reference's mixed: contract. -/
import Derived.Test.YtgamfpgejkhbcaaDoorKBox
namespace Go.Proofs.YtgamfpgejkhbcaaDoor.K
set_option maxRecDepth 100000
open Go Go.RowKit

/-- Sixteen bytes as an array's cells, the first t of them laid. -/
def cA (f : Nat → Nat) (t : Nat) : Array Value := fA .u8 16 f t
theorem zero16 (f : Nat → Nat) : (∀ w, (zeroValue 39).run Tryd.prog w = .ok (.agg (cA f 0)) w) ∧ (Tryd.prog.info? 39).map (·.size) = some 16 := by
  rw [cA, fA_zero]
  exact zero_of_info (by kernel_rfl)
theorem info16 (f : Nat → Nat) (t : Nat) : (Tryd.prog.info? 39).map (·.size) = some (cA f t).size := by rw [cA, fA_size]; exact (zero16 f).2
theorem cA_size (f : Nat → Nat) (t : Nat) : (cA f t).size = 16 := fA_size _ _ _ _
theorem cA_one (f : Nat → Nat) (t : Nat) : (cA f t).all (·.oneCell') = true := fA_one _ _ _ _
theorem cA_at (f : Nat → Nat) {i : Nat} (h : i < 16) : (cA f 16)[i]? = some (.int .u8 (f i : Nat)) := fA_at .u8 f h h
theorem cA_set (f : Nat → Nat) {t : Nat} (h : t < 16) : (cA f t).setIfInBounds t (.int .u8 (f t : Nat)) = cA f (t + 1) := fA_set .u8 f h
theorem cA_congr {f g : Nat → Nat} (h : E16 f g) (t : Nat) : cA f t = cA g t := fA_congr .u8 16 h t
/-- What stands in memory while four bytes are mixed. -/
structure MX (f g : Nat → Nat) (w : World) (t : Nat) (wx : World) : Prop where
  src : wx.heap[w.heap.size]? = some (.cells (cA f 16) 39 (0, 0))
  res : wx.heap[w.heap.size + 1]? = some (.cells (cA f 0) 39 (0, 0))
  out : wx.heap[w.heap.size + 1 + 1]? = some (.cells (cA g t) 39 (0, 0))
  bel : Below w.heap.size w wx
theorem MX.set {f g : Nat → Nat} {w : World} {t : Nat} {wx : World} (h : MX f g w t wx) (ht : t < 16) : MX f g w (t + 1) (wx.setCell ⟨w.heap.size + 1 + 1, t, none⟩ (.int .u8 (g t : Nat))) :=
  ⟨(set_other (by omega)).trans h.src, (set_other (by omega)).trans h.res, by rw [set_of h.out, cA_set _ ht], h.bel.setCell (p := ⟨w.heap.size + 1 + 1, t, none⟩) (by show w.heap.size ≤ w.heap.size + 1 + 1; omega) _⟩
theorem heap3 (w : World) (o p q : Obj) : (((w.alloc o).alloc p).alloc q).heap[w.heap.size]? = some o ∧ (((w.alloc o).alloc p).alloc q).heap[w.heap.size + 1]? = some p ∧ (((w.alloc o).alloc p).alloc q).heap[w.heap.size + 1 + 1]? = some q := by
  refine ⟨heap_old (heap_new1 _ _ _), heap_old (heap_new2 _ _ _), ?_⟩
  have := heap_new ((w.alloc o).alloc p) q
  simpa using this
theorem xr {a b : Nat} (ha : a < 256) (hb : b < 256) : bits .xor .u8 (a : Int) (b : Int) = ((a ^^^ b : Nat) : Int) ∧ a ^^^ b < 256 := ⟨xor8 a b ha hb, xor8_lt ha hb⟩

set_option maxHeartbeats 8000000 in
theorem mixed_c (f : Nat → Nat) (w : World) (hf : By16 f) :
    Calls Tryd.prog 38 #[.agg (cA f 16)] w fun e w' => e = .returned (.agg (cA (mix f) 16)) ∧ Below w.heap.size w w' := by
  have hz : ∀ w, (zeroValue 39).run Tryd.prog w = .ok (.agg (cA f 0)) w := (zero16 f).1
  have HF := hide hf
  have HI := hide (info16 (mix f) 16)
  obtain ⟨q0, q1, q2⟩ := heap3 w (.cells (cA f 16) 39) (.cells (cA f 0) 39) (.cells (cA f 0) 39)
  have M0 : Hid (MX f (mix f) w 0 (((w.alloc (.cells (cA f 16) 39)).alloc (.cells (cA f 0) 39)).alloc (.cells (cA f 0) 39))) :=
    ⟨q0, q1, by rw [show cA (mix f) 0 = cA f 0 by rw [cA, cA, fA_zero, fA_zero]]; exact q2, (((Below.refl _ w).alloc (Nat.le_refl _) _).alloc (by simp) _).alloc (by simp; omega) _⟩
  clear q0 q1 q2 hf
  go_enter Tryd.func38, Tryd.ntmps38
  go_wp2_with fail
  generalize ((w.alloc (.cells (cA f 16) 39)).alloc (.cells (cA f 0) 39)).alloc (.cells (cA f 0) 39) = wz at M0 ⊢
  go_loopg [4] 4 (fun gk u4 wx => ∃ c : Nat, c + gk = 4 ∧ u4 = .int .i64 ((4 * c : Nat) : Int) ∧ Hid (MX f (mix f) w (4 * c) wx))
  case atStart => exact ⟨0, by omega, rfl, M0⟩
  case round =>
    obtain ⟨c, hcg, rfl, MC⟩ := hrel
    clear M0
    cases gk with
    | zero =>
      obtain rfl : c = 4 := by omega
      have hge : ¬ ((4 * 4 : Nat) : Int) < 16 := by omega
      have X1 := hide MC.out.res
      have X2 := hide MC.out.out
      have XB := hide MC.out.bel
      have HS := hide (show (cA f 0).size = (cA (mix f) 16).size by rw [cA_size, cA_size])
      have HO := hide (cA_one (mix f) 16)
      clear MC
      obtain ⟨oc, hoc⟩ : ∃ oc, oc = cA (mix f) 16 := ⟨_, rfl⟩
      have HOC := hide hoc
      change Hid (wr.heap[w.heap.size + 1 + 1]? = some (.cells (cA (mix f) 16) 39 (0, 0))) at X2
      rw [← hoc] at X2 HS HO HI
      clear hoc
      go_wp2_with (first
        | (refine wpList_load_row rfl 39 (.tmp 3) rfl (w.heap.size + 1 + 1) (by rfl) oc 39 (0, 0) X2.out _ Tryd.underlying39 rfl HI.out ?_)
        | (refine wpList_store_row rfl 39 (.tmp 2) (.tmp 75) rfl (w.heap.size + 1) oc (by rfl) (by rfl) (cA f 0) 39 X1.out HI.out HS.out HO.out ?_; intro w6 G6 K6))
      have hld : (loadVar 39 ⟨w.heap.size + 1, 0, none⟩).run Tryd.prog w6 = .ok (.agg oc) w6 :=
        run_loadVar_row _ _ 39 39 oc (0, 0) _ G6.out Tryd.underlying39 rfl HI.out
      refine bodyPost_ret (v := .agg oc) ?_ rfl ⟨by rw [HOC.out], XB.out.trans (K6.out.below XB.out.size (fun i hi e => by omega))⟩
      simp [results, asAddr, hld]
    | succ g1 =>
      have hlt : ((4 * c : Nat) : Int) < 16 := by omega
      have hc3 : c ≤ 3 := by omega
      obtain ⟨k, hk⟩ : ∃ k, k = 4 * c := ⟨_, rfl⟩
      rw [← hk] at MC hlt ⊢
      have HK := hide hk
      have k12 : k ≤ 12 := by omega
      have g0 : mix f k = m0 (f k) (f (k + 1)) (f (k + 2)) (f (k + 3)) := by
        unfold mix; rw [hk, show 4 * (4 * c / 4) = 4 * c by omega, show (4 * c) % 4 = 0 by omega, show (4 * c + 1) % 4 = 1 by omega, show (4 * c + 2) % 4 = 2 by omega, show (4 * c + 3) % 4 = 3 by omega]; rfl
      have g1' : mix f (k + 1) = m0 (f (k + 1)) (f (k + 2)) (f (k + 3)) (f k) := by
        unfold mix; rw [hk, show 4 * ((4 * c + 1) / 4) = 4 * c by omega, show (4 * c + 1) % 4 = 1 by omega, show (4 * c + 1 + 1) % 4 = 2 by omega, show (4 * c + 1 + 2) % 4 = 3 by omega, show (4 * c + 1 + 3) % 4 = 0 by omega]; rfl
      have g2 : mix f (k + 2) = m0 (f (k + 2)) (f (k + 3)) (f k) (f (k + 1)) := by
        unfold mix; rw [hk, show 4 * ((4 * c + 2) / 4) = 4 * c by omega, show (4 * c + 2) % 4 = 2 by omega, show (4 * c + 2 + 1) % 4 = 3 by omega, show (4 * c + 2 + 2) % 4 = 0 by omega, show (4 * c + 2 + 3) % 4 = 1 by omega]; rfl
      have g3 : mix f (k + 3) = m0 (f (k + 3)) (f k) (f (k + 1)) (f (k + 2)) := by
        unfold mix; rw [hk, show 4 * ((4 * c + 3) / 4) = 4 * c by omega, show (4 * c + 3) % 4 = 3 by omega, show (4 * c + 3 + 1) % 4 = 0 by omega, show (4 * c + 3 + 2) % 4 = 1 by omega, show (4 * c + 3 + 3) % 4 = 2 by omega]; rfl
      have ca := (cells_of MC.out.src k).trans (cA_at f (by omega))
      have cb := (cells_of MC.out.src (k + 1)).trans (cA_at f (by omega))
      have cc := (cells_of MC.out.src (k + 2)).trans (cA_at f (by omega))
      have cd := (cells_of MC.out.src (k + 3)).trans (cA_at f (by omega))
      have la := HF.out k (by omega)
      have lb := HF.out (k + 1) (by omega)
      have lc := HF.out (k + 2) (by omega)
      have ld := HF.out (k + 3) (by omega)
      have e1 : m0 (f (k + 1)) (f (k + 2)) (f (k + 3)) (f k) = ((f k ^^^ tm 2 (f (k + 1))) ^^^ tm 3 (f (k + 2))) ^^^ f (k + 3) := by unfold m0; ac_rfl
      have e2 : m0 (f (k + 2)) (f (k + 3)) (f k) (f (k + 1)) = ((f k ^^^ f (k + 1)) ^^^ tm 2 (f (k + 2))) ^^^ tm 3 (f (k + 3)) := by unfold m0; ac_rfl
      have e3 : m0 (f (k + 3)) (f k) (f (k + 1)) (f (k + 2)) = ((tm 3 (f k) ^^^ f (k + 1)) ^^^ f (k + 2)) ^^^ tm 2 (f (k + 3)) := by unfold m0; ac_rfl
      rw [e1] at g1'
      rw [e2] at g2
      rw [e3] at g3
      unfold m0 at g0
      have H2a := fun W => hide (times_c 2 (f k) W (by omega) la)
      have H3a := fun W => hide (times_c 3 (f k) W (by omega) la)
      have H2b := fun W => hide (times_c 2 (f (k + 1)) W (by omega) lb)
      have H3b := fun W => hide (times_c 3 (f (k + 1)) W (by omega) lb)
      have H2c := fun W => hide (times_c 2 (f (k + 2)) W (by omega) lc)
      have H3c := fun W => hide (times_c 3 (f (k + 2)) W (by omega) lc)
      have H2d := fun W => hide (times_c 2 (f (k + 3)) W (by omega) ld)
      have H3d := fun W => hide (times_c 3 (f (k + 3)) W (by omega) ld)
      have t2a := tm_lt 2 (f k)
      have t3a := tm_lt 3 (f k)
      have t2b := tm_lt 2 (f (k + 1))
      have t3b := tm_lt 3 (f (k + 1))
      have t2c := tm_lt 2 (f (k + 2))
      have t3c := tm_lt 3 (f (k + 2))
      have t2d := tm_lt 2 (f (k + 3))
      have t3d := tm_lt 3 (f (k + 3))
      generalize tm 2 (f k) = P2a at H2a t2a g0
      generalize tm 3 (f k) = P3a at H3a t3a g3
      generalize tm 2 (f (k + 1)) = P2b at H2b t2b g1'
      generalize tm 3 (f (k + 1)) = P3b at H3b t3b g0
      generalize tm 2 (f (k + 2)) = P2c at H2c t2c g2
      generalize tm 3 (f (k + 2)) = P3c at H3c t3c g1'
      generalize tm 2 (f (k + 3)) = P2d at H2d t2d g3
      generalize tm 3 (f (k + 3)) = P3d at H3d t3d g2
      generalize f k = A at ca la H2a H3a g0 g1' g2
      generalize f (k + 1) = B at cb lb H2b H3b g2 g3
      generalize f (k + 2) = C at cc lc H2c H3c g0 g3
      generalize f (k + 3) = D at cd ld H2d H3d g0 g1'
      have S1 := hide (MC.out.set (by omega))
      have f1 := free_of MC.out.out k
      obtain ⟨o0, ho0⟩ : ∃ v, wr.cell? ⟨w.heap.size + 1 + 1, k, none⟩ = some v := ⟨_, (cells_of MC.out.out k).trans (fA_not .u8 (mix f) (show k < 16 by omega))⟩
      obtain ⟨y1, h1⟩ := xr t2a t3b
      obtain ⟨y2, h2⟩ := xr h1 lc
      obtain ⟨y3, h3⟩ := xr h2 ld
      rw [← g0] at y3
      have k0 : (0 : Int) ≤ (k : Int) := by omega
      have k1 : (k : Int) ≤ 12 := by omega
      clear g0 h1 h2 h3 MC hk
      generalize P2a ^^^ P3b = Y1 at y1 y2 y3
      generalize Y1 ^^^ C = Y2 at y2 y3
      generalize mix f k = V0 at S1 y3
      go_upto_region 10 with (first
        | (go_at_call 37; refine (H2a _).out.mono ?_; rintro e w1 ⟨rfl, hw⟩; rw [hw]; clear hw w1 H2a)
        | (go_at_call 37; refine (H3b _).out.mono ?_; rintro e w1 ⟨rfl, hw⟩; rw [hw]; clear hw w1 H3b))
      generalize wr.setCell ⟨w.heap.size + 1 + 1, k, none⟩ (.int .u8 (V0 : Int)) = W1 at S1 ⊢
      have S2 := hide (S1.out.set (by omega))
      have f2 := free_of S1.out.out (k + 1)
      obtain ⟨o1, ho1⟩ : ∃ v, W1.cell? ⟨w.heap.size + 1 + 1, k + 1, none⟩ = some v := ⟨_, (cells_of S1.out.out (k + 1)).trans (fA_not .u8 (mix f) (show k + 1 < 16 by omega))⟩
      obtain ⟨y4, h1⟩ := xr la t2b
      obtain ⟨y5, h2⟩ := xr h1 t3c
      obtain ⟨y6, h3⟩ := xr h2 ld
      rw [← g1'] at y6
      clear g1' h1 h2 h3 S1 ho0 f1 y1 y2 y3 o0
      generalize A ^^^ P2b = Y4 at y4 y5 y6
      generalize Y4 ^^^ P3c = Y5 at y5 y6
      generalize mix f (k + 1) = V1 at S2 y6
      go_upto_region 11 with (first
        | (go_at_call 37; refine (H2b _).out.mono ?_; rintro e w1 ⟨rfl, hw⟩; rw [hw]; clear hw w1 H2b)
        | (go_at_call 37; refine (H3c _).out.mono ?_; rintro e w1 ⟨rfl, hw⟩; rw [hw]; clear hw w1 H3c))
      generalize W1.setCell ⟨w.heap.size + 1 + 1, k + 1, none⟩ (.int .u8 (V1 : Int)) = W2 at S2 ⊢
      have S3 := hide (S2.out.set (by omega))
      rw [show k + 1 + 1 = k + 2 from rfl] at S3
      have f3 := free_of S2.out.out (k + 2)
      obtain ⟨o2, ho2⟩ : ∃ v, W2.cell? ⟨w.heap.size + 1 + 1, k + 2, none⟩ = some v := ⟨_, (cells_of S2.out.out (k + 2)).trans (fA_not .u8 (mix f) (show k + 2 < 16 by omega))⟩
      obtain ⟨y7, h1⟩ := xr la lb
      obtain ⟨y8, h2⟩ := xr h1 t2c
      obtain ⟨y9, h3⟩ := xr h2 t3d
      rw [← g2] at y9
      clear g2 h1 h2 h3 S2 ho1 f2 y4 y5 y6 o1
      generalize A ^^^ B = Y7 at y7 y8 y9
      generalize Y7 ^^^ P2c = Y8 at y8 y9
      generalize mix f (k + 2) = V2 at S3 y9
      go_upto_region 12 with (first
        | (go_at_call 37; refine (H2c _).out.mono ?_; rintro e w1 ⟨rfl, hw⟩; rw [hw]; clear hw w1 H2c)
        | (go_at_call 37; refine (H3d _).out.mono ?_; rintro e w1 ⟨rfl, hw⟩; rw [hw]; clear hw w1 H3d))
      generalize W2.setCell ⟨w.heap.size + 1 + 1, k + 2, none⟩ (.int .u8 (V2 : Int)) = W3 at S3 ⊢
      have S4 := hide (S3.out.set (by omega))
      rw [show k + 2 + 1 = k + 3 from rfl] at S4
      have f4 := free_of S3.out.out (k + 3)
      obtain ⟨o3, ho3⟩ : ∃ v, W3.cell? ⟨w.heap.size + 1 + 1, k + 3, none⟩ = some v := ⟨_, (cells_of S3.out.out (k + 3)).trans (fA_not .u8 (mix f) (show k + 3 < 16 by omega))⟩
      obtain ⟨ya, h1⟩ := xr t3a lb
      obtain ⟨yb, h2⟩ := xr h1 lc
      obtain ⟨yc, h3⟩ := xr h2 t2d
      rw [← g3] at yc
      clear g3 h1 h2 h3 S3 ho2 f3 y7 y8 y9 o2
      generalize P3a ^^^ B = Ya at ya yb yc
      generalize Ya ^^^ C = Yb at yb yc
      generalize mix f (k + 3) = V3 at S4 yc
      go_wp2_with (first
        | (go_at_call 37; refine (H3a _).out.mono ?_; rintro e w1 ⟨rfl, hw⟩; rw [hw]; clear hw w1 H3a)
        | (go_at_call 37; refine (H2d _).out.mono ?_; rintro e w1 ⟨rfl, hw⟩; rw [hw]; clear hw w1 H2d))
      go_roundg g1
      case measure => omega
      case rel => exact ⟨c + 1, by omega, by have := HK.out; go_num, by have := HK.out; rw [show 4 * (c + 1) = k + 3 + 1 by omega]; exact S4⟩
end Go.Proofs.YtgamfpgejkhbcaaDoor.K
