/- part (the document's T): contract. -/
import Derived.Test.YtgafejgmjenfaabMSum
import Derived.Test.YtgafejgmjenfaabMGrow
import Derived.Test.YtgafejgmjenfaabHByt
namespace Go.Proofs.Ytgafejgmjenfaab.S
set_option maxRecDepth 100000
open Go Go.RowKit

/-- What stands in memory while T is made: the answer's place, U and T. -/
structure PS (w : World) (b10 b11 : Nat) (us ts : List Nat) (wx : World) : Prop where
  r8 : wx.heap[w.heap.size]? = some (.cells (oA st0 0) 26 (0, 0))
  u : wx.heap[b10]? = some (.cells (bA us) 26 (0, 0))
  t : wx.heap[b11]? = some (.cells (bA ts) 26 (0, 0))
  bel : Below w.heap.size w wx
theorem PS.drew {w wx : World} {b10 b11 : Nat} {us ts : List Nat} (h : PS w b10 b11 us ts wx) : PS w b10 b11 us ts wx.drew :=
  ⟨h.r8, h.u, h.t, ⟨h.bel.os, h.bel.tape, h.bel.output, h.bel.size, h.bel.block⟩⟩
theorem PS.setT {w wx : World} {b10 b11 : Nat} {us ts : List Nat} (h : PS w b10 b11 us ts wx) (hl : ts.length = 20) (h1 : w.heap.size < b10) (h2 : b10 < b11) {n : Nat} (hn : n < 20) (y : Nat) : PS w b10 b11 us (ts.set n y) (wx.setCell ⟨b11, n, none⟩ (.int .u8 (y : Int))) :=
  ⟨(set_other (by omega)).trans h.r8, (set_other (by omega)).trans h.u, set_bA hl h.t hn y, h.bel.setCell (p := ⟨b11, n, none⟩) (by show w.heap.size ≤ b11; omega) _⟩
/-- A new U. -/
theorem PS.newU {w wx wy wz : World} {b10 b11 : Nat} {us ts us' : List Nat} (h : PS w b10 b11 us ts wx) (h1 : w.heap.size < b10) (h2 : b10 < b11) (k : Below wx.heap.size wx wy) (g : wz.heap[b10]? = some (.cells (bA us') 26 (0, 0))) (k2 : Kept (fun k => k = b10) wy wz) : PS w b10 b11 us' ts wz := by
  have l8 := lt_of_block' h.r8
  have l11 := lt_of_block' h.t
  have B := h.bel.trans (k.mono h.bel.size)
  exact ⟨k2.heap ((k.block _ l8).trans h.r8) (by omega), g, k2.heap ((k.block _ l11).trans h.t) (by omega), B.trans (k2.below B.size (fun i hi e => by omega))⟩
theorem idx_text {w : World} {b i : Nat} (hi : i ≤ 1000) (h : w.heap[b]? = some (.cells #[.int .u8 ((i : Int) / 16777216), .int .u8 ((i : Int) / 65536), .int .u8 ((i : Int) / 256), .int .u8 ((i : Int) % 256)] 5 (0, 0))) : TextAt w (some ⟨b, 0, none⟩) (be4 i) := by
  have e0 : (i : Int) / 16777216 = ((i / 16777216 % 256 : Nat) : Int) := by omega
  have e1 : (i : Int) / 65536 = ((i / 65536 % 256 : Nat) : Int) := by omega
  have e2 : (i : Int) / 256 = ((i / 256 % 256 : Nat) : Int) := by omega
  have e3 : (i : Int) % 256 = ((i % 256 : Nat) : Int) := by omega
  rw [e0, e1, e2, e3] at h
  refine .inr ⟨b, 0, rfl, lt_of_block h, fun j hj => ?_⟩
  rw [Nat.zero_add, cells_of h]
  match j, hj with
  | 0, _ => rfl
  | 1, _ => rfl
  | 2, _ => rfl
  | 3, _ => rfl

set_option maxHeartbeats 4000000 in
theorem part_c (bi bo : Nat) (key salt : List Nat) (sa : Option Addr) (sc i r : Nat) (w : World) (hk : By key) (ri : w.heap[bi]? = some (.cells (kA (kX key 54)) 33 (0, 0))) (ro : w.heap[bo]? = some (.cells (kA (kX key 92)) 33 (0, 0)))
    (hs : By salt) (hst : TextAt w sa salt) (hsn : sa = none → salt.length = 0 ∧ sc = 0) (hsl : salt.length ≤ 140737488351232) (hi : i ≤ 1000) (hr : r ≤ 5000) :
    Calls Try.prog 9 #[.func (.func 12) #[] #[.pointer (some ⟨bi, 0, none⟩), .pointer (some ⟨bo, 0, none⟩)], .slice sa salt.length sc, .int .i64 (i : Int), .int .i64 ((r : Int) + 1)] w fun e w' => e = .returned (.agg (bA (tK key salt i r))) ∧ Below w.heap.size w w' := by
  have hz : ∀ w, (zeroValue 26).run Try.prog w = .ok (.agg (oA st0 0)) w := (zero20 _).1
  have lbi := lt_of_block' ri
  have lbo := lt_of_block' ro
  have RI := hide ri
  have RO := hide ro
  have HK := hide hk
  have HSB := hide hs
  have HST := hide hst
  have HSN := hide hsn
  have H20 := fun s => hide (info20 (oB s) 20)
  have HCL := fun W (a : Option Addr) (c : Nat) (ys : List Nat) (k : Below w.heap.size w W) (hy : By ys) (hb : TextAt W a ys) (hcap : ys.length ≤ c) (hcm : c ≤ 9223372036854775807) (hyl : ys.length ≤ 999999999999000) => hide (bound_c hk (bi := bi) (bo := bo) a c ys W ((k.block _ lbi).trans ri) ((k.block _ lbo).trans ro) hy hb hcap hcm hyl)
  obtain ⟨N, hN⟩ : ∃ N, N = salt.length := ⟨_, rfl⟩
  have HN := hide hN
  rw [← hN] at hsl HSN ⊢
  clear hk ri ro hs hst hsn hN
  go_enter Try.func9, Try.ntmps9
  go_upto_region 2 with fail
  have R8 := hide (heap_new1 w (.cells (oA st0 0) 26) (.cells #[.int .u8 ((i : Int) / 16777216), .int .u8 ((i : Int) / 65536), .int .u8 ((i : Int) / 256), .int .u8 ((i : Int) % 256)] 5))
  have X1 := hide (idx_text hi (heap_new2 w (.cells (oA st0 0) 26) (.cells #[.int .u8 ((i : Int) / 16777216), .int .u8 ((i : Int) / 65536), .int .u8 ((i : Int) / 256), .int .u8 ((i : Int) % 256)] 5)))
  have B0 := hide (((Below.refl _ w).alloc (Nat.le_refl _) (.cells (oA st0 0) 26)).alloc (by simp) (.cells #[.int .u8 ((i : Int) / 16777216), .int .u8 ((i : Int) / 65536), .int .u8 ((i : Int) / 256), .int .u8 ((i : Int) % 256)] 5) : Below w.heap.size w _)
  have hb1 : w.heap.size + 1 < ((w.alloc (.cells (oA st0 0) 26)).alloc (.cells #[.int .u8 ((i : Int) / 16777216), .int .u8 ((i : Int) / 65536), .int .u8 ((i : Int) / 256), .int .u8 ((i : Int) % 256)] 5)).heap.size := by simp
  generalize (w.alloc (.cells (oA st0 0) 26)).alloc (.cells #[.int .u8 ((i : Int) / 16777216), .int .u8 ((i : Int) / 65536), .int .u8 ((i : Int) / 256), .int .u8 ((i : Int) % 256)] 5) = w0 at R8 X1 B0 hb1 ⊢
  obtain ⟨b9, hb9⟩ : ∃ b9, b9 = w.heap.size + 1 := ⟨_, rfl⟩
  rw [← hb9] at X1 hb1 ⊢
  clear hb9
  have l8 := lt_of_block' R8.out
  have BA := hide ((Below.refl _ w0).alloc (Nat.le_refl _) (.cells #[.slice sa N sc, .slice (some ⟨b9, 0, none⟩) 4 4] 22) : Below w0.heap.size w0 _)
  obtain ⟨Y, hY⟩ : ∃ Y, Y = salt ++ be4 i := ⟨_, rfl⟩
  obtain ⟨L, hL⟩ : ∃ L, L = Y.length := ⟨_, rfl⟩
  have HYB : Hid (By Y) := by rw [hY]; exact HSB.out.append (be4_by i)
  have hL2 : L ≤ 140737488351236 := by
    have : L = N + 4 := by rw [hL, hY, List.length_append, HN.out]; rfl
    omega
  have HL := hide hL
  have HU0 := hide (show uK key salt i 0 = hmac key Y by rw [hY]; rfl)
  have HCC := hide (show Calls Try.prog 14 #[.slice (some ⟨w0.heap.size, 0, none⟩) 2 2] (w0.alloc (.cells #[.slice sa N sc, .slice (some ⟨b9, 0, none⟩) 4 4] 22)) (fun e w' => ∃ a9 c9, e = .returned (.slice a9 L c9) ∧ TextAt w' a9 Y ∧ L ≤ c9 ∧ c9 ≤ 9223372036854775807 ∧ Below w0.heap.size w0 w') from
    (concat_c w0.heap.size sa (some ⟨b9, 0, none⟩) sc 4 salt (be4 i) _ (by rw [← HN.out]; exact heap_new _ _) ((HST.out.below B0.out).below BA.out) (X1.out.below BA.out) (by rw [← HN.out]; exact HSN.out) (fun e => by cases e) (by rw [← HN.out]; show N + 4 ≤ _; omega)).mono fun e w' ⟨v9, he, o1, k1⟩ => by
      obtain ⟨a9, c9, rfl, hc9, hm9, hn9⟩ := o1.form
      rw [← hY] at o1 he hc9
      rw [← hL] at he hc9
      exact ⟨a9, c9, he, o1.text, hc9, by unfold maxLen at hm9; omega, BA.out.trans (k1.mono BA.out.size)⟩)
  clear hY hL
  go_upto_region 4 with (first
    | (go_at_call 14; refine HCC.out.mono ?_; rintro e w1 ⟨a9, c9, rfl, t1, hc9, hm9, k1⟩; have B1 := hide (B0.out.trans (k1.mono B0.out.size)); have Q8 := hide ((k1.block _ l8).trans R8.out); have HC1 := hide (HCL w1 a9 c9 Y B1.out HYB.out t1 (by rw [← HL.out]; exact hc9) hm9 (by rw [← HL.out]; omega)).out; rw [← HL.out] at HC1; clear k1 t1 hc9 hm9)
    | (go_at_call 12; refine HC1.out.mono ?_; rintro e w2 ⟨rfl, k2⟩; have B2 := hide (B1.out.trans (k2.mono B1.out.size)); have P8 := hide ((k2.block _ (lt_of_block' Q8.out)).trans Q8.out); clear k2)
    | (refine wpList_store_row rfl 26 (.tmp 10) (.tmp 30) rfl w2.heap.size (oA (hmac key Y) 20) (by rfl) (by rfl) (oA st0 0) 26 (heap_new _ _) (H20 _).out (by rw [oA, oA, fA_size, fA_size]) (fA_one _ _ _ _) ?_; intro w3 G3 K3)
    | (refine wpList_load_row rfl 26 (.tmp 10) rfl w2.heap.size (by rfl) (oA (hmac key Y) 20) 26 (0, 0) G3.out _ Try.underlying26 rfl (H20 _).out ?_)
    | (refine wpList_store_row rfl 26 (.tmp 11) (.tmp 31) rfl w3.heap.size (oA (hmac key Y) 20) (by rfl) (by rfl) (oA st0 0) 26 (heap_new _ _) (H20 _).out (by rw [oA, oA, fA_size, fA_size]) (fA_one _ _ _ _) ?_; intro w4 G4 K4))
  have hs2 := B2.out.size
  have l82 := lt_of_block' P8.out
  have l23 := lt_of_block' G3.out
  have P83 := K3.out.heap (heap_old (o := .cells (oA st0 0) 26) P8.out) (by omega)
  have B3 := (B2.out.alloc hs2 (.cells (oA st0 0) 26)).trans (K3.out.below (by simp; omega) (fun i hi e => by omega))
  have B4 := (B3.alloc B3.size (.cells (oA st0 0) 26)).trans (K4.out.below (by have := B3.size; simp; omega) (fun i hi e => by omega))
  have PS0 : Hid (PS w w2.heap.size w3.heap.size (outL (uK key salt i 0)) (tK key salt i 0) w4) :=
    ⟨K4.out.heap (heap_old P83) (by omega), by rw [HU0.out, ← oA_bA]; exact K4.out.heap (heap_old G3.out) (by omega), by rw [tK, HU0.out, ← oA_bA]; exact G4.out, B4⟩
  obtain ⟨b10, hb10⟩ : ∃ b10, b10 = w2.heap.size := ⟨_, rfl⟩
  obtain ⟨b11, hb11⟩ : ∃ b11, b11 = w3.heap.size := ⟨_, rfl⟩
  rw [← hb10] at l82
  rw [← hb10, ← hb11] at l23 PS0 ⊢
  have hsl10 := fun W => slice20 W b10
  clear hb10 hb11 P83 B3 B4 K4 G4 K3 G3 P8 B2 HC1 Q8 B1 HCC hs2 BA l8 X1 R8 B0 hb1 HST HSN HU0 HYB HL
  go_wp2_with fail
  go_loopg [34] r (fun gk u34 wx => ∃ k : Nat, k + gk = r ∧ u34 = .int .i64 k ∧ Hid (PS w b10 b11 (outL (uK key salt i k)) (tK key salt i k) wx))
  case atStart => exact ⟨0, by omega, rfl, PS0⟩
  case round =>
    obtain ⟨k, hkg, rfl, HX⟩ := hrel
    clear PS0
    cases gk with
    | zero =>
      obtain rfl : k = r := by omega
      have hge : ¬ (k : Int) < (k : Int) := by omega
      have HT := hide (infoA (tK key salt i k))
      have HTO := hide (bA_one (tK key salt i k))
      have HTS := hide (show (oA st0 0).size = (bA (tK key salt i k)).size by rw [oA, fA_size, bA_size])
      have X8 := hide HX.out.r8
      have XT := hide HX.out.t
      have XB := hide HX.out.bel
      clear HX
      obtain ⟨tc, htc⟩ : ∃ tc, tc = bA (tK key salt i k) := ⟨_, rfl⟩
      have HTC := hide htc
      rw [← htc] at HT HTO HTS XT
      clear htc
      go_wp2_with (first
        | (refine wpList_load_row rfl 26 (.tmp 11) rfl b11 (by rfl) tc 26 (0, 0) XT.out _ Try.underlying26 rfl HT.out ?_)
        | (refine wpList_store_row rfl 26 (.tmp 8) (.tmp 52) rfl w.heap.size tc (by rfl) (by rfl) (oA st0 0) 26 X8.out HT.out HTS.out HTO.out ?_; intro w6 G6 K6))
      have hld : (loadVar 26 ⟨w.heap.size, 0, none⟩).run Try.prog w6 = .ok (.agg tc) w6 :=
        run_loadVar_row _ _ 26 26 tc (0, 0) _ G6.out Try.underlying26 rfl HT.out
      refine bodyPost_ret (v := .agg tc) ?_ rfl ⟨by rw [HTC.out], XB.out.trans (K6.out.below XB.out.size (fun i hi e => by omega))⟩
      simp [results, asAddr, hld]
    | succ g1 =>
      have hlt : (k : Int) < (r : Int) := by omega
      obtain ⟨S1, hS1⟩ : ∃ S1, S1 = uK key salt i (k + 1) := ⟨_, rfl⟩
      have HS1 := hide hS1
      have HC := hide (HCL wr (some ⟨b10, 0, none⟩) 20 (outL (uK key salt i k)) HX.out.bel (outL_by _) (textA (outL_length _) HX.out.u) (by rw [outL_length]; omega) (by omega) (by rw [outL_length]; omega)).out
      rw [outL_length, show hmac key (outL (uK key salt i k)) = S1 from hS1.symm] at HC
      have XU := hide HX.out.u
      have HUS := hide (show (bA (outL (uK key salt i k))).size = (oA S1 20).size by rw [oA, fA_size, bA_size])
      clear hS1
      generalize bA (outL (uK key salt i k)) = uc at XU HUS ⊢
      go_upto_region 7 with (first
        | (go_at_call 12; refine HC.out.mono ?_; rintro e w5 ⟨rfl, k5⟩; have K5 := hide k5; have YU := hide ((k5.block _ (lt_of_block' XU.out)).trans XU.out); clear k5)
        | (refine wpList_store_row rfl 26 (.tmp 10) (.tmp 38) rfl b10 (oA S1 20) (by rfl) (by rfl) uc 26 YU.out (H20 _).out HUS.out (fA_one _ _ _ _) ?_; intro w6 G6 K6))
      have HP := hide (HX.out.newU l82 l23 K5.out (us' := outL S1) (by rw [← oA_bA]; exact G6.out) K6.out)
      have HP0 : Hid (PS w b10 b11 (outL S1) (mixL (tK key salt i k) (outL S1) 0) w6) := by rw [mixL_zero]; exact HP
      have HNX := hide (show mixL (tK key salt i k) (outL S1) 20 = tK key salt i (k + 1) by
        rw [mixL_end (by rw [tK_length, outL_length]) (tK_length _ _ _ _).symm, HS1.out]; rfl)
      have HUX := hide (show outL S1 = outL (uK key salt i (k + 1)) by rw [HS1.out])
      have HTB := hide (tK_by key salt i k)
      have HTL := hide (tK_length key salt i k)
      clear HP HX K5 K6 G6 YU XU HC HUS HS1
      generalize tK key salt i k = T0 at HP0 HNX HTB HTL
      obtain ⟨V, hV⟩ : ∃ V, V = outL S1 := ⟨_, rfl⟩
      have HVL := hide (show V.length = 20 by rw [hV]; exact outL_length _)
      have HVB := hide (show By V by rw [hV]; exact outL_by _)
      rw [← hV] at HP0 HNX HUX
      clear hV
      obtain ⟨W0, hW0⟩ : ∃ W, W = wr := ⟨wr, rfl⟩
      clear hW0
      go_wp2_with fail
      go_loopg [39] 20 (fun gk u39 wx => ∃ n : Nat, n + gk = 20 ∧ u39 = .int .i64 n ∧ Hid (PS w b10 b11 V (mixL T0 V n) wx))
      case atStart => exact ⟨0, by omega, rfl, HP0⟩
      case round =>
        obtain ⟨n, hng, rfl, HY⟩ := hrel
        clear HP0
        cases gk with
        | zero =>
          obtain rfl : n = 20 := by omega
          have hge : ¬ ((20 : Nat) : Int) < 20 := by omega
          rw [HNX.out, HUX.out] at HY
          clear HNX HUX
          go_wp2_with fail
          go_roundg g1
          case measure => omega
          case rel => exact ⟨k + 1, by omega, by go_num, HY⟩
        | succ g2 =>
          have hlt2 : (n : Int) < 20 := by omega
          have hn : n < 20 := by omega
          have hTV : T0.length = V.length := HTL.out.trans HVL.out.symm
          have hY2 := HY.out.drew
          have cu := (cells_of hY2.u n).trans (bA_at V hn)
          have ct := (cells_of hY2.t n).trans (bA_at _ hn)
          rw [mixL_at hTV (by rw [HTL.out]; exact hn)] at ct
          have ft := free_of hY2.t n
          have hset := hide (hY2.setT (by rw [mixL_length hTV]; exact HTL.out) l82 l23 hn (T0.getD n 0 ^^^ V.getD n 0))
          rw [mixL_set hTV (by rw [HTL.out]; exact hn)] at hset
          have q1 := HTB.out.getD n
          have q2 := HVB.out.getD n
          have hxr := xor8 _ _ q1 q2
          generalize T0.getD n 0 ^^^ V.getD n 0 = Zv at hset hxr
          generalize T0.getD n 0 = Tv at ct q1 hxr
          generalize V.getD n 0 = Uv at cu q2 hxr
          have n0 : (0 : Int) ≤ (n : Int) := by omega
          clear hY2 hTV hn
          go_upto_region 10 with fail
          go_region_with (fail)
          all_goals go_wp2_with fail
          all_goals (go_roundg g2; (case measure => omega); (case rel => exact ⟨n + 1, by omega, by go_num, hset⟩))
end Go.Proofs.Ytgafejgmjenfaab.S
