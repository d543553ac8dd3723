/- part (the document's T): contract. Key: contract. Same: contract. -/
import Derived.Test.YtgamfpgejkhbcaaDoorMG2
import Derived.Test.YtgamfpgejkhbcaaDoorHByt
import Derived.Test.YtgamfpgejkhbcaaDoorHOwn
namespace Go.Proofs.YtgamfpgejkhbcaaDoor.S
set_option maxRecDepth 100000
open Go Go.RowKit

/-- What stands in memory while T is made: the answer's place, U and T. -/
structure PS (w : World) (b10 b11 : Nat) (us ts : List Nat) (wx : World) : Prop where
  r8 : wx.heap[w.heap.size]? = some (.cells (oA st0 0) 55 (0, 0))
  u : wx.heap[b10]? = some (.cells (bA us) 55 (0, 0))
  t : wx.heap[b11]? = some (.cells (bA ts) 55 (0, 0))
  bel : Below w.heap.size w wx
theorem PS.drew {w wx : World} {b10 b11 : Nat} {us ts : List Nat} (h : PS w b10 b11 us ts wx) : PS w b10 b11 us ts wx.drew :=
  ⟨h.r8, h.u, h.t, ⟨h.bel.os, h.bel.tape, h.bel.output, h.bel.size, h.bel.block⟩⟩
theorem PS.setT {w wx : World} {b10 b11 : Nat} {us ts : List Nat} (h : PS w b10 b11 us ts wx) (hl : ts.length = 20) (h1 : w.heap.size < b10) (h2 : b10 < b11) {n : Nat} (hn : n < 20) (y : Nat) : PS w b10 b11 us (ts.set n y) (wx.setCell ⟨b11, n, none⟩ (.int .u8 (y : Int))) :=
  ⟨(set_other (by omega)).trans h.r8, (set_other (by omega)).trans h.u, set_bA hl h.t hn y, h.bel.setCell (p := ⟨b11, n, none⟩) (by show w.heap.size ≤ b11; omega) _⟩
/-- A new U. -/
theorem PS.newU {w wx wy wz : World} {b10 b11 : Nat} {us ts us' : List Nat} (h : PS w b10 b11 us ts wx) (h1 : w.heap.size < b10) (h2 : b10 < b11) (k : Below wx.heap.size wx wy) (g : wz.heap[b10]? = some (.cells (bA us') 55 (0, 0))) (k2 : Kept (fun k => k = b10) wy wz) : PS w b10 b11 us' ts wz := by
  have l8 := lt_of_block' h.r8
  have l11 := lt_of_block' h.t
  have B := h.bel.trans (k.mono h.bel.size)
  exact ⟨k2.heap ((k.block _ l8).trans h.r8) (by omega), g, k2.heap ((k.block _ l11).trans h.t) (by omega), B.trans (k2.below B.size (fun i hi e => by omega))⟩
theorem idx_text {w : World} {b i : Nat} (hi : i ≤ 1000) (h : w.heap[b]? = some (.cells #[.int .u8 ((i : Int) / 16777216), .int .u8 ((i : Int) / 65536), .int .u8 ((i : Int) / 256), .int .u8 ((i : Int) % 256)] 5 (0, 0))) : TextAt w (some ⟨b, 0, none⟩) (be4 i) := by
  have e0 : (i : Int) / 16777216 = ((i / 16777216 % 256 : Nat) : Int) := by omega
  have e1 : (i : Int) / 65536 = ((i / 65536 % 256 : Nat) : Int) := by omega
  have e2 : (i : Int) / 256 = ((i / 256 % 256 : Nat) : Int) := by omega
  have e3 : (i : Int) % 256 = ((i % 256 : Nat) : Int) := by omega
  rw [e0, e1, e2, e3] at h
  refine .inr ⟨b, 0, rfl, lt_of_block h, fun j hj => ?_⟩
  rw [Nat.zero_add, cells_of h]
  match j, hj with
  | 0, _ => rfl
  | 1, _ => rfl
  | 2, _ => rfl
  | 3, _ => rfl

set_option maxHeartbeats 4000000 in
theorem part_c (bi bo : Nat) (key salt : List Nat) (sa : Option Addr) (sc i r : Nat) (w : World) (hk : By key) (ri : w.heap[bi]? = some (.cells (kA (kX key 54)) 83 (0, 0))) (ro : w.heap[bo]? = some (.cells (kA (kX key 92)) 83 (0, 0)))
    (hs : By salt) (hst : TextAt w sa salt) (hsn : sa = none → salt.length = 0 ∧ sc = 0) (hsl : salt.length ≤ 140737488351232) (hi : i ≤ 1000) (hr : r ≤ 5000) :
    Calls Tryd.prog 50 #[.func (.func 56) #[] #[.pointer (some ⟨bi, 0, none⟩), .pointer (some ⟨bo, 0, none⟩)], .slice sa salt.length sc, .int .i64 (i : Int), .int .i64 ((r : Int) + 1)] w fun e w' => e = .returned (.agg (bA (tK key salt i r))) ∧ Below w.heap.size w w' := by
  have hz : ∀ w, (zeroValue 55).run Tryd.prog w = .ok (.agg (oA st0 0)) w := (zero20 _).1
  have lbi := lt_of_block' ri
  have lbo := lt_of_block' ro
  have RI := hide ri
  have RO := hide ro
  have HK := hide hk
  have HSB := hide hs
  have HST := hide hst
  have HSN := hide hsn
  have H20 := fun s => hide (info20 (oB s) 20)
  have HCL := fun W (a : Option Addr) (c : Nat) (ys : List Nat) (k : Below w.heap.size w W) (hy : By ys) (hb : TextAt W a ys) (hcap : ys.length ≤ c) (hcm : c ≤ 9223372036854775807) (hyl : ys.length ≤ 999999999999000) => hide (bound_c hk (bi := bi) (bo := bo) a c ys W ((k.block _ lbi).trans ri) ((k.block _ lbo).trans ro) hy hb hcap hcm hyl)
  obtain ⟨N, hN⟩ : ∃ N, N = salt.length := ⟨_, rfl⟩
  have HN := hide hN
  rw [← hN] at hsl HSN ⊢
  clear hk ri ro hs hst hsn hN
  go_enter Tryd.func50, Tryd.ntmps50
  go_upto_region 2 with fail
  have R8 := hide (heap_new1 w (.cells (oA st0 0) 55) (.cells #[.int .u8 ((i : Int) / 16777216), .int .u8 ((i : Int) / 65536), .int .u8 ((i : Int) / 256), .int .u8 ((i : Int) % 256)] 5))
  have X1 := hide (idx_text hi (heap_new2 w (.cells (oA st0 0) 55) (.cells #[.int .u8 ((i : Int) / 16777216), .int .u8 ((i : Int) / 65536), .int .u8 ((i : Int) / 256), .int .u8 ((i : Int) % 256)] 5)))
  have B0 := hide (((Below.refl _ w).alloc (Nat.le_refl _) (.cells (oA st0 0) 55)).alloc (by simp) (.cells #[.int .u8 ((i : Int) / 16777216), .int .u8 ((i : Int) / 65536), .int .u8 ((i : Int) / 256), .int .u8 ((i : Int) % 256)] 5) : Below w.heap.size w _)
  have hb1 : w.heap.size + 1 < ((w.alloc (.cells (oA st0 0) 55)).alloc (.cells #[.int .u8 ((i : Int) / 16777216), .int .u8 ((i : Int) / 65536), .int .u8 ((i : Int) / 256), .int .u8 ((i : Int) % 256)] 5)).heap.size := by simp
  generalize (w.alloc (.cells (oA st0 0) 55)).alloc (.cells #[.int .u8 ((i : Int) / 16777216), .int .u8 ((i : Int) / 65536), .int .u8 ((i : Int) / 256), .int .u8 ((i : Int) % 256)] 5) = w0 at R8 X1 B0 hb1 ⊢
  obtain ⟨b9, hb9⟩ : ∃ b9, b9 = w.heap.size + 1 := ⟨_, rfl⟩
  rw [← hb9] at X1 hb1 ⊢
  clear hb9
  have l8 := lt_of_block' R8.out
  have BA := hide ((Below.refl _ w0).alloc (Nat.le_refl _) (.cells #[.slice sa N sc, .slice (some ⟨b9, 0, none⟩) 4 4] 22) : Below w0.heap.size w0 _)
  obtain ⟨Y, hY⟩ : ∃ Y, Y = salt ++ be4 i := ⟨_, rfl⟩
  obtain ⟨L, hL⟩ : ∃ L, L = Y.length := ⟨_, rfl⟩
  have HYB : Hid (By Y) := by rw [hY]; exact HSB.out.append (be4_by i)
  have hL2 : L ≤ 140737488351236 := by
    have : L = N + 4 := by rw [hL, hY, List.length_append, HN.out]; rfl
    omega
  have HL := hide hL
  have HU0 := hide (show uK key salt i 0 = hmac key Y by rw [hY]; rfl)
  have HCC := hide (show Calls Tryd.prog 25 #[.slice (some ⟨w0.heap.size, 0, none⟩) 2 2] (w0.alloc (.cells #[.slice sa N sc, .slice (some ⟨b9, 0, none⟩) 4 4] 22)) (fun e w' => ∃ a9 c9, e = .returned (.slice a9 L c9) ∧ TextAt w' a9 Y ∧ L ≤ c9 ∧ c9 ≤ 9223372036854775807 ∧ Below w0.heap.size w0 w') from
    (concat_c w0.heap.size sa (some ⟨b9, 0, none⟩) sc 4 salt (be4 i) _ (by rw [← HN.out]; exact heap_new _ _) ((HST.out.below B0.out).below BA.out) (X1.out.below BA.out) (by rw [← HN.out]; exact HSN.out) (fun e => by cases e) (by rw [← HN.out]; show N + 4 ≤ _; omega)).mono fun e w' ⟨v9, he, o1, k1⟩ => by
      obtain ⟨a9, c9, rfl, hc9, hm9, hn9⟩ := o1.form
      rw [← hY] at o1 he hc9
      rw [← hL] at he hc9
      exact ⟨a9, c9, he, o1.text, hc9, by unfold maxLen at hm9; omega, BA.out.trans (k1.mono BA.out.size)⟩)
  clear hY hL
  go_upto_region 4 with (first
    | (go_at_call 25; refine HCC.out.mono ?_; rintro e w1 ⟨a9, c9, rfl, t1, hc9, hm9, k1⟩; have B1 := hide (B0.out.trans (k1.mono B0.out.size)); have Q8 := hide ((k1.block _ l8).trans R8.out); have HC1 := hide (HCL w1 a9 c9 Y B1.out HYB.out t1 (by rw [← HL.out]; exact hc9) hm9 (by rw [← HL.out]; omega)).out; rw [← HL.out] at HC1; clear k1 t1 hc9 hm9)
    | (go_at_call 56; refine HC1.out.mono ?_; rintro e w2 ⟨rfl, k2⟩; have B2 := hide (B1.out.trans (k2.mono B1.out.size)); have P8 := hide ((k2.block _ (lt_of_block' Q8.out)).trans Q8.out); clear k2)
    | (refine wpList_store_row rfl 55 (.tmp 10) (.tmp 30) rfl w2.heap.size (oA (hmac key Y) 20) (by rfl) (by rfl) (oA st0 0) 55 (heap_new _ _) (H20 _).out (by rw [oA, oA, fA_size, fA_size]) (fA_one _ _ _ _) ?_; intro w3 G3 K3)
    | (refine wpList_load_row rfl 55 (.tmp 10) rfl w2.heap.size (by rfl) (oA (hmac key Y) 20) 55 (0, 0) G3.out _ Tryd.underlying55 rfl (H20 _).out ?_)
    | (refine wpList_store_row rfl 55 (.tmp 11) (.tmp 31) rfl w3.heap.size (oA (hmac key Y) 20) (by rfl) (by rfl) (oA st0 0) 55 (heap_new _ _) (H20 _).out (by rw [oA, oA, fA_size, fA_size]) (fA_one _ _ _ _) ?_; intro w4 G4 K4))
  have hs2 := B2.out.size
  have l82 := lt_of_block' P8.out
  have l23 := lt_of_block' G3.out
  have P83 := K3.out.heap (heap_old (o := .cells (oA st0 0) 55) P8.out) (by omega)
  have B3 := (B2.out.alloc hs2 (.cells (oA st0 0) 55)).trans (K3.out.below (by simp; omega) (fun i hi e => by omega))
  have B4 := (B3.alloc B3.size (.cells (oA st0 0) 55)).trans (K4.out.below (by have := B3.size; simp; omega) (fun i hi e => by omega))
  have PS0 : Hid (PS w w2.heap.size w3.heap.size (outL (uK key salt i 0)) (tK key salt i 0) w4) :=
    ⟨K4.out.heap (heap_old P83) (by omega), by rw [HU0.out, ← oA_bA]; exact K4.out.heap (heap_old G3.out) (by omega), by rw [tK, HU0.out, ← oA_bA]; exact G4.out, B4⟩
  obtain ⟨b10, hb10⟩ : ∃ b10, b10 = w2.heap.size := ⟨_, rfl⟩
  obtain ⟨b11, hb11⟩ : ∃ b11, b11 = w3.heap.size := ⟨_, rfl⟩
  rw [← hb10] at l82
  rw [← hb10, ← hb11] at l23 PS0 ⊢
  have hsl10 := fun W => slice20 W b10
  clear hb10 hb11 P83 B3 B4 K4 G4 K3 G3 P8 B2 HC1 Q8 B1 HCC hs2 BA l8 X1 R8 B0 hb1 HST HSN HU0 HYB HL
  go_wp2_with fail
  go_loopg [34] r (fun gk u34 wx => ∃ k : Nat, k + gk = r ∧ u34 = .int .i64 k ∧ Hid (PS w b10 b11 (outL (uK key salt i k)) (tK key salt i k) wx))
  case atStart => exact ⟨0, by omega, rfl, PS0⟩
  case round =>
    obtain ⟨k, hkg, rfl, HX⟩ := hrel
    clear PS0
    cases gk with
    | zero =>
      obtain rfl : k = r := by omega
      have hge : ¬ (k : Int) < (k : Int) := by omega
      have HT := hide (infoA (tK key salt i k))
      have HTO := hide (bA_one (tK key salt i k))
      have HTS := hide (show (oA st0 0).size = (bA (tK key salt i k)).size by rw [oA, fA_size, bA_size])
      have X8 := hide HX.out.r8
      have XT := hide HX.out.t
      have XB := hide HX.out.bel
      clear HX
      obtain ⟨tc, htc⟩ : ∃ tc, tc = bA (tK key salt i k) := ⟨_, rfl⟩
      have HTC := hide htc
      rw [← htc] at HT HTO HTS XT
      clear htc
      go_wp2_with (first
        | (refine wpList_load_row rfl 55 (.tmp 11) rfl b11 (by rfl) tc 55 (0, 0) XT.out _ Tryd.underlying55 rfl HT.out ?_)
        | (refine wpList_store_row rfl 55 (.tmp 8) (.tmp 52) rfl w.heap.size tc (by rfl) (by rfl) (oA st0 0) 55 X8.out HT.out HTS.out HTO.out ?_; intro w6 G6 K6))
      have hld : (loadVar 55 ⟨w.heap.size, 0, none⟩).run Tryd.prog w6 = .ok (.agg tc) w6 :=
        run_loadVar_row _ _ 55 55 tc (0, 0) _ G6.out Tryd.underlying55 rfl HT.out
      refine bodyPost_ret (v := .agg tc) ?_ rfl ⟨by rw [HTC.out], XB.out.trans (K6.out.below XB.out.size (fun i hi e => by omega))⟩
      simp [results, asAddr, hld]
    | succ g1 =>
      have hlt : (k : Int) < (r : Int) := by omega
      obtain ⟨S1, hS1⟩ : ∃ S1, S1 = uK key salt i (k + 1) := ⟨_, rfl⟩
      have HS1 := hide hS1
      have HC := hide (HCL wr (some ⟨b10, 0, none⟩) 20 (outL (uK key salt i k)) HX.out.bel (outL_by _) (textA (outL_length _) HX.out.u) (by rw [outL_length]; omega) (by omega) (by rw [outL_length]; omega)).out
      rw [outL_length, show hmac key (outL (uK key salt i k)) = S1 from hS1.symm] at HC
      have XU := hide HX.out.u
      have HUS := hide (show (bA (outL (uK key salt i k))).size = (oA S1 20).size by rw [oA, fA_size, bA_size])
      clear hS1
      generalize bA (outL (uK key salt i k)) = uc at XU HUS ⊢
      go_upto_region 7 with (first
        | (go_at_call 56; refine HC.out.mono ?_; rintro e w5 ⟨rfl, k5⟩; have K5 := hide k5; have YU := hide ((k5.block _ (lt_of_block' XU.out)).trans XU.out); clear k5)
        | (refine wpList_store_row rfl 55 (.tmp 10) (.tmp 38) rfl b10 (oA S1 20) (by rfl) (by rfl) uc 55 YU.out (H20 _).out HUS.out (fA_one _ _ _ _) ?_; intro w6 G6 K6))
      have HP := hide (HX.out.newU l82 l23 K5.out (us' := outL S1) (by rw [← oA_bA]; exact G6.out) K6.out)
      have HP0 : Hid (PS w b10 b11 (outL S1) (mixL (tK key salt i k) (outL S1) 0) w6) := by rw [mixL_zero]; exact HP
      have HNX := hide (show mixL (tK key salt i k) (outL S1) 20 = tK key salt i (k + 1) by
        rw [mixL_end (by rw [tK_length, outL_length]) (tK_length _ _ _ _).symm, HS1.out]; rfl)
      have HUX := hide (show outL S1 = outL (uK key salt i (k + 1)) by rw [HS1.out])
      have HTB := hide (tK_by key salt i k)
      have HTL := hide (tK_length key salt i k)
      clear HP HX K5 K6 G6 YU XU HC HUS HS1
      generalize tK key salt i k = T0 at HP0 HNX HTB HTL
      obtain ⟨V, hV⟩ : ∃ V, V = outL S1 := ⟨_, rfl⟩
      have HVL := hide (show V.length = 20 by rw [hV]; exact outL_length _)
      have HVB := hide (show By V by rw [hV]; exact outL_by _)
      rw [← hV] at HP0 HNX HUX
      clear hV
      obtain ⟨W0, hW0⟩ : ∃ W, W = wr := ⟨wr, rfl⟩
      clear hW0
      go_wp2_with fail
      go_loopg [39] 20 (fun gk u39 wx => ∃ n : Nat, n + gk = 20 ∧ u39 = .int .i64 n ∧ Hid (PS w b10 b11 V (mixL T0 V n) wx))
      case atStart => exact ⟨0, by omega, rfl, HP0⟩
      case round =>
        obtain ⟨n, hng, rfl, HY⟩ := hrel
        clear HP0
        cases gk with
        | zero =>
          obtain rfl : n = 20 := by omega
          have hge : ¬ ((20 : Nat) : Int) < 20 := by omega
          rw [HNX.out, HUX.out] at HY
          clear HNX HUX
          go_wp2_with fail
          go_roundg g1
          case measure => omega
          case rel => exact ⟨k + 1, by omega, by go_num, HY⟩
        | succ g2 =>
          have hlt2 : (n : Int) < 20 := by omega
          have hn : n < 20 := by omega
          have hTV : T0.length = V.length := HTL.out.trans HVL.out.symm
          have hY2 := HY.out.drew
          have cu := (cells_of hY2.u n).trans (bA_at V hn)
          have ct := (cells_of hY2.t n).trans (bA_at _ hn)
          rw [mixL_at hTV (by rw [HTL.out]; exact hn)] at ct
          have ft := free_of hY2.t n
          have hset := hide (hY2.setT (by rw [mixL_length hTV]; exact HTL.out) l82 l23 hn (T0.getD n 0 ^^^ V.getD n 0))
          rw [mixL_set hTV (by rw [HTL.out]; exact hn)] at hset
          have q1 := HTB.out.getD n
          have q2 := HVB.out.getD n
          have hxr := xor8 _ _ q1 q2
          generalize T0.getD n 0 ^^^ V.getD n 0 = Zv at hset hxr
          generalize T0.getD n 0 = Tv at ct q1 hxr
          generalize V.getD n 0 = Uv at cu q2 hxr
          have n0 : (0 : Int) ≤ (n : Int) := by omega
          clear hY2 hTV hn
          go_upto_region 10 with fail
          go_region_with (fail)
          all_goals go_wp2_with fail
          all_goals (go_roundg g2; (case measure => omega); (case rel => exact ⟨n + 1, by omega, by go_num, hset⟩))
end Go.Proofs.YtgamfpgejkhbcaaDoor.S
namespace Go.Proofs.YtgamfpgejkhbcaaDoor.S
set_option maxRecDepth 100000
open Go Go.RowKit

theorem slice_hm_nil (K : IntKind) (W : World) : (Instr.sliceAt 22 (.slice none 0 0) none (some (.int K 0)) (some (.int K 0))).run Tryd.prog W = .ok (.slice none 0 0) W := by
  rw [run_sliceAt_slice _ _ _ _ _ _ (by kernel_rfl), run_slice_hm W 22 none 0 0 (by kernel_rfl) K K 0 0 (by omega) (by omega) (by omega), elemB, size5]
  simp [sliced]
theorem slice_hm (K : IntKind) (W : World) (b o len cap m : Nat) (h : m ≤ cap) : (Instr.sliceAt 22 (.slice (some ⟨b, o, none⟩) len cap) none (some (.int K (m : Int))) (some (.int K (m : Int)))).run Tryd.prog W = .ok (.slice (some ⟨b, o, none⟩) m m) W := by
  rw [run_sliceAt_slice _ _ _ _ _ _ (by kernel_rfl), run_slice_hm W 22 (some ⟨b, o, none⟩) len cap (by kernel_rfl) K K (m : Int) (m : Int) (by omega) (by omega) (by omega), elemB, size5]
  simp [sliced, addr_plain]
theorem tsK_by (pw salt : List Nat) (r n : Nat) : By (tsK pw salt r n) := by
  induction n with
  | zero => exact fun x hx => by simp [tsK] at hx
  | succ n ih => exact ih.append (tK_by _ _ _ _)
theorem keyK_length (pw salt : List Nat) (rounds long : Nat) : (keyK pw salt rounds long).length = long := by
  rw [keyK, List.length_take, tsK_length]; omega
theorem keyK_by (pw salt : List Nat) (rounds long : Nat) : By (keyK pw salt rounds long) := (tsK_by _ _ _ _).take _
/-- A row's beginning. -/
theorem TextAt.take {w : World} {a : Option Addr} {ys : List Nat} (h : TextAt w a ys) (n : Nat) : TextAt w a (ys.take n) := by
  rcases h with h | ⟨b, off, e, hb, hs⟩
  · exact .inl (by rw [List.length_take]; omega)
  · refine .inr ⟨b, off, e, hb, fun i hi => ?_⟩
    have hi2 : i < n ∧ i < ys.length := by rw [List.length_take] at hi; omega
    rw [hs i hi2.2]
    simp [List.getD, hi2.1]
/-- What Key answers where it does not refuse. -/
def KeyOk (pw salt : List Nat) (r L : Nat) (w : World) (e : Ending) (w' : World) : Prop :=
  ∃ a, e = .returned (.tuple #[.slice a L L, .bool true]) ∧ TextAt w' a (keyK pw salt (r + 1) L) ∧ (a = none → L = 0) ∧ Below w.heap.size w w'

set_option maxHeartbeats 4000000 in
theorem key_c (a sa : Option Addr) (ca sc : Nat) (pw salt : List Nat) (r L : Nat) (w : World) (hk : By pw) (hka : TextAt w a pw) (hkc : pw.length ≤ ca) (hkm : ca ≤ 9223372036854775807) (hkl : pw.length ≤ 1000000000000000)
    (hs : By salt) (hst : TextAt w sa salt) (hsn : sa = none → salt.length = 0 ∧ sc = 0) (hsl : salt.length ≤ 140737488351232) (hr : r < 5000) (hL : L ≤ 1000) :
    Calls Tryd.prog 39 #[.slice a pw.length ca, .slice sa salt.length sc, .int .i64 ((r : Int) + 1), .int .i64 (L : Int)] w (KeyOk pw salt r L w) := by
  have hz : ∀ w, (zeroValue 55).run Tryd.prog w = .ok (.agg (oA st0 0)) w := (zero20 _).1
  have HBI := hide (bind_c a ca pw w hk hka hkc hkm hkl)
  have HPA := fun (w1 W : World) bi bo (ri : w1.heap[bi]? = some (.cells (kA (kX pw 54)) 83 (0, 0))) (ro : w1.heap[bo]? = some (.cells (kA (kX pw 92)) 83 (0, 0))) (k1 : Below w.heap.size w w1) (k : Below w1.heap.size w1 W) (j : Nat) (hj : j + 1 ≤ 1000) =>
    hide (show Calls Tryd.prog 50 #[.func (.func 56) #[] #[.pointer (some ⟨bi, 0, none⟩), .pointer (some ⟨bo, 0, none⟩)], .slice sa salt.length sc, .int .i64 ((j : Int) + 1), .int .i64 ((r : Int) + 1)] W fun e w' => e = .returned (.agg (bA (tK pw salt (j + 1) r))) ∧ Below W.heap.size W w' from by
      have := part_c bi bo pw salt sa sc (j + 1) r W hk ((k.block _ (lt_of_block' ri)).trans ri) ((k.block _ (lt_of_block' ro)).trans ro) hs ((hst.below k1).below k) hsn hsl hj (by omega)
      push_cast at this
      exact this)
  obtain ⟨N, hN⟩ : ∃ N, N = pw.length := ⟨_, rfl⟩
  obtain ⟨M, hM⟩ : ∃ M, M = salt.length := ⟨_, rfl⟩
  rw [← hN] at HBI ⊢
  rw [← hM] at HPA ⊢
  clear hk hka hkc hkm hkl hs hst hsn hsl hN hM
  have r1 : ¬ (r : Int) + 1 < 1 := by omega
  have r2 : ¬ (5000 : Int) < (r : Int) + 1 := by omega
  have r3 : ¬ (L : Int) < 0 := by omega
  have r4 : ¬ (1000 : Int) < (L : Int) := by omega
  go_enter Tryd.func39, Tryd.ntmps39
  go_wp2_with (go_at_call 49; refine HBI.out.mono ?_; rintro e w1 ⟨v, rfl, ⟨bi, bo, rfl, _, _, hbi, hbo⟩, b1⟩; have RI := hide hbi; have RO := hide hbo; have B1 := hide b1; clear b1 hbi hbo)
  obtain ⟨n, hn⟩ : ∃ n, n = (L + 19) / 20 := ⟨_, rfl⟩
  have hq : ((L : Int) + 20 - 1) / 20 = (n : Int) := by omega
  rw [hq]
  have hn2 : n ≤ 50 ∧ L ≤ 20 * n := by omega
  have HKK := hide (show (tsK pw salt r n).take L = keyK pw salt (r + 1) L by rw [hn]; rfl)
  have HLN := hide (show n = 0 → L = 0 by omega)
  have HNL := hide (show L = 0 → n = 0 by omega)
  clear hq hn HBI
  have HPB := fun W (k : Below w1.heap.size w1 W) j hj => hide (HPA w1 W bi bo RI.out RO.out B1.out k j hj).out
  clear HPA
  have HTI := fun j => hide (infoA (tK pw salt (j + 1) r))
  have HTO := fun j => hide (bA_one (tK pw salt (j + 1) r))
  have HTS := fun j => hide (show (oA st0 0).size = (bA (tK pw salt (j + 1) r)).size by rw [oA, fA_size, bA_size])
  go_loopg [11, 34] n (fun gk u11 u34 wx => ∃ j : Nat, j + gk = n ∧ u34 = .int .i64 j ∧ Hid (OwnsB wx w1.heap.size u11 (tsK pw salt r j)) ∧ Hid (Below w1.heap.size w1 wx))
  case atStart => exact ⟨0, by omega, rfl, OwnsB.nil _ _, Below.refl _ _⟩
  case round =>
    obtain ⟨j, hjg, rfl, OX, BX⟩ := hrel
    cases gk with
    | zero =>
      obtain rfl : j = n := by omega
      have hge : ¬ (j : Int) < (j : Int) := by omega
      obtain ⟨a4, c4, rfl, hc4, hm4, hn4⟩ := OX.out.form
      have HT := hide OX.out.text
      have BW := hide (B1.out.trans (BX.out.mono B1.out.size))
      have hs4 : ∃ a5, (∀ W, (Instr.sliceAt 22 (.slice a4 (tsK pw salt r j).length c4) none (some (.int .i64 (L : Int))) (some (.int .i64 (L : Int)))).run Tryd.prog W = .ok (.slice a5 L L) W) ∧ a5 = a4 ∧ (a5 = none → L = 0) := by
        rcases OX.out.bs with h0 | ⟨g, rfl, _⟩
        · rw [tsK_length] at h0
          have hj0 : j = 0 := by omega
          have hL0 := HLN.out hj0
          subst hj0 hL0
          cases a4 with
          | none =>
            obtain ⟨_, rfl⟩ := hn4 rfl
            exact ⟨none, fun W => slice_hm_nil .i64 W, rfl, fun _ => rfl⟩
          | some ad =>
            have h2 := OX.out.2
            rcases h2 with ⟨e, _⟩ | ⟨g, cap, cur, e, _⟩
            · cases e
            · simp only [Value.slice.injEq, Option.some.injEq] at e
              obtain ⟨rfl, _, _⟩ := e
              exact ⟨_, fun W => slice_hm .i64 W g 0 _ c4 0 (by omega), rfl, fun e => by cases e⟩
        · exact ⟨_, fun W => slice_hm .i64 W g 0 _ c4 L (by rw [tsK_length] at hc4; omega), rfl, fun e => by cases e⟩
      obtain ⟨a5, hsl, rfl, hnil⟩ := hs4
      have HNI := hide hnil
      clear OX hc4 hm4 hn4 hnil
      generalize (tsK pw salt r j).length = tl at hsl ⊢
      go_wp2_with fail
      go_ret2
      exact ⟨a5, rfl, by rw [← HKK.out]; exact HT.out.take L, HNI.out, BW.out⟩
    | succ g1 =>
      have hlt : (j : Int) < (n : Int) := by omega
      have HP := hide (HPB wr BX.out j (by omega)).out
      have hsx := BX.out.size
      go_upto_region 9 with (first
        | (go_at_call 50; refine HP.out.mono ?_; rintro e w5 ⟨rfl, k5⟩; have B5 := hide (BX.out.trans (k5.mono BX.out.size)); have O5 := hide (OX.out.stay k5); clear k5)
        | (refine wpList_store_row rfl 55 (.tmp 13) (.tmp 42) rfl w5.heap.size (bA (tK pw salt (j + 1) r)) (by rfl) (by rfl) (oA st0 0) 55 (heap_new _ _) (HTI j).out (HTS j).out (HTO j).out ?_; intro w6 G6 K6))
      have hs5 := B5.out.size
      have B6 := hide ((B5.out.alloc hs5 (.cells (oA st0 0) 55)).trans (K6.out.below (by simp; omega) (fun i hi e => by omega)))
      have O6 : Hid (OwnsB w6 w1.heap.size u11 (tsK pw salt r j)) := ownsRow_kept (World.ownsRow.alloc O5.out _) K6.out (fun g hg e => by have := (ownsRow_lt O5.out hg).2; omega)
      have T6 := hide (textA (tK_length _ _ _ _) G6.out)
      have hsl := fun W => slice20 W w5.heap.size
      obtain ⟨b5, hb5⟩ : ∃ b5, b5 = w5.heap.size := ⟨_, rfl⟩
      rw [← hb5] at T6 hsl ⊢
      clear hb5 K6 G6 O5 B5 hs5 HP
      have hs6 := B6.out.size
      go_wp2_with (refine wpList_appB _ rfl (.tmp 43) (.tmp 44) rfl w1.heap.size u11 (tsK pw salt r j) (by rfl) O6.out (some ⟨b5, 0, none⟩) 20 20 (by rfl) (tK pw salt (j + 1) r) (tsK pw salt r (j + 1)) rfl (tK_length _ _ _ _) T6.out (fun e => by cases e) (by rw [tsK_length]; omega) hs6 ?_; intro v7 w7 h7 k7; have O7 := hide h7; have B7 := hide (growB O6.out B6.out k7); clear h7 k7)
      go_roundg g1
      case measure => omega
      case rel => exact ⟨j + 1, by omega, by go_num, O7, B7⟩

/-- Key refuses. -/
theorem key_no (v u : Value) (r L : Int) (w : World) (h : r < 1 ∨ 5000 < r ∨ L < 0 ∨ 1000 < L) :
    Calls Tryd.prog 39 #[v, u, .int .i64 r, .int .i64 L] w fun e w' => e = .returned (.tuple #[.slice none 0 0, .bool false]) ∧ w' = w := by
  by_cases h1 : r < 1
  · go_enter Tryd.func39, Tryd.ntmps39
    go_wp2_with fail
    go_ret2
    exact ⟨rfl, rfl⟩
  · by_cases h2 : 5000 < r
    · go_enter Tryd.func39, Tryd.ntmps39
      go_wp2_with fail
      go_ret2
      exact ⟨rfl, rfl⟩
    · by_cases h3 : L < 0
      · go_enter Tryd.func39, Tryd.ntmps39
        go_wp2_with fail
        go_ret2
        exact ⟨rfl, rfl⟩
      · have h4 : 1000 < L := by omega
        go_enter Tryd.func39, Tryd.ntmps39
        go_wp2_with fail
        go_ret2
        exact ⟨rfl, rfl⟩
end Go.Proofs.YtgamfpgejkhbcaaDoor.S
namespace Go.Proofs.YtgamfpgejkhbcaaDoor.S
set_option maxRecDepth 100000
open Go Go.RowKit

theorem or8 (a b : Nat) (ha : a < 256) (hb : b < 256) : bits .or .u8 (a : Int) (b : Int) = ((a ||| b : Nat) : Int) ∧ a ||| b < 256 := by
  have hx : a ||| b < 256 := @Nat.or_lt_two_pow a b 8 (by omega) (by omega)
  refine ⟨?_, hx⟩
  show IntKind.u8.wrap ((BitVec.ofInt 8 (a : Int) ||| BitVec.ofInt 8 (b : Int)).toNat : Int) = _
  rw [BitVec.toNat_or, ofInt8 a ha, ofInt8 b hb, wrap8']
  omega
/-- What unlike bits the first n bytes of two texts have, taken together. -/
def dif (xs ys : List Nat) : Nat → Nat
  | 0 => 0
  | n + 1 => dif xs ys n ||| (xs.getD n 0 ^^^ ys.getD n 0)
theorem dif_lt {xs ys : List Nat} (hx : By xs) (hy : By ys) (n : Nat) : dif xs ys n < 256 := by
  induction n with
  | zero => show 0 < 256; omega
  | succ n ih => exact (or8 _ _ ih (xor8_lt (hx.getD n) (hy.getD n))).2
theorem or_zero {a b : Nat} : a ||| b = 0 ↔ a = 0 ∧ b = 0 := by
  constructor
  · intro h
    have ha : a ≤ a ||| b := Nat.left_le_or
    have hb : b ≤ a ||| b := Nat.right_le_or
    omega
  · rintro ⟨rfl, rfl⟩; rfl
theorem xor_zero {a b : Nat} : a ^^^ b = 0 ↔ a = b := by
  constructor
  · intro h
    have : a ^^^ b ^^^ b = b := by rw [h, Nat.zero_xor]
    rw [Nat.xor_assoc, Nat.xor_self, Nat.xor_zero] at this
    exact this
  · rintro rfl; exact Nat.xor_self a
theorem dif_zero (xs ys : List Nat) (n : Nat) : dif xs ys n = 0 ↔ ∀ i, i < n → xs.getD i 0 = ys.getD i 0 := by
  induction n with
  | zero => simp [dif]
  | succ n ih =>
    rw [dif, or_zero, ih, xor_zero]
    constructor
    · rintro ⟨h1, h2⟩ i hi
      by_cases e : i = n
      · rw [e]; exact h2
      · exact h1 i (by omega)
    · intro h
      exact ⟨fun i hi => h i (by omega), h n (by omega)⟩
theorem dif_same {xs ys : List Nat} (hl : xs.length = ys.length) : dif xs ys xs.length = 0 ↔ xs = ys := by
  rw [dif_zero]
  constructor
  · intro h
    apply List.ext_getElem? 
    intro i
    by_cases hi : i < xs.length
    · have := h i hi
      rw [List.getElem?_eq_getElem hi, List.getElem?_eq_getElem (by omega)]
      simpa [List.getD, hi, show i < ys.length by omega] using this
    · rw [List.getElem?_eq_none (by omega), List.getElem?_eq_none (by omega)]
  · rintro rfl i _; rfl

set_option maxHeartbeats 4000000 in
theorem same_c (a b : Option Addr) (ca cb : Nat) (xs ys : List Nat) (w : World) (hx : By xs) (hy : By ys) (ha : TextAt w a xs) (hb : TextAt w b ys) (hxl : xs.length ≤ 140737488355328) :
    Calls Tryd.prog 31 #[.slice a xs.length ca, .slice b ys.length cb] w fun e w' => e = .returned (.bool (decide (xs = ys))) ∧ ∃ q, w' = w.drewN q := by
  obtain ⟨N, hN⟩ : ∃ N, N = xs.length := ⟨_, rfl⟩
  obtain ⟨M, hM⟩ : ∃ M, M = ys.length := ⟨_, rfl⟩
  have HN := hide hN
  have HM := hide hM
  have HA := hide ha
  have HB := hide hb
  have HX := hide hx
  have HY := hide hy
  rw [← hN, ← hM]
  rw [← hN] at hxl
  obtain ⟨R, hR⟩ : ∃ R, R = decide (xs = ys) := ⟨_, rfl⟩
  have HR := hide hR
  rw [← hR]
  clear ha hb hx hy hN hM hR
  go_enter Tryd.func31, Tryd.ntmps31
  by_cases hnm : N = M
  · subst hnm
    have HS := hide (dif_same (HN.out.symm.trans HM.out))
    rw [← HN.out] at HS
    go_wp2_with fail
    go_loopg [5, 14] N (fun gk u5 u14 wx => ∃ i : Nat, i + gk = N ∧ u5 = .int .u8 (dif xs ys i : Nat) ∧ u14 = .int .i64 i ∧ Hid (∃ q, wx = w.drewN q))
    case atStart => exact ⟨0, by omega, rfl, rfl, ⟨0, rfl⟩⟩
    case round =>
      obtain ⟨i, hig, rfl, rfl, HW⟩ := hrel
      cases gk with
      | zero =>
        obtain rfl : i = N := by omega
        have hge : ¬ (i : Int) < (i : Int) := by omega
        have hd : decide (xs = ys) = decide (((dif xs ys i : Nat) : Int) = 0) := by
          rw [decide_eq_decide, ← HS.out]; omega
        have HD := hide (HR.out.trans hd)
        clear hd HS HR
        generalize dif xs ys i = D at HD ⊢
        go_wp2_with fail
        go_ret
        refine ⟨?_, HW.out⟩
        rw [HD.out]
        simp
        rw [Bool.eq_iff_iff, beq_iff_eq, decide_eq_true_iff]
        omega
      | succ g1 =>
        have hlt : (i : Int) < (N : Int) := by omega
        obtain ⟨qw, hqw⟩ := HW.out
        have HQ := hide hqw
        obtain ⟨b1, o1, rfl, c1⟩ : ∃ b1 o1, a = some ⟨b1, o1, none⟩ ∧ wr.cell? ⟨b1, o1 + i, none⟩ = some (.int .u8 (xs.getD i 0 : Nat)) := by
          rcases HA.out with h0 | ⟨b1, o1, e, _, h⟩
          · rw [← HN.out] at h0; omega
          · exact ⟨b1, o1, e, by rw [hqw]; exact h i (by rw [← HN.out]; omega)⟩
        obtain ⟨b2, o2, rfl, c2⟩ : ∃ b2 o2, b = some ⟨b2, o2, none⟩ ∧ wr.cell? ⟨b2, o2 + i, none⟩ = some (.int .u8 (ys.getD i 0 : Nat)) := by
          rcases HB.out with h0 | ⟨b2, o2, e, _, h⟩
          · rw [← HM.out] at h0; omega
          · exact ⟨b2, o2, e, by rw [hqw]; exact h i (by rw [← HM.out]; omega)⟩
        have x1 := HX.out.getD i
        have x2 := HY.out.getD i
        have hxr := xor8 _ _ x1 x2
        have x3 := xor8_lt x1 x2
        have x4 := dif_lt HX.out HY.out i
        have hor := (or8 _ _ x4 x3).1
        have hnx : Hid (dif xs ys (i + 1) = dif xs ys i ||| (xs.getD i 0 ^^^ ys.getD i 0)) := rfl
        have i0 : (0 : Int) ≤ (i : Int) := by omega
        generalize dif xs ys i ||| (xs.getD i 0 ^^^ ys.getD i 0) = V at hnx hor
        generalize xs.getD i 0 ^^^ ys.getD i 0 = Z at hxr x3 hor
        generalize dif xs ys i = D at x4 hor ⊢
        generalize xs.getD i 0 = X at c1 x1 hxr
        generalize ys.getD i 0 = Y at c2 x2 hxr
        clear hqw HS
        go_upto_region 7 with fail
        go_quiet (fail)
        go_wp2_with fail
        go_roundg g1
        case measure => omega
        case rel => exact ⟨i + 1, by omega, by rw [hnx.out], by go_num, ⟨qw + nq, by rw [HQ.out]; simp [World.drewN, Nat.add_assoc]⟩⟩
  · have hne : ¬ (N : Int) = (M : Int) := by omega
    have hd : decide (xs = ys) = false := by
      rw [decide_eq_false_iff_not]; intro e; exact hnm (by rw [HN.out, HM.out, e])
    have HD := hide (HR.out.trans hd)
    clear hd
    go_wp2_with fail
    go_ret
    exact ⟨by rw [HD.out]; rfl, 0, rfl⟩
end Go.Proofs.YtgamfpgejkhbcaaDoor.S
