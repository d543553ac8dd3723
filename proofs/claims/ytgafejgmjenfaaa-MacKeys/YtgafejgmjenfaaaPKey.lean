/- The reference's Key: contract. -/
import Derived.Test.YtgafejgmjenfaaaPSum
import Derived.Test.YtgafejgmjenfaaaHByt
import Derived.Test.YtgafejgmjenfaaaMGrow
import Derived.Test.YtgafejgmjenfaaaMKey
namespace Go.Proofs.Ytgafejgmjenfaaa.S
set_option maxRecDepth 100000
open Go Go.RowKit

/-- What stands in memory while T is made: U and T. -/
structure PR (w : World) (b10 b11 : Nat) (us ts : List Nat) (wx : World) : Prop where
  u : wx.heap[b10]? = some (.cells (bA us) 24 (0, 0))
  t : wx.heap[b11]? = some (.cells (bA ts) 24 (0, 0))
  bel : Below w.heap.size w wx
theorem PR.drew {w wx : World} {b10 b11 : Nat} {us ts : List Nat} (h : PR w b10 b11 us ts wx) : PR w b10 b11 us ts wx.drew :=
  ⟨h.u, h.t, ⟨h.bel.os, h.bel.tape, h.bel.output, h.bel.size, h.bel.block⟩⟩
theorem PR.setT {w wx : World} {b10 b11 : Nat} {us ts : List Nat} (h : PR w b10 b11 us ts wx) (hl : ts.length = 20) (h1 : w.heap.size ≤ b10) (h2 : b10 < b11) {n : Nat} (hn : n < 20) (y : Nat) : PR w b10 b11 us (ts.set n y) (wx.setCell ⟨b11, n, none⟩ (.int .u8 (y : Int))) :=
  ⟨(set_other (by omega)).trans h.u, set_bA hl h.t hn y, h.bel.setCell (p := ⟨b11, n, none⟩) (by show w.heap.size ≤ b11; omega) _⟩
theorem PR.newU {w wx wy wz : World} {b10 b11 : Nat} {us ts us' : List Nat} (h : PR w b10 b11 us ts wx) (h1 : w.heap.size ≤ b10) (h2 : b10 < b11) (k : Below wx.heap.size wx wy) (g : wz.heap[b10]? = some (.cells (bA us') 24 (0, 0))) (k2 : Kept (fun k => k = b10) wy wz) : PR w b10 b11 us' ts wz := by
  have l11 := lt_of_block' h.t
  have B := h.bel.trans (k.mono h.bel.size)
  exact ⟨g, k2.heap ((k.block _ l11).trans h.t) (by omega), B.trans (k2.below B.size (fun i hi e => by omega))⟩
theorem idx2_text {w : World} {b i : Nat} (hi : i ≤ 1000) (h : w.heap[b]? = some (.cells #[.int .u8 0, .int .u8 0, .int .u8 ((i : Int) / 256), .int .u8 ((i : Int) % 256)] 5 (0, 0))) : TextAt w (some ⟨b, 0, none⟩) (be4 i) := by
  have e2 : (i : Int) / 256 = ((i / 256 % 256 : Nat) : Int) := by omega
  have e3 : (i : Int) % 256 = ((i % 256 : Nat) : Int) := by omega
  have e0 : i / 16777216 % 256 = 0 := by omega
  have e1 : i / 65536 % 256 = 0 := by omega
  rw [e2, e3] at h
  refine .inr ⟨b, 0, rfl, lt_of_block h, fun j hj => ?_⟩
  rw [Nat.zero_add, cells_of h]
  unfold be4
  rw [e0, e1]
  match j, hj with
  | 0, _ => rfl
  | 1, _ => rfl
  | 2, _ => rfl
  | 3, _ => rfl
/-- What the reference's Key answers where it does not refuse. -/
def RKeyOk (pw salt : List Nat) (r L : Nat) (w : World) (e : Ending) (w' : World) : Prop :=
  ∃ a c, e = .returned (.tuple #[.slice a L c, .bool true]) ∧ TextAt w' a (keyK pw salt (r + 1) L) ∧ (a = none → L = 0 ∧ c = 0) ∧ L ≤ c ∧ c ≤ 9223372036854775807 ∧ Below w.heap.size w w'

set_option maxHeartbeats 4000000 in
theorem rkey_c (a sa : Option Addr) (ca sc : Nat) (pw salt : List Nat) (r L : Nat) (w : World) (hk : By pw) (hka : TextAt w a pw) (hkn : a = none → pw.length = 0 ∧ ca = 0) (hkl : pw.length ≤ 3000)
    (hs : By salt) (hst : TextAt w sa salt) (hsn : sa = none → salt.length = 0 ∧ sc = 0) (hsl : salt.length ≤ 3000) (hr : r < 5000) (hL : L ≤ 1000) :
    Calls Try.prog 14 #[.slice a pw.length ca, .slice sa salt.length sc, .int .i64 ((r : Int) + 1), .int .i64 (L : Int)] w (RKeyOk pw salt r L w) := by
  have hz : ∀ w, (zeroValue 24).run Try.prog w = .ok (.agg (oA st0 0)) w := (zero20 _).1
  have HSU := fun (W : World) (b : Option Addr) (c : Nat) (ys : List Nat) (k : Below w.heap.size w W) (hy : By ys) (hb : TextAt W b ys) (hn : b = none → ys.length = 0 ∧ c = 0) (hyl : ys.length ≤ 140737488351232) => hide (hsumr_c a b ca c pw ys W hk (hka.below k) hkn (by omega) hy hb hn hyl)
  have H20 := fun s => hide (info20 (oB s) 20)
  have HSB := hide hs
  have HST := hide hst
  have HSN := hide hsn
  obtain ⟨N, hN⟩ : ∃ N, N = pw.length := ⟨_, rfl⟩
  obtain ⟨M, hM⟩ : ∃ M, M = salt.length := ⟨_, rfl⟩
  have HM := hide hM
  rw [← hN] at HSU ⊢
  rw [← hM] at HSN hsl ⊢
  clear hk hka hkn hkl hs hst hsn hN hM
  have r1 : ¬ (r : Int) + 1 < 1 := by omega
  have r2 : ¬ (5000 : Int) < (r : Int) + 1 := by omega
  have r3 : ¬ (L : Int) < 0 := by omega
  have r4 : ¬ (1000 : Int) < (L : Int) := by omega
  obtain ⟨n, hn⟩ : ∃ n, n = (L + 19) / 20 := ⟨_, rfl⟩
  have hn2 : n ≤ 50 ∧ L ≤ 20 * n ∧ 20 * n < L + 20 := by omega
  have HKK := hide (show (tsK pw salt r n).take L = keyK pw salt (r + 1) L by rw [hn]; rfl)
  have HLN := hide (show n = 0 → L = 0 by omega)
  clear hn
  go_enter Try.func14, Try.ntmps14
  go_wp2_with fail
  go_loopg [10, 11] n (fun gk u10 u11 wx => ∃ i : Nat, i + gk = n + 1 ∧ 1 ≤ i ∧ u11 = .int .i64 i ∧ Hid (OwnsB wx w.heap.size u10 (tsK pw salt r (i - 1))) ∧ Hid (Below w.heap.size w wx))
  case atStart => exact ⟨1, by omega, by omega, rfl, OwnsB.nil _ _, Below.refl _ _⟩
  case round =>
    obtain ⟨i, hig, hi1, rfl, OX, BX⟩ := hrel
    obtain ⟨a4, c4, rfl, hc4, hm4, hn4⟩ := OX.out.form
    cases gk with
    | zero =>
      obtain rfl : i = n + 1 := by omega
      rw [Nat.add_sub_cancel] at OX hc4 hn4 ⊢
      have hge : ¬ (((tsK pw salt r n).length : Nat) : Int) < (L : Int) := by rw [tsK_length]; omega
      have HT := hide OX.out.text
      have hs4 : ∃ a5, (∀ W, (Instr.sliceAt 22 (.slice a4 (tsK pw salt r n).length c4) none (some (.int .i64 (L : Int))) none).run Try.prog W = .ok (.slice a5 L c4) W) ∧ a5 = a4 ∧ (a5 = none → L = 0 ∧ c4 = 0) := by
        rcases OX.out.bs with h0 | ⟨g, rfl, _⟩
        · rw [tsK_length] at h0
          have hj0 : n = 0 := by omega
          have hL0 := HLN.out hj0
          subst hj0 hL0
          cases a4 with
          | none =>
            obtain ⟨_, rfl⟩ := hn4 rfl
            exact ⟨none, fun W => slice_h_nil .i64 W, rfl, fun _ => ⟨rfl, rfl⟩⟩
          | some ad =>
            have h2 := OX.out.2
            rcases h2 with ⟨e, _⟩ | ⟨g, cap, cur, e, _⟩
            · cases e
            · simp only [Value.slice.injEq, Option.some.injEq] at e
              obtain ⟨rfl, _, _⟩ := e
              exact ⟨_, fun W => slice_h .i64 W g 0 _ c4 0 (by omega), rfl, fun e => by cases e⟩
        · exact ⟨_, fun W => slice_h .i64 W g 0 _ c4 L (by rw [tsK_length] at hc4; omega), rfl, fun e => by cases e⟩
      obtain ⟨a5, hsl5, rfl, hnil⟩ := hs4
      have HNI := hide hnil
      have hLc : L ≤ c4 := by rw [tsK_length] at hc4; omega
      have hm5 : c4 ≤ 9223372036854775807 := by unfold maxLen at hm4; omega
      clear OX hc4 hm4 hn4 hnil
      generalize (tsK pw salt r n).length = tl at hsl5 hge ⊢
      go_wp2_with fail
      go_ret2
      exact ⟨a5, c4, rfl, by rw [← HKK.out]; exact HT.out.take L, HNI.out, hLc, hm5, BX.out⟩
    | succ g1 =>
      have hlt : (((tsK pw salt r (i - 1)).length : Nat) : Int) < (L : Int) := by rw [tsK_length]; omega
      have hi2 : i ≤ 50 := by omega
      obtain ⟨W0, hW0⟩ : ∃ W0, W0 = wr := ⟨_, rfl⟩
      rw [← hW0] at OX BX ⊢
      clear hW0
      have hsx := BX.out.size
      obtain ⟨T, hT⟩ : ∃ T, T = (tsK pw salt r (i - 1)).length := ⟨_, rfl⟩
      have hTl : T ≤ 1000 := by rw [hT, tsK_length]; omega
      rw [← hT] at hlt OX ⊢
      clear hT hc4 hm4 hn4
      have HTT := hide (show tsK pw salt r (i - 1) ++ tK pw salt i r = tsK pw salt r (i + 1 - 1) by
        obtain ⟨j, rfl⟩ : ∃ j, i = j + 1 := ⟨i - 1, by omega⟩
        rw [Nat.add_sub_cancel, Nat.add_sub_cancel]; rfl)
      obtain ⟨Y, hY⟩ : ∃ Y, Y = salt ++ be4 i := ⟨_, rfl⟩
      have HYE := hide hY.symm
      have HYB : Hid (By Y) := by rw [hY]; exact HSB.out.append (be4_by i)
      have hYl : Y.length ≤ 3004 := by
        have : Y.length = M + 4 := by rw [hY, List.length_append, HM.out]; rfl
        omega
      have HU0 := hide (show uK pw salt i 0 = hmac pw Y by rw [hY]; rfl)
      clear hY
      have E0 := hide (OwnsB.empty W0 W0.heap.size (Nat.le_refl _))
      have BE := hide ((Below.refl _ W0).alloc (Nat.le_refl _) (.cells #[] 5) : Below W0.heap.size W0 _)
      have HT0 := hide ((HST.out.below BX.out).below BE.out)
      go_upto_region 8 with (refine wpList_appB _ rfl (.tmp 37) (.tmp 38) rfl W0.heap.size (.slice (some ⟨W0.heap.size, 0, none⟩) 0 0) [] (by rfl) E0.out sa M sc (by rfl) salt salt (by rfl) HM.out.symm HT0.out HSN.out (by simp; omega) (by simp) ?_; intro v12 w1 h1 k1; have O1 := hide h1; have B1 := hide (growB E0.out BE.out k1); clear h1 k1)
      have X1 := hide (idx2_text (by omega) (heap_new w1 (.cells #[.int .u8 0, .int .u8 0, .int .u8 ((i : Int) / 256), .int .u8 ((i : Int) % 256)] 5)))
      have A1 := hide (World.ownsRow.alloc O1.out (.cells #[.int .u8 0, .int .u8 0, .int .u8 ((i : Int) / 256), .int .u8 ((i : Int) % 256)] 5) : OwnsB _ W0.heap.size v12 salt)
      have hs1 := B1.out.size
      have BA1 := hide (B1.out.alloc hs1 (.cells #[.int .u8 0, .int .u8 0, .int .u8 ((i : Int) / 256), .int .u8 ((i : Int) % 256)] 5))
      clear E0 BE HT0 O1
      go_upto_region 10 with (first
        | (refine wpList_appB _ rfl (.tmp 41) (.tmp 48) rfl W0.heap.size v12 salt (by rfl) A1.out (some ⟨w1.heap.size, 0, none⟩) 4 4 (by rfl) (be4 i) Y HYE.out rfl X1.out (fun e => by cases e) (by rw [← HM.out]; omega) (by simp; omega) ?_; intro v9 w2 h2 k2; obtain ⟨a9, c9, rfl, hc9, hm9, hn9⟩ := h2.form; have B2 := hide (growB A1.out BA1.out k2); have HC1 := hide (HSU w2 a9 c9 Y (BX.out.trans (B2.out.mono BX.out.size)) HYB.out h2.text hn9 (by omega)).out; clear h2 k2 hc9 hm9 hn9)
        | (go_at_call 11; refine HC1.out.mono ?_; rintro e w3 ⟨rfl, k3⟩; have B3 := hide (B2.out.trans (k3.mono B2.out.size)); clear k3)
        | (refine wpList_store_row rfl 24 (.tmp 13) (.tmp 50) rfl w3.heap.size (oA (hmac pw Y) 20) (by rfl) (by rfl) (oA st0 0) 24 (heap_new _ _) (H20 _).out (by rw [oA, oA, fA_size, fA_size]) (fA_one _ _ _ _) ?_; intro w4 G4 K4)
        | (refine wpList_load_row rfl 24 (.tmp 13) rfl w3.heap.size (by rfl) (oA (hmac pw Y) 20) 24 (0, 0) G4.out _ Try.underlying24 rfl (H20 _).out ?_)
        | (refine wpList_store_row rfl 24 (.tmp 14) (.tmp 51) rfl w4.heap.size (oA (hmac pw Y) 20) (by rfl) (by rfl) (oA st0 0) 24 (heap_new _ _) (H20 _).out (by rw [oA, oA, fA_size, fA_size]) (fA_one _ _ _ _) ?_; intro w5 G5 K5))
      have hs3 := B3.out.size
      have l34 := lt_of_block' G4.out
      have B4 := (B3.out.alloc hs3 (.cells (oA st0 0) 24)).trans (K4.out.below (by simp; omega) (fun i hi e => by omega))
      have B5 := (B4.alloc B4.size (.cells (oA st0 0) 24)).trans (K5.out.below (by have := B4.size; simp; omega) (fun i hi e => by omega))
      have PS0 : Hid (PR W0 w3.heap.size w4.heap.size (outL (uK pw salt i 0)) (tK pw salt i 0) w5) :=
        ⟨by rw [HU0.out, ← oA_bA]; exact K5.out.heap (heap_old G4.out) (by omega), by rw [tK, HU0.out, ← oA_bA]; exact G5.out, B5⟩
      obtain ⟨b10, hb10⟩ : ∃ b10, b10 = w3.heap.size := ⟨_, rfl⟩
      obtain ⟨b11, hb11⟩ : ∃ b11, b11 = w4.heap.size := ⟨_, rfl⟩
      rw [← hb10] at hs3
      rw [← hb10, ← hb11] at l34 PS0 ⊢
      have hsl10 := fun W => slice20 W b10
      have hsl11 := fun W => slice20 W b11
      clear hb10 hb11 B4 B5 K4 G4 K5 G5 HC1 B2 B3 B1 X1 A1 BA1 HYE HYB HU0 hs1
      go_wp2_with fail
      go_loopg [15] r (fun gk u15 wx => ∃ k : Nat, k + gk = r ∧ u15 = .int .i64 ((k : Int) + 1) ∧ Hid (PR W0 b10 b11 (outL (uK pw salt i k)) (tK pw salt i k) wx))
      case atStart => exact ⟨0, by omega, rfl, PS0⟩
      case round =>
        obtain ⟨k, hkg, rfl, HX⟩ := hrel
        clear PS0
        cases gk with
        | zero =>
          obtain rfl : k = r := by omega
          have hge : ¬ (k : Int) + 1 < (k : Int) + 1 := by omega
          have BR := hide (BX.out.trans (HX.out.bel.mono BX.out.size))
          have OR := hide (OX.out.stay HX.out.bel)
          have TR := hide (textA (tK_length _ _ _ _) HX.out.t)
          have hsr := BR.out.size
          clear HX
          go_wp2_with (refine wpList_appB _ rfl (.tmp 73) (.tmp 74) rfl w.heap.size (.slice a4 T c4) (tsK pw salt k (i - 1)) (by rfl) OR.out (some ⟨b11, 0, none⟩) 20 20 (by rfl) (tK pw salt i k) (tsK pw salt k (i + 1 - 1)) HTT.out (tK_length _ _ _ _) TR.out (fun e => by cases e) (by rw [tsK_length]; omega) hsr ?_; intro v7 w7 h7 k7; have O7 := hide h7; have B7 := hide (growB OR.out BR.out k7); clear h7 k7)
          go_roundg g1
          case measure => omega
          case rel => exact ⟨i + 1, by omega, by omega, by go_num, O7, B7⟩
        | succ g2 =>
          have hlt2 : (k : Int) + 1 < (r : Int) + 1 := by omega
          obtain ⟨S1, hS1⟩ : ∃ S1, S1 = uK pw salt i (k + 1) := ⟨_, rfl⟩
          have HS1 := hide hS1
          have HC := hide (HSU wr (some ⟨b10, 0, none⟩) 20 (outL (uK pw salt i k)) (BX.out.trans (HX.out.bel.mono BX.out.size)) (outL_by _) (textA (outL_length _) HX.out.u) (fun e => by cases e) (by rw [outL_length]; omega)).out
          rw [outL_length, show hmac pw (outL (uK pw salt i k)) = S1 from hS1.symm] at HC
          have XU := hide HX.out.u
          have HUS := hide (show (bA (outL (uK pw salt i k))).size = (oA S1 20).size by rw [oA, fA_size, bA_size])
          clear hS1
          generalize bA (outL (uK pw salt i k)) = uc at XU HUS
          go_upto_region 14 with (first
            | (go_at_call 11; refine HC.out.mono ?_; rintro e w5 ⟨rfl, k5⟩; have K5 := hide k5; have YU := hide ((k5.block _ (lt_of_block' XU.out)).trans XU.out); clear k5)
            | (refine wpList_store_row rfl 24 (.tmp 13) (.tmp 59) rfl b10 (oA S1 20) (by rfl) (by rfl) uc 24 YU.out (H20 _).out HUS.out (fA_one _ _ _ _) ?_; intro w6 G6 K6))
          have HP := hide (HX.out.newU hs3 l34 K5.out (us' := outL S1) (by rw [← oA_bA]; exact G6.out) K6.out)
          have HP0 : Hid (PR W0 b10 b11 (outL S1) (mixL (tK pw salt i k) (outL S1) 0) w6) := by rw [mixL_zero]; exact HP
          have HNX := hide (show mixL (tK pw salt i k) (outL S1) 20 = tK pw salt i (k + 1) by
            rw [mixL_end (by rw [tK_length, outL_length]) (tK_length _ _ _ _).symm, HS1.out]; rfl)
          have HUX := hide (show outL S1 = outL (uK pw salt i (k + 1)) by rw [HS1.out])
          have HTB := hide (tK_by pw salt i k)
          have HTL := hide (tK_length pw salt i k)
          clear HP HX K5 K6 G6 YU XU HC HUS HS1
          generalize tK pw salt i k = T0 at HP0 HNX HTB HTL
          obtain ⟨V, hV⟩ : ∃ V, V = outL S1 := ⟨_, rfl⟩
          have HVL := hide (show V.length = 20 by rw [hV]; exact outL_length _)
          have HVB := hide (show By V by rw [hV]; exact outL_by _)
          rw [← hV] at HP0 HNX HUX
          clear hV
          go_wp2_with fail
          go_loopg [16] 20 (fun gk u16 wx => ∃ n : Nat, n + gk = 20 ∧ u16 = .int .i64 n ∧ Hid (PR W0 b10 b11 V (mixL T0 V n) wx))
          case atStart => exact ⟨0, by omega, rfl, HP0⟩
          case round =>
            obtain ⟨m, hng, rfl, HY⟩ := hrel
            clear HP0
            cases gk with
            | zero =>
              obtain rfl : m = 20 := by omega
              have hge : ¬ ((20 : Nat) : Int) < 20 := by omega
              rw [HNX.out, HUX.out] at HY
              clear HNX HUX
              go_wp2_with fail
              go_roundg g2
              case measure => omega
              case rel => exact ⟨k + 1, by omega, by go_num, HY⟩
            | succ g3 =>
              have hlt3 : (m : Int) < 20 := by omega
              have hm : m < 20 := by omega
              have hTV : T0.length = V.length := HTL.out.trans HVL.out.symm
              have hY2 := HY.out.drew
              have cu := (cells_of hY2.u m).trans (bA_at V hm)
              have ct := (cells_of hY2.t m).trans (bA_at _ hm)
              rw [mixL_at hTV (by rw [HTL.out]; exact hm)] at ct
              have ft := free_of hY2.t m
              have hset := hide (hY2.setT (by rw [mixL_length hTV]; exact HTL.out) hs3 l34 hm (T0.getD m 0 ^^^ V.getD m 0))
              rw [mixL_set hTV (by rw [HTL.out]; exact hm)] at hset
              have q1 := HTB.out.getD m
              have q2 := HVB.out.getD m
              have hxr := xor8 _ _ q1 q2
              generalize T0.getD m 0 ^^^ V.getD m 0 = Zv at hset hxr
              generalize T0.getD m 0 = Tv at ct q1 hxr
              generalize V.getD m 0 = Uv at cu q2 hxr
              have m0 : (0 : Int) ≤ (m : Int) := by omega
              clear hY2 hTV hm
              go_upto_region 17 with fail
              go_region_with (fail)
              all_goals go_wp2_with fail
              all_goals (go_roundg g3; (case measure => omega); (case rel => exact ⟨m + 1, by omega, by go_num, hset⟩))

/-- The reference's Key refuses. -/
theorem rkey_no (v u : Value) (r L : Int) (w : World) (h : r < 1 ∨ 5000 < r ∨ L < 0 ∨ 1000 < L) :
    Calls Try.prog 14 #[v, u, .int .i64 r, .int .i64 L] w fun e w' => e = .returned (.tuple #[.slice none 0 0, .bool false]) ∧ w' = w := by
  by_cases h1 : r < 1
  · go_enter Try.func14, Try.ntmps14
    go_wp2_with fail
    go_ret2
    exact ⟨rfl, rfl⟩
  · by_cases h2 : 5000 < r
    · go_enter Try.func14, Try.ntmps14
      go_wp2_with fail
      go_ret2
      exact ⟨rfl, rfl⟩
    · by_cases h3 : L < 0
      · go_enter Try.func14, Try.ntmps14
        go_wp2_with fail
        go_ret2
        exact ⟨rfl, rfl⟩
      · have h4 : 1000 < L := by omega
        go_enter Try.func14, Try.ntmps14
        go_wp2_with fail
        go_ret2
        exact ⟨rfl, rfl⟩
end Go.Proofs.Ytgafejgmjenfaaa.S
