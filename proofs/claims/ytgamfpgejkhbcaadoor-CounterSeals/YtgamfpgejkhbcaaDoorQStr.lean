/- The reference's Stream: contracts. -/
import Derived.Test.YtgamfpgejkhbcaaDoorNG1
import Derived.Test.YtgamfpgejkhbcaaDoorKRnd
namespace Go.Proofs.YtgamfpgejkhbcaaDoor.K
set_option maxRecDepth 100000
open Go Go.RowKit

theorem rstream_no (a : Option Addr) (len cap : Nat) (d : Option Addr) (dl dc : Nat) (w : World) (hn : len ≠ 16 ∧ len ≠ 24 ∧ len ≠ 32) :
    Calls Tryd.prog 12 #[.slice a len cap, .slice d dl dc] w fun e w' => e = .returned (.tuple #[.slice none 0 0, .int .i64 120]) ∧ Below w.heap.size w w' := by
  have HBX := hide (boxes_c w)
  have HR := fun b bl bc W => hide (rounds_no a b len cap bl bc W hn)
  have HNN := hide hn
  clear hn
  go_enter Tryd.func12, Tryd.ntmps12
  go_upto_region 2 with (go_at_call 20; refine HBX.out.mono ?_; rintro e w1 ⟨v1, rfl, o1, b1⟩; have O1 := hide o1; have B1 := hide b1; clear o1 b1)
  obtain ⟨ab, cb, rfl, _⟩ := O1.out.form
  go_wp2_with (go_at_call 21; refine (HR ab _ cb w1).out.mono ?_; rintro e w2 ⟨rfl, hw⟩; subst hw; clear HR)
  go_ret2
  exact ⟨rfl, B1.out⟩
/-- What stands in memory while a block is made: what is told already, a block of sixteen bytes, all else. -/
structure RS (w2 : World) (T : List Nat) (u : Value) (bb : Nat) (c : Array Value) (wx : World) : Prop where
  row : OwnsB wx w2.heap.size u T
  blk : wx.heap[bb]? = some (.cells c 39 (0, 0))
  bel : Below w2.heap.size w2 wx
theorem RS.set {w2 : World} {T : List Nat} {u : Value} {bb m k : Nat} {wx : World} (h : RS w2 T u bb (cA (wrB m) k) wx) (hb2 : w2.heap.size ≤ bb) (hk : k < 16) : RS w2 T u bb (cA (wrB m) (k + 1)) (wx.setCell ⟨bb, k, none⟩ (.int .u8 (wrB m k : Nat))) :=
  ⟨ownsRow_kept h.row (Kept.setCell (M := fun i => i = bb) (Kept.refl _ wx) (fun _ => rfl) _) (fun g hg e => ownsRow_apart h.row h.blk (by decide) (by rw [hg, e])), by rw [set_of h.blk, cA_set _ hk], h.bel.setCell (p := ⟨bb, k, none⟩) hb2 _⟩
theorem RS.alloc {w2 : World} {T : List Nat} {u : Value} {wx : World} (h1 : OwnsB wx w2.heap.size u T) (h3 : Below w2.heap.size w2 wx) (c : Array Value) : RS w2 T u wx.heap.size c (wx.alloc (.cells c 39)) :=
  ⟨World.ownsRow.alloc h1 _, heap_new _ _, h3.alloc h3.size _⟩
theorem RS.stay {w2 : World} {T : List Nat} {u : Value} {bb : Nat} {c : Array Value} {wx wy : World} (h : RS w2 T u bb c wx) (k : Below wx.heap.size wx wy) : RS w2 T u bb c wy :=
  ⟨h.row.stay k, (k.block bb (lt_of_block' h.blk)).trans h.blk, h.bel.trans (k.mono h.bel.size)⟩
theorem RS.push {w2 : World} {T T' : List Nat} {u v : Value} {bb : Nat} {c : Array Value} {wx wy : World} (h : RS w2 T u bb c wx) (h2 : OwnsB wy w2.heap.size v T') (hg : wx.grownBy wy u.ownBlock) : RS w2 T' v bb c wy :=
  ⟨h2, (Kept.of_grown hg).heap h.blk (fun e => ownsRow_apart h.row h.blk (by decide) e.symm), growB h.row h.bel hg⟩
theorem quo256 (m k : Nat) : ((m / 256 ^ k : Nat) : Int) / 256 = ((m / 256 ^ (k + 1) : Nat) : Int) := by
  rw [← wrB_low]
  omega
theorem wrap8_of (m k : Nat) : ((m / 256 ^ k : Nat) : Int) % 256 = ((wrB m k : Nat) : Int) := by unfold wrB; omega

set_option maxHeartbeats 8000000 in
theorem rstream_c (kb ko cap n : Nat) (key : List Nat) (d : Option Addr) (dc : Nat) (xs : List Nat) (w : World) (hn : n = 4 ∨ n = 6 ∨ n = 8) (hkl : key.length = 4 * n) (hk : By key) (hkb : kb < w.heap.size) (hkt : Bs w kb ko key)
    (hx : By xs) (hxt : TextAt w d xs) (hxl : xs.length ≤ 1099511627776) :
    Calls Tryd.prog 12 #[.slice (some ⟨kb, ko, none⟩) (4 * n : Nat) cap, .slice d xs.length dc] w (StrOk (strL (msk (kK key n) (n + 6)) xs) w) := by
  have HBX := hide (boxes_c w)
  have n1 : 4 ≤ n ∧ n ≤ 8 := by omega
  have HRN := fun bb bo bc W (h1 : Below w.heap.size w W) (h2 : BoxRow W bb bo) => hide (rounds_c kb ko cap bb bo bc n key W hn hkl hk (hkt.below h1 hkb) (Nat.lt_of_lt_of_le hkb h1.size) h2)
  have HKB : Hid (∀ r, r ≤ n + 6 → By16 (kK key n r)) := fun r _ => kK_by hk (by omega) r
  have HML : Hid (∀ i, msk (kK key n) (n + 6) i < 256) := fun i => msk_lt HKB.out i
  have HAT : Hid (∀ j i, i < 16 → enc (kK key n) (n + 6) (wrB (j + 1)) (n + 6) i = msk (kK key n) (n + 6) (16 * j + i)) := fun j i hi => msk_at _ _ j hi
  obtain ⟨N, hN⟩ : ∃ N, N = xs.length := ⟨_, rfl⟩
  obtain ⟨G, hG⟩ : ∃ G, G = msk (kK key n) (n + 6) := ⟨_, rfl⟩
  have HD := hide hxt
  have HX := hide hx
  have HNL := hide hN
  rw [← hG] at HML HAT ⊢
  rw [← hN] at hxl
  rw [show strL G xs = strP G xs N from by rw [hN]; rfl, ← hN]
  obtain ⟨E, hE⟩ : ∃ E : Nat → Nat → Nat, E = fun j => enc (kK key n) (n + 6) (wrB (j + 1)) (n + 6) := ⟨_, rfl⟩
  have HBL : Hid (∀ (rb rc bb bc j : Nat) (W : World), KeyRows W rb 0 (n + 6) (kK key n) → BoxRow W bb 0 → Calls Tryd.prog 22 #[.slice (some ⟨rb, 0, none⟩) (n + 7) rc, .slice (some ⟨bb, 0, none⟩) 256 bc, .agg (cA (wrB (j + 1)) 16)] W fun e w' => e = .returned (.agg (cA (E j) 16)) ∧ Below W.heap.size W w') := by
    intro rb rc bb bc j W h1 h2
    rw [hE]
    exact block_c rb 0 rc bb 0 bc (n + 6) (kK key n) (wrB (j + 1)) W (by omega) (by omega) h1 HKB.out h2 (wrB_by _)
  replace HAT : Hid (∀ j i, i < 16 → E j i = G (16 * j + i)) := by rw [hE]; exact HAT.out
  have HEB : Hid (∀ j i, i < 16 → E j i < 256) := hide fun j i hi => by rw [HAT.out j i hi]; exact HML.out _
  obtain ⟨KK, hKK⟩ : ∃ KK, KK = kK key n := ⟨_, rfl⟩
  have HRN2 : Hid (∀ bb bo bc W, Below w.heap.size w W → BoxRow W bb bo → Calls Tryd.prog 21 #[.slice (some ⟨kb, ko, none⟩) (4 * n) cap, .slice (some ⟨bb, bo, none⟩) 256 bc] W (fun e w' => ∃ rb rc, e = .returned (.tuple #[.slice (some ⟨rb, 0, none⟩) (n + 7) rc, .int .i64 0]) ∧ KeyRows w' rb 0 (n + 6) KK ∧ Below W.heap.size W w')) := hide fun bb bo bc W h1 h2 => by rw [hKK]; exact (HRN bb bo bc W h1 h2).out
  rw [← hKK] at HBL
  have HI := fun f t => hide (info16 f t)
  have hz : ∀ W, (zeroValue 39).run Tryd.prog W = .ok (.agg (cA (wrB 0) 0)) W := (zero16 _).1
  clear hn hkl hk hkt hx hxt hN hG hE hKK HKB HRN hkb
  go_enter Tryd.func12, Tryd.ntmps12
  go_upto_region 2 with (go_at_call 20; refine HBX.out.mono ?_; rintro e w1 ⟨v1, rfl, o1, b1⟩; have O1 := hide o1; have B1 := hide b1; clear o1 b1 HBX)
  obtain ⟨ab, cb, hv1, _⟩ := O1.out.form
  rw [bxL_length] at hv1
  subst hv1
  obtain ⟨bb, rfl, hbox⟩ : ∃ bb, ab = some ⟨bb, 0, none⟩ ∧ BoxRow w1 bb 0 := by
    rcases OwnsB.bs O1.out with h | ⟨g, h1, h2, h3, h4⟩
    · rw [bxL_length] at h; omega
    · exact ⟨g, h1, h3, fun i hi => by have := h4 i (by rw [bxL_length]; exact hi); rw [bxL_at hi] at this; exact this⟩
  have HBOX := hide hbox
  clear hbox O1
  go_upto_region 3 with (go_at_call 21; refine (HRN2.out bb 0 cb w1 B1.out HBOX.out).mono ?_; rintro e w2 ⟨rb, rc, rfl, kr, b2⟩; have KR2 := hide kr; have B2 := hide (B1.out.trans (b2.mono B1.out.size)); have HBOX2 := hide (HBOX.out.below b2); clear kr b2 HRN2 HBOX B1)
  go_wp2_with fail
  have R0 := hide (OwnsB.nil w2 w2.heap.size)
  have hR0 : Hid (strP G xs 0 = []) := rfl
  go_loopg [9, 10] (N / 16 + 1) (fun gk u9 u10 wx => ∃ j M : Nat, j + gk = N / 16 + 1 ∧ M ≤ N ∧ (M = 16 * j ∨ M = N) ∧ M ≤ 16 * j ∧ u10 = .int .i64 ((16 * j : Nat) : Int) ∧ Hid (OwnsB wx w2.heap.size u9 (strP G xs M)) ∧ Hid (Below w2.heap.size w2 wx))
  case atStart => exact ⟨0, 0, by omega, by omega, by omega, by omega, rfl, R0, hide (Below.refl _ _)⟩
  case round =>
    obtain ⟨j, M0, hjg, hMN, hMj, hMle, rfl, OX, BX⟩ := hrel
    clear R0 hR0
    obtain ⟨L, hL⟩ : ∃ L, L = 16 * j := ⟨_, rfl⟩
    rw [← hL] at hMj hMle ⊢
    by_cases hlt : L < N
    · have hM0 : M0 = L := by omega
      subst hM0
      have hLN : ((M0 : Nat) : Int) < (N : Int) := by omega
      have hq : (M0 : Int) / 16 = (j : Int) := by omega
      have hj16 : 16 * j < N := by omega
      have HL := hide hL
      have hjN : (j : Int) + 1 ≤ 9223372036854775807 := by omega
      have X0 := hide (RS.alloc OX.out BX.out (cA (wrB (j + 1)) 0))
      rw [cA_nil (wrB (j + 1)) (wrB 0)] at X0
      have hbb : Hid (w2.heap.size ≤ wr.heap.size) := hide BX.out.size
      cases gk with
      | zero => omega
      | succ gk =>
      obtain ⟨g0, rfl⟩ : ∃ g, g = gk := ⟨gk, rfl⟩
      clear hMj hMle hL OX BX
      go_wp2_with fail
      obtain ⟨b2, hb2⟩ : ∃ b2, b2 = wr.heap.size := ⟨_, rfl⟩
      rw [← hb2] at X0 hbb ⊢
      generalize wr.alloc (.cells (cA (wrB 0) 0) 39) = wz at X0 ⊢
      clear hb2
      have Z0 : Hid (RS w2 (strP G xs M0) u9 b2 (cA (wrB (j + 1)) 0) wz) := hide (by rw [cA_nil (wrB (j + 1)) (wrB 0)]; exact X0.out)
      clear X0
      go_loopg [12, 13] 16 (fun gk u12 u13 wx => ∃ k : Nat, k + gk = 16 ∧ u12 = .int .i64 (((j + 1) / 256 ^ k : Nat) : Int) ∧ u13 = .int .i64 k ∧ Hid (RS w2 (strP G xs M0) u9 b2 (cA (wrB (j + 1)) k) wx))
      case atStart => exact ⟨0, by omega, by rw [Nat.pow_zero, Nat.div_one]; rfl, rfl, Z0⟩
      case round =>
        obtain ⟨k, hkg, rfl, rfl, XK⟩ := hrel
        clear Z0
        cases gk with
        | zero =>
          obtain rfl : k = 16 := by omega
          have hge : ¬ ((16 : Nat) : Int) < 16 := by omega
          have X0 := hide XK.out.blk
          have HI0 := hide (HI (wrB (j + 1)) 16).out
          have HKR := hide (KR2.out.below XK.out.bel)
          have HBR := hide (HBOX2.out.below XK.out.bel)
          have HC := hide (HBL.out rb rc bb cb j wr HKR.out HBR.out)
          have H1 := hide XK.out.row
          have H3 := hide XK.out.bel
          have HIE := hide (HI (E j) 16).out
          have HSE := hide (show (cA (wrB 0) 0).size = (cA (E j) 16).size by rw [cA_size, cA_size])
          have HOE := hide (cA_one (E j) 16)
          obtain ⟨ce, hce⟩ : ∃ ce, ce = cA (E j) 16 := ⟨_, rfl⟩
          have HCE := hide hce
          rw [← hce] at HC HIE HSE HOE
          generalize cA (wrB (j + 1)) 16 = ci at X0 HI0 HC
          clear XK hce HKR HBR
          go_upto_region 17 with (first
            | (refine wpList_load_row rfl 39 (.tmp 11) rfl b2 (by rfl) ci 39 (0, 0) X0.out _ Tryd.underlying39 rfl HI0.out ?_)
            | (go_at_call 22; refine HC.out.mono ?_; rintro e w4 ⟨rfl, k4⟩; have K4 := hide k4; have Y4 := hide (RS.alloc (H1.out.stay k4) (H3.out.trans (k4.mono H3.out.size)) (cA (wrB 0) 0)); have YB := hide Y4.out.blk; clear k4 HC X0)
            | (refine wpList_store_row rfl 39 (.tmp 14) (.tmp 49) rfl w4.heap.size ce (by rfl) (by rfl) (cA (wrB 0) 0) 39 YB.out HIE.out HSE.out HOE.out ?_; intro w5 G5 K5))
          obtain ⟨b3, hb3⟩ : ∃ b3, b3 = w4.heap.size := ⟨_, rfl⟩
          have hs4 := K4.out.size
          have hs3 := H3.out.size
          have Z5 : Hid (RS w2 (strP G xs M0) u9 b3 ce w5) := hide ⟨ownsRow_kept Y4.out.row K5.out (fun g hg e => ownsRow_apart Y4.out.row Y4.out.blk (by decide) (by rw [hg, e])), by rw [hb3]; exact G5.out, Y4.out.bel.trans (K5.out.below Y4.out.bel.size (fun i hi e => by omega))⟩
          rw [← hb3] at G5 K5 ⊢
          clear hs4 hs3 Y4 YB K4 K5 G5 H1 H3 hb3
          go_wp2_with fail
          have OX5 := hide Z5.out.row
          have E5 := hide Z5.out.blk
          have BL5 := hide Z5.out.bel
          clear Z5
          go_loopg [9, 15] 16 (fun gk u9 u15 wx => ∃ k M : Nat, k + gk = 16 ∧ u15 = .int .i64 k ∧ Hid (M = M0 + k) ∧ M ≤ N ∧ ∃ ad cp, u9 = .slice ad M cp ∧ Hid (RS w2 (strP G xs M) (.slice ad M cp) b3 ce wx))
          case atStart =>
            obtain ⟨ad, cp, hv, _⟩ := OX5.out.form
            rw [strP_length] at hv
            exact ⟨0, M0, by omega, rfl, hide rfl, hMN, ad, cp, hv, hide ⟨by rw [← hv]; exact OX5.out, E5.out, BL5.out⟩⟩
          case round =>
            obtain ⟨k, M, hkg, rfl, hM, hMN2, ad, cp, rfl, XK⟩ := hrel
            clear OX5 E5 BL5
            by_cases hend : k < 16 ∧ M < N
            · obtain ⟨hk16, hMl⟩ := hend
              cases gk with
              | zero => omega
              | succ g1 =>
              have hk' : (k : Int) < 16 := by omega
              have hMe : M = M0 + k := hM.out
              have hMk : (M0 : Int) + (k : Int) < (N : Int) := by omega
              have hMw : IntKind.i64.wrap ((M0 : Int) + (k : Int)) = (M : Int) := by rw [IntKind.wrap_i64]; omega
              have hm1 : (0 : Int) ≤ (M : Int) := by omega
              have hm2 : (M : Int) < (N : Int) := by omega
              have hk0 : (0 : Int) ≤ (k : Int) := by omega
              obtain ⟨b1, o1, rfl, hb1, hbs⟩ : ∃ b1 o1, d = some ⟨b1, o1, none⟩ ∧ b1 < w.heap.size ∧ Bs w b1 o1 xs := by
                rcases HD.out with h0 | ⟨b1, o1, e, hb1, h⟩
                · rw [← HNL.out] at h0; omega
                · exact ⟨b1, o1, e, hb1, h⟩
              have HS := fun W (k2 : Below wr.heap.size wr W) => hide (show W.cell? ⟨b1, o1 + M, none⟩ = some (.int .u8 (xs.getD M 0 : Nat)) ∧ W.cell? ⟨b3, k, none⟩ = some (.int .u8 (E j k : Nat)) from
                ⟨((hbs.below B2.out hb1).below (XK.out.bel.trans (k2.mono XK.out.bel.size)) (Nat.lt_of_lt_of_le hb1 B2.out.size)) M (by rw [← HNL.out]; exact hMl), by
                  have := cells_of ((XK.out.stay k2).blk) k
                  rw [this, HCE.out]
                  exact cA_at (E j) hk16⟩)
              have x1 := HX.out.getD M
              have x2 : E j k < 256 := HEB.out j k hk16
              have hEG : E j k = G M := by rw [HAT.out j k hk16, hMe, HL.out]
              have hxr := xor8 _ _ x1 x2
              have HP := hide (strP_push G xs M)
              have HPL := hide (strP_length G xs M)
              rw [← hEG] at HP
              have HM1 := hide (show M + 1 = M0 + (k + 1) by omega)
              obtain ⟨Y, hY⟩ : ∃ Y, Y = E j k := ⟨_, rfl⟩
              have HYE := hide hY
              rw [← hY] at HS x2 hxr HP hEG
              clear hY
              generalize xs.getD M 0 ^^^ Y = Z at hxr HP
              obtain ⟨X, hX⟩ : ∃ X, X = xs.getD M 0 := ⟨_, rfl⟩
              have HXE := hide hX
              rw [← hX] at HS x1 hxr
              clear hX
              have RR := hide XK.out.row
              have BA := hide (show Below wr.heap.size wr (wr.alloc (.cells #[.int .u8 (Z : Int)] 5)).drew from ((Below.refl _ wr).alloc (Nat.le_refl _) (.cells #[.int .u8 (Z : Int)] 5)).drew)
              have XA := hide (XK.out.stay BA.out)
              have TA := hide (show TextAt (wr.alloc (.cells #[.int .u8 (Z : Int)] 5)).drew (some ⟨wr.heap.size, 0, none⟩) [Z] from one_byte wr Z)
              have hsa := XA.out.bel.size
              have KS0 := hide (HS wr.drew (Below.refl _ wr).drew).out
              have KS1 := hide (HS _ BA.out).out
              have HXS := hide (fun (W : World) (r : RS w2 (strP G xs (M + 1)) (.slice ad M cp) b3 ce W) => r)
              have hpl : (strP G xs M).length + 1 ≤ 140737488355328 := by rw [HPL.out]; omega
              have HSB := hide (fun W v (h : RS w2 (strP G xs (M + 1)) v b3 ce W) => (⟨(hbs.below (B2.out.trans (h.bel.mono B2.out.size)) hb1) M (by rw [← HNL.out]; exact hMl) |>.trans (by rw [HXE.out]), by
                  have := cells_of h.blk k
                  rw [this, HCE.out, cA_at (E j) hk16, HYE.out]⟩ : W.cell? ⟨b1, o1 + M, none⟩ = some (.int .u8 (X : Nat)) ∧ W.cell? ⟨b3, k, none⟩ = some (.int .u8 (Y : Nat))))
              clear HS XK hbs HXS hMe hEG
              go_upto_region 20 with fail
              go_region_held3 (fun W => W.cell? ⟨b1, o1 + M, none⟩ = some (.int .u8 (X : Int)) ∧ W.cell? ⟨b3, k, none⟩ = some (.int .u8 (Y : Int))) (first | exact KS0.out | exact KS1.out | exact KS3.out | assumption) (first
                | (refine step_appB _ (by rfl) (.tmp 62) (.tmp 73) (by rfl) w2.heap.size (.slice ad M cp) (strP G xs M) (by rfl) XA.out.row ⟨wr.heap.size, 0, none⟩ 1 1 (by rfl) [Z] rfl TA.out hpl hsa ?_; intro v7 w7 h7 k7; have S7 : Hid (RS w2 (strP G xs (M + 1)) v7 b3 ce w7) := hide (XA.out.push (HP.out ▸ h7) k7); have KS3 := hide (HSB.out w7 v7 S7.out); clear h7 k7))
              obtain ⟨ad2, cp2, hv7, _⟩ := S7.out.row.form
              rw [strP_length] at hv7
              subst hv7
              go_wp2_with fail
              go_roundg g1
              case measure => omega
              case rel => exact ⟨k + 1, M + 1, by omega, by go_num, HM1, by omega, _, _, rfl, S7⟩
            · have RR := hide XK.out.row
              have RC := hide XK.out.bel
              have hfin : (M = 16 * (j + 1) ∨ M = N) ∧ M ≤ 16 * (j + 1) := by have := hM.out; have := HL.out; omega
              have HF := hide hfin
              have hL16 : Hid (((M0 : Nat) : Int) + 16 = ((16 * (j + 1) : Nat) : Int)) := hide (by have := HL.out; omega)
              clear hfin XK
              by_cases hk : k < 16
              · have hk' : (k : Int) < 16 := by omega
                have hMk : ¬ ((M0 : Int) + (k : Int) < (N : Int)) := by have := hM.out; omega
                clear hend
                go_wp2_with fail
                go_roundg g0
                case measure => omega
                case rel => exact ⟨j + 1, M, by omega, hMN2, HF.out.1, HF.out.2, by rw [← hL16.out], RR, RC⟩
              · have hk' : ¬ (k : Int) < 16 := by omega
                clear hend
                go_wp2_with fail
                go_roundg g0
                case measure => omega
                case rel => exact ⟨j + 1, M, by omega, hMN2, HF.out.1, HF.out.2, by rw [← hL16.out], RR, RC⟩
        | succ g1 =>
          have hk16 : k < 16 := by omega
          have hlt16 : (k : Int) < 16 := by omega
          have fb := free_of XK.out.blk k
          have cb := (cells_of XK.out.blk k).trans (fA_not .u8 (wrB (j + 1)) hk16)
          have hset := hide (XK.out.set hbb.out hk16)
          have hq2 := quo256 (j + 1) k
          have hw2 := wrap8_of (j + 1) k
          have hm64 : (j + 1) / 256 ^ k < 9223372036854775807 := Nat.lt_of_le_of_lt (Nat.div_le_self _ _) (by omega)
          generalize wrB (j + 1) k = Z at hset hw2
          obtain ⟨V2, hV2⟩ : ∃ V2, V2 = (j + 1) / 256 ^ (k + 1) := ⟨_, rfl⟩
          have HV2 := hide hV2
          rw [← hV2] at hq2
          generalize (j + 1) / 256 ^ k = V at hq2 hw2 hm64 ⊢
          have hVn : (0 : Int) ≤ (V : Int) := by omega
          clear hV2 XK
          go_wp2_with fail
          go_roundg g1
          case measure => omega
          case rel => exact ⟨k + 1, by omega, by rw [← HV2.out], by go_num, hset⟩
    · have hge : ¬ ((L : Nat) : Int) < (N : Int) := by omega
      have hMN2 : M0 = N := by omega
      subst hMN2
      go_wp2_with fail
      go_ret2
      exact ⟨_, rfl, OX.out.low B2.out.size, B2.out.trans (BX.out.mono B2.out.size)⟩
end Go.Proofs.YtgamfpgejkhbcaaDoor.K
