/- The reference's Rounds: contracts. -/
import Derived.Test.YtgamfpgejkhbcaaDoorCNew
import Derived.Deep.CutBlock
namespace Go.Proofs.YtgamfpgejkhbcaaDoor.K
set_option maxRecDepth 100000
open Go Go.RowKit

theorem wr_drew (w : World) : Below w.heap.size w w.drew := ⟨rfl, rfl, rfl, Nat.le_refl _, fun _ _ => rfl⟩
/-- A word of one's own, at g2. -/
def TW (W0 : World) (v : Value) (T : List Nat) (wx : World) : Prop := ∃ g2 c, v = .slice (some ⟨g2, 0, none⟩) 4 c ∧ W0.heap.size ≤ g2 ∧ OwnsB wx W0.heap.size v T ∧ Below W0.heap.size W0 wx
/-- The first k words of a round key, one behind the other; all round keys. -/
def pr16 (key : List Nat) (n r : Nat) : Nat → List Nat
  | 0 => []
  | k + 1 => pr16 key n r k ++ kwo key n (4 * r + k)
def rowsL (key : List Nat) (n r : Nat) : List (List Nat) := (List.range r).map fun j => pr16 key n j 4
theorem rowsL_length (key : List Nat) (n r : Nat) : (rowsL key n r).length = r := by simp [rowsL]
theorem rowsL_next (key : List Nat) (n r : Nat) : rowsL key n r ++ [pr16 key n r 4] = rowsL key n (r + 1) := by simp [rowsL, List.range_succ]
theorem rowsL_at (key : List Nat) (n : Nat) {m r : Nat} (h : r < m) : (rowsL key n m).getD r [] = pr16 key n r 4 := by simp [rowsL, List.getD, h]
theorem pr16_length {key : List Nat} (hk : By key) {n : Nat} (hn : 1 ≤ n) (r k : Nat) : (pr16 key n r k).length = 4 * k := by
  induction k with
  | zero => rfl
  | succ k ih => rw [pr16, List.length_append, ih, (kwo_wd hk hn _).1]; omega
theorem pr16_at {key : List Nat} (hk : By key) {n : Nat} (hn : 1 ≤ n) (r k : Nat) {i : Nat} (hi : i < 4 * k) : (pr16 key n r k).getD i 0 = kby key n (16 * r + i) := by
  induction k with
  | zero => omega
  | succ k ih =>
    have hl := pr16_length hk hn r k
    rw [pr16]
    by_cases h : i < 4 * k
    · rw [← ih h]
      simp only [List.getD]
      rw [List.getElem?_append_left (by omega)]
    · rw [show 16 * r + i = 4 * (4 * r + k) + (i - 4 * k) by omega, kby_at _ _ _ (by omega)]
      simp only [List.getD]
      rw [List.getElem?_append_right (by omega), hl]
theorem key_rows {w : World} {base g c n : Nat} {key : List Nat} (hk : By key) (hn : 1 ≤ n) (h : WS base (.slice (some ⟨g, 0, none⟩) (n + 7) c) (rowsL key n (n + 7)) w) : KeyRows w g 0 (n + 6) (kK key n) := by
  have hrow : ∀ r, r ≤ n + 6 → ∃ b o c', w.cell? ⟨g, 0 + r, none⟩ = some (.slice (some ⟨b, o, none⟩) 16 c') ∧ b < w.heap.size ∧ (∀ i, i < 16 → w.cell? ⟨b, o + i, none⟩ = some (.int .u8 (kK key n r i : Nat))) ∧ g < w.heap.size := fun r hr => by
    obtain ⟨g', u, e, _, hgw, hcu, hou⟩ := h.row (m := r) (by rw [rowsL_length]; omega)
    simp only [Option.some.injEq, Addr.mk.injEq, and_true] at e
    subst e
    rw [rowsL_at key n (by omega)] at hou
    have hl := pr16_length hk hn r 4
    obtain ⟨au, cu, rfl, _⟩ := hou.form
    rcases hou.bs with h0 | ⟨gu, rfl, _, h2, h3⟩
    · omega
    · refine ⟨gu, 0, cu, by rw [Nat.zero_add, hcu, hl], h2, fun i hi => ?_, hgw⟩
      rw [h3 i (by omega), pr16_at hk hn r 4 (by omega)]
      rfl
  exact ⟨(hrow 0 (by omega)).choose_spec.choose_spec.choose_spec.2.2.2, fun r hr => by obtain ⟨b, o, c', h1, h2, h3, _⟩ := hrow r hr; exact ⟨b, o, c', h1, h2, h3⟩⟩
/-- What Rounds answers of a key that may be. -/
def RndOk (w : World) (key : List Nat) (n : Nat) (e : Ending) (w' : World) : Prop := ∃ rb rc, e = .returned (.tuple #[.slice (some ⟨rb, 0, none⟩) (n + 7) rc, .int .i64 0]) ∧ KeyRows w' rb 0 (n + 6) (kK key n) ∧ Below w.heap.size w w'
theorem rounds_no (a b : Option Addr) (len cap bl bc : Nat) (w : World) (hn : len ≠ 16 ∧ len ≠ 24 ∧ len ≠ 32) :
    Calls Tryd.prog 21 #[.slice a len cap, .slice b bl bc] w fun e w' => e = .returned (.tuple #[.slice none 0 0, .int .i64 120]) ∧ w' = w := by
  have h1 : ¬ (len : Int) = 16 := by omega
  have h2 : ¬ (len : Int) = 24 := by omega
  have h3 : ¬ (len : Int) = 32 := by omega
  have e1 : ((len : Int) != 16) = true := by simp; omega
  have e2 : ((len : Int) != 24) = true := by simp; omega
  have e3 : ((len : Int) != 32) = true := by simp; omega
  go_enter Tryd.func21, Tryd.ntmps21
  go_wp2_with fail
  go_ret2
  exact ⟨rfl, rfl⟩
set_option maxHeartbeats 8000000 in
theorem rounds_c (kb ko ca bb bo bc n : Nat) (key : List Nat) (w : World) (hn : n = 4 ∨ n = 6 ∨ n = 8) (hkl : key.length = 4 * n) (hk : By key) (hkt : Bs w kb ko key) (hkw : kb < w.heap.size) (hB : BoxRow w bb bo) :
    Calls Tryd.prog 21 #[.slice (some ⟨kb, ko, none⟩) (4 * n) ca, .slice (some ⟨bb, bo, none⟩) 256 bc] w (RndOk w key n) := by
  have HKT := hide hkt
  have HKL := hide hkl
  have HKB := hide hk
  have HB := hide hB
  have HN := hide hn
  have n1 : 4 ≤ n ∧ n ≤ 8 := by omega
  have q4 : ((4 * n : Nat) : Int) / 4 = (n : Int) := by omega
  have hno : ¬ (((4 * n : Nat) : Int) ≠ 16 ∧ ((4 * n : Nat) : Int) ≠ 24 ∧ ((4 * n : Nat) : Int) ≠ 32) := by omega
  clear hkt hkl hk hB hn
  go_enter Tryd.func21, Tryd.ntmps21
  go_upto_region 2 with fail
  go_cut [33] (fun v33 wx => v33 = .bool false ∧ w = wx)
  case first =>
    rcases HN.out with rfl | rfl | rfl
    all_goals go_wp2_with fail
    all_goals go_meet
    all_goals exact ⟨rfl, rfl⟩
  case rest =>
    obtain ⟨rfl, rfl⟩ := hcut
    go_wp2_with fail
    go_loopg [7, 8] n (fun gk u7 u8 wx => ∃ i : Nat, i + gk = n ∧ u8 = .int .i64 i ∧ Hid (WS w.heap.size u7 (kws key n i) wx) ∧ Hid (Below w.heap.size w wx))
    case atStart => exact ⟨0, by omega, rfl, WS.nil _ _, Below.refl _ _⟩
    case round =>
      obtain ⟨i, hig, rfl, SX, BX⟩ := hrel
      cases gk with
      | zero =>
        obtain rfl : n = i := by omega
        have hge : ¬ (n : Int) < (n : Int) := by omega
        go_wp2_with fail
        go_loopg [7, 9] (4 * (n + 7)) (fun gk u7 u9 wx => ∃ i : Nat, i + gk ≤ 4 * (n + 7) + n ∧ 4 * (n + 7) ≤ i + gk ∧ n ≤ i ∧ i ≤ 4 * (n + 7) ∧ u9 = .int .i64 i ∧ Hid (WS w.heap.size u7 (kws key n i) wx) ∧ Hid (Below w.heap.size w wx))
        case atStart => exact ⟨n, by omega, by omega, by omega, by omega, rfl, SX, BX⟩
        case round =>
          obtain ⟨i, hg1, hg2, hni, hi4, rfl, SX, BX⟩ := hrel
          by_cases hie : i = 4 * (n + 7)
          · have hge2 : ¬ (i : Int) < 4 * ((n : Int) + 7) := by omega
            obtain ⟨W5, hW5⟩ : ∃ W, W = wr := ⟨_, rfl⟩
            rw [← hW5] at SX BX ⊢
            clear hW5
            obtain ⟨a7, c7, rfl, hc7, _⟩ := SX.out.form
            have SX' := SX.out
            rw [kws_length] at SX' hc7 ⊢
            obtain ⟨g, u0, rfl, _, hgw, _, _⟩ := SX'.row (m := 0) (by rw [kws_length]; omega)
            have HWD := hide (show ∀ m, m < i → ∃ u c, W5.cell? ⟨g, m, none⟩ = some (.slice (some ⟨u, 0, none⟩) 4 c) ∧ u < W5.heap.size ∧ Bs W5 u 0 (kwo key n m) from fun m hm => by
              obtain ⟨g', u, e, _, _, hcu, hou⟩ := SX'.row (m := m) (by rw [kws_length]; exact hm)
              simp only [Option.some.injEq, Addr.mk.injEq, and_true] at e
              subst e
              rw [kws_at key n i hm] at hou
              have hwd : Wd (nxt key n (kws key n m) m) := kwo_wd HKB.out (by omega) m
              obtain ⟨au, cu, rfl, _⟩ := hou.form
              rcases hou.bs with h | ⟨gu, rfl, _, h2, h3⟩
              · rw [hwd.1] at h; omega
              · exact ⟨gu, cu, by rw [hcu, hwd.1], h2, h3⟩)
            have HGW := hide hgw
            have HI4 := hide hie
            clear SX SX' hgw hie HKT HKL
            go_wp2_with fail
            go_loopg [14, 15] (n + 7) (fun gk u14 u15 wx => ∃ r : Nat, r + gk = n + 7 ∧ u15 = .int .i64 r ∧ Hid (WS W5.heap.size u14 (rowsL key n r) wx) ∧ Hid (Below W5.heap.size W5 wx))
            case atStart => exact ⟨0, by omega, rfl, WS.nil _ _, Below.refl _ _⟩
            case round =>
              obtain ⟨r, hrg, rfl, S14, B14⟩ := hrel
              cases gk with
              | zero =>
                obtain rfl : r = n + 7 := by omega
                have hge5 : ¬ ((n + 7 : Nat) : Int) < (n : Int) + 7 := by omega
                obtain ⟨a14, c14, rfl, hc14, _⟩ := S14.out.form
                have S' := S14.out
                rw [rowsL_length] at S' hc14 ⊢
                obtain ⟨rb, u1, rfl, _, _, _, _⟩ := S'.row (m := 0) (by rw [rowsL_length]; omega)
                have HKR := hide (key_rows HKB.out (by omega) S')
                have HBB := hide (BX.out.trans (B14.out.mono BX.out.size))
                clear S14 S' B14 HWD
                go_wp2_with fail
                go_ret2
                exact ⟨rb, c14, rfl, HKR.out, HBB.out⟩
              | succ g1 =>
                have hlt5 : (r : Int) < (n : Int) + 7 := by omega
                have hr6 : r ≤ n + 6 := by omega
                obtain ⟨W6, hW6⟩ : ∃ W, W = wr := ⟨_, rfl⟩
                rw [← hW6] at S14 B14 ⊢
                clear hW6
                go_wp2_with fail
                go_loopg [16, 17] 4 (fun gk u16 u17 wx => ∃ k : Nat, k + gk = 4 ∧ u17 = .int .i64 k ∧ Hid (OwnsB wx W6.heap.size u16 (pr16 key n r k)) ∧ Hid (Below W6.heap.size W6 wx))
                case atStart => exact ⟨0, by omega, rfl, OwnsB.nil _ _, Below.refl _ _⟩
                case round =>
                  obtain ⟨k, hkg, rfl, OK, BK⟩ := hrel
                  cases gk with
                  | zero =>
                    obtain rfl : k = 4 := by omega
                    have hge6 : ¬ ((4 : Nat) : Int) < 4 := by omega
                    obtain ⟨a16, c16, rfl, _, _, _⟩ := OK.out.form
                    rw [pr16_length HKB.out (by omega)] at OK ⊢
                    have SK := hide ((S14.out.stay BK.out).alloc (.cells #[.slice a16 (4 * 4) c16] 22))
                    have OK2 := hide (OK.out.low B14.out.size)
                    have OK3 := hide (World.ownsRow.alloc OK2.out (.cells #[.slice a16 (4 * 4) c16] 22) : OwnsB _ W5.heap.size _ _)
                    have BW := hide (B14.out.trans (BK.out.mono B14.out.size))
                    have BA := hide (BW.out.alloc BW.out.size (.cells #[.slice a16 (4 * 4) c16] 22))
                    have hba := BA.out.size
                    have hkl : (rowsL key n r).length ≤ 1000 := by rw [rowsL_length]; omega
                    have HNW := hide (rowsL_next key n r)
                    clear OK OK2 BK BW
                    go_wp2_with (refine wpList_pushS _ rfl (.tmp 197) (.tmp 199) rfl W5.heap.size u14 (rowsL key n r) (by rfl) SK.out wr.heap.size (.slice a16 (4 * 4) c16) (pr16 key n r 4) (by rfl) (heap_new _ _) OK3.out hkl hba ?_; intro v7 w7 h7 k7; have B7 := hide (WS.grow SK.out BA.out k7); have S7 : Hid (WS W5.heap.size v7 (rowsL key n (r + 1)) w7) := (HNW.out ▸ h7); clear h7 k7)
                    go_roundg g1
                    case measure => omega
                    case rel => exact ⟨r + 1, by omega, by go_num, S7, B7⟩
                  | succ g2 =>
                    have hlt6 : (k : Int) < 4 := by omega
                    obtain ⟨m, hm⟩ : ∃ m, m = 4 * r + k := ⟨_, rfl⟩
                    obtain ⟨r4, hr4⟩ : ∃ r4, r4 = 4 * r := ⟨_, rfl⟩
                    have v1 : (4 : Int) * (r : Int) = (r4 : Int) := by omega
                    have v2 : (r4 : Int) + (k : Int) = (m : Int) := by omega
                    have mi : m < i := by rw [HI4.out]; omega
                    have m0 : (0 : Int) ≤ (m : Int) := by omega
                    have m1 : (m : Int) < (i : Int) := by omega
                    obtain ⟨gu, cu, hcu, hgu, hbu⟩ := HWD.out m mi
                    have BW := hide (B14.out.trans (BK.out.mono B14.out.size))
                    have cx := (BW.out.cell (p := ⟨g, m, none⟩) HGW.out).trans hcu
                    have TX : Hid (TextAt wr (some ⟨gu, 0, none⟩) (kwo key n m)) := .inr ⟨gu, 0, rfl, Nat.lt_of_lt_of_le hgu BW.out.size, hbu.below BW.out hgu⟩
                    have HW4 := hide (kwo_wd HKB.out (show 1 ≤ n by omega) m).1
                    have HXY := hide (show pr16 key n r k ++ kwo key n m = pr16 key n r (k + 1) by rw [hm]; rfl)
                    have HLB := hide (show (pr16 key n r k).length + 4 ≤ 140737488355328 by rw [pr16_length HKB.out (by omega)]; omega)
                    have HBS := hide BK.out.size
                    clear hm hr4 hcu hbu hgu mi BW
                    go_wp2_with (refine wpList_appB _ rfl (.tmp 188) (.tmp 195) rfl W6.heap.size u16 (pr16 key n r k) (by rfl) OK.out (some ⟨gu, 0, none⟩) 4 cu (by rfl) (kwo key n m) (pr16 key n r (k + 1)) HXY.out HW4.out TX.out (fun e => by cases e) HLB.out HBS.out ?_; intro v1 w1 h1 k1; have O1 := hide h1; have B1 := hide (growB OK.out BK.out k1); clear h1 k1)
                    go_roundg g2
                    case measure => omega
                    case rel => exact ⟨k + 1, by omega, by go_num, O1, B1⟩
          · skip
            have hlt2 : (i : Int) < 4 * ((n : Int) + 7) := by omega
            obtain ⟨W0, hW0⟩ : ∃ W0, W0 = wr := ⟨_, rfl⟩
            rw [← hW0] at SX BX ⊢
            clear hW0
            have hsx := BX.out.size
            obtain ⟨a7, c7, rfl, hc7, hn7⟩ := SX.out.form
            rw [kws_length] at hc7 hn7 ⊢
            have SX' := SX.out
            rw [kws_length] at SX'
            obtain ⟨g, u, rfl, hgb, hgw, hcu, hou⟩ := SX'.row (m := i - 1) (by rw [kws_length]; omega)
            obtain ⟨g', u2, e', _, _, hcu2, hou2⟩ := SX'.row (m := i - n) (by rw [kws_length]; omega)
            obtain ⟨x, hx⟩ : ∃ x, x = (kws key n i).getD (i - 1) [] := ⟨_, rfl⟩
            obtain ⟨y, hy⟩ : ∃ y, y = (kws key n i).getD (i - n) [] := ⟨_, rfl⟩
            have hxw : Wd x := by rw [hx]; exact kws_wd HKB.out (by omega) i (by omega)
            have hyw : Wd y := by rw [hy]; exact kws_wd HKB.out (by omega) i (by omega)
            simp only [Option.some.injEq, Addr.mk.injEq, and_true] at e'
            subst e'
            rw [← hx] at hou
            rw [← hy] at hou2
            have HNW := hide (show kws key n i ++ [List.zipWith (· ^^^ ·) (trn n i x) y] = kws key n (i + 1) by rw [kws, nxt, if_neg (by omega), hx, hy])
            obtain ⟨au, cu, rfl, hcu3, hcu4, _⟩ := hou.form
            rw [hxw.1] at hcu hcu3
            obtain ⟨ay, cy, rfl, hcy3, hcy4, _⟩ := hou2.form
            rw [hyw.1] at hcu2 hcy3
            have HOU := hide hou
            have HOU2 := hide hou2
            have HXW := hide hxw
            have HYW := hide hyw
            have E0 := hide (OwnsB.empty W0 W0.heap.size (Nat.le_refl _))
            have BE := hide ((Below.refl _ W0).alloc (Nat.le_refl _) (.cells #[] 5) : Below W0.heap.size W0 _)
            have TX := hide (hou.text.below BE.out)
            rw [hxw.1] at HOU
            rw [hyw.1] at HOU2
            obtain ⟨i1, hi1⟩ : ∃ i1, i = i1 + 1 := ⟨i - 1, by omega⟩
            have s1 : (i : Int) - 1 = (i1 : Int) := by omega
            have s2 : ((i1 : Int)) < (i : Int) := by omega
            have s0 : (0 : Int) ≤ (i1 : Int) := by omega
            have hcc : (W0.alloc (.cells #[] 5)).cell? ⟨g, i1, none⟩ = some (.slice au 4 cu) := (BE.out.cell (p := ⟨g, i1, none⟩) hgw).trans (by rw [show i1 = i - 1 by omega]; exact hcu)
            have hau : au ≠ none := fun e => by rw [e] at HOU; rcases HOU.out.bs with h | ⟨_, e2, _⟩; (rw [HXW.out.1] at h; omega); cases e2
            clear hcu hou hou2 hx hy hi1 hxw hyw SX'
            obtain ⟨i2, hi2⟩ : ∃ i2, i = i2 + n := ⟨i - n, by omega⟩
            have s3 : (i : Int) - (n : Int) = (i2 : Int) := by omega
            have s3w : IntKind.i64.wrap ((i : Int) - (n : Int)) = (i2 : Int) := by rw [IntKind.wrap_i64]; omega
            have s3v : IntKind.i64.wrap (i2 : Int) = (i2 : Int) := by rw [IntKind.wrap_i64]; omega
            have s4 : (i2 : Int) < (i : Int) := by omega
            have s5 : (0 : Int) ≤ (i2 : Int) := by omega
            rw [show i - n = i2 by omega] at hcu2
            obtain ⟨gy, rfl, hgyw, hgys⟩ : ∃ gy, ay = some ⟨gy, 0, none⟩ ∧ gy < W0.heap.size ∧ Bs W0 gy 0 y := by
              rcases HOU2.out.bs with h | ⟨gy, e, _, h1, h2⟩
              · rw [HYW.out.1] at h; omega
              · exact ⟨gy, e, h1, h2⟩
            have hn0 : ¬ (n : Int) = 0 := by omega
            clear hi2
            go_upto_if 84 with (refine wpList_appB _ rfl (.tmp 74) (.tmp 79) rfl W0.heap.size (.slice (some ⟨W0.heap.size, 0, none⟩) 0 0) [] (by rfl) E0.out au 4 cu (by rfl) x x (by rfl) HXW.out.1 TX.out (fun e => absurd e hau) (by simp) (by simp) ?_; intro v10 w1 h1 k1; have O1 := hide h1; have B1 := hide (growB E0.out BE.out k1); clear h1 k1)
            go_cut [10] (fun v10 wx => Hid (TW W0 v10 (trn n i x) wx))
            case first =>
              by_cases hm0 : i % n = 0
              · have rm0 : (i : Int) % (n : Int) = 0 := by have : (i : Int) % (n : Int) = ((i % n : Nat) : Int) := by push_cast; rfl
                                                           rw [this, hm0]; rfl
                have b0 : ((i : Int) % (n : Int) == 0) = true := by rw [rm0]; rfl
                rw [b0, rm0]
                obtain ⟨D, hD⟩ : ∃ D, D = i / n := ⟨_, rfl⟩
                have rd : (i : Int) / (n : Int) = (D : Int) := by rw [hD]; push_cast; rfl
                have rdt : (i : Int).tdiv (n : Int) = (D : Int) := by rw [Int.tdiv_eq_ediv_of_nonneg (by omega)]; exact rd
                have hD1 : 1 ≤ D := by rw [hD]; exact Nat.div_pos hni (by omega)
                have hDl : D ≤ 60 := by rw [hD]; exact Nat.le_trans (Nat.div_le_self _ _) (by omega)
                have HTD := hide (show tr0 x (rcn (D - 1)) = trn n i x by rw [trn, if_pos hm0, hD])
                clear hD hm0
                go_wp2_with fail
                go_loopg [11, 12] (D - 1) (fun gk u11 u12 wx => ∃ k : Nat, k + gk = D - 1 ∧ u11 = .int .u8 (rcn k : Nat) ∧ u12 = .int .i64 ((k : Int) + 1) ∧ w1 = wx)
                case atStart => exact ⟨0, by omega, rfl, rfl, rfl⟩
                case round =>
                  obtain ⟨k, hkg, rfl, rfl, rfl⟩ := hrel
                  cases gk with
                  | zero =>
                    have hgeD : ¬ (k : Int) + 1 < (D : Int) := by omega
                    have HTE := hide (show tr0 x (rcn k) = trn n i x by rw [← HTD.out, show D - 1 = k by omega])
                    clear HTD
                    obtain ⟨at10, ct10, rfl, hct, _, _⟩ := O1.out.form
                    rw [HXW.out.1] at O1 hct ⊢
                    obtain ⟨gt, rfl, hgt, hgtn, hcs, _⟩ := O1.out.some_ (by rw [HXW.out.1]; omega)
                    have hgtw : gt < w1.heap.size := by
                      rcases Nat.lt_or_ge gt w1.heap.size with h | h
                      · exact h
                      · exact absurd (Array.getElem?_eq_none h) hgtn
                    have z0 := hcs 0 (by rw [HXW.out.1]; omega)
                    have z1 := hcs 1 (by rw [HXW.out.1]; omega)
                    have z2 := hcs 2 (by rw [HXW.out.1]; omega)
                    have z3 := hcs 3 (by rw [HXW.out.1]; omega)
                    have l0 := HXW.out.2.getD 0
                    have l1 := HXW.out.2.getD 1
                    have l2 := HXW.out.2.getD 2
                    have l3 := HXW.out.2.getD 3
                    have BW1 := hide (BX.out.trans (B1.out.mono hsx))
                    have HS8 := fun W (k : Below w1.heap.size w1 W) => hide (show W.cell? ⟨gt, 0, none⟩ = some (.int .u8 (x.getD 0 0 : Nat)) ∧ W.cell? ⟨gt, 1, none⟩ = some (.int .u8 (x.getD 1 0 : Nat)) ∧ W.cell? ⟨gt, 2, none⟩ = some (.int .u8 (x.getD 2 0 : Nat)) ∧ W.cell? ⟨gt, 3, none⟩ = some (.int .u8 (x.getD 3 0 : Nat)) ∧ W.cell? ⟨bb, bo + x.getD 0 0, none⟩ = some (.int .u8 (bx (x.getD 0 0) : Nat)) ∧ W.cell? ⟨bb, bo + x.getD 1 0, none⟩ = some (.int .u8 (bx (x.getD 1 0) : Nat)) ∧ W.cell? ⟨bb, bo + x.getD 2 0, none⟩ = some (.int .u8 (bx (x.getD 2 0) : Nat)) ∧ W.cell? ⟨bb, bo + x.getD 3 0, none⟩ = some (.int .u8 (bx (x.getD 3 0) : Nat)) from
                      have hbx := (HB.out.below BW1.out).below k
                      ⟨(k.cell (p := ⟨gt, 0, none⟩) hgtw).trans z0, (k.cell (p := ⟨gt, 1, none⟩) hgtw).trans z1, (k.cell (p := ⟨gt, 2, none⟩) hgtw).trans z2, (k.cell (p := ⟨gt, 3, none⟩) hgtw).trans z3, hbx.2 _ l0, hbx.2 _ l1, hbx.2 _ l2, hbx.2 _ l3⟩)
                    have m0' := bx_lt l0
                    have m1' := bx_lt l1
                    have m2' := bx_lt l2
                    have m3' := bx_lt l3
                    obtain ⟨CC, hCC⟩ : ∃ CC, CC = rcn k := ⟨_, rfl⟩
                    have hCl : CC < 256 := by rw [hCC]; exact rcn_lt k
                    rw [← hCC] at HTE ⊢
                    clear hCC
                    have HTT := hide (show tr0 x CC = [bx (x.getD 1 0) ^^^ CC, bx (x.getD 2 0), bx (x.getD 3 0), bx (x.getD 0 0)] from rfl)
                    have HTW2 : Hid (Wd (tr0 x CC)) := tr0_wd HXW.out.2 hCl
                    generalize bx (x.getD 0 0) = Y0 at HS8 m0' HTT 
                    generalize bx (x.getD 1 0) = Y1 at HS8 m1' HTT 
                    generalize bx (x.getD 2 0) = Y2 at HS8 m2' HTT 
                    generalize bx (x.getD 3 0) = Y3 at HS8 m3' HTT 
                    generalize x.getD 0 0 = X0 at HS8 l0
                    generalize x.getD 1 0 = X1 at HS8 l1
                    generalize x.getD 2 0 = X2 at HS8 l2
                    generalize x.getD 3 0 = X3 at HS8 l3
                    obtain ⟨hxz, hzl⟩ := xr m1' hCl
                    generalize Y1 ^^^ CC = Z1 at hxz hzl HTT
                    have hs1 := B1.out.size
                    have BN := hide ((Below.refl _ w1).alloc (Nat.le_refl _) (.cells #[.int .u8 (Z1 : Int), .int .u8 (Y2 : Int), .int .u8 (Y3 : Int), .int .u8 (Y0 : Int)] 5) : Below w1.heap.size w1 _)
                    have BNd := hide (show Below w1.heap.size w1 (w1.alloc (.cells #[.int .u8 (Z1 : Int), .int .u8 (Y2 : Int), .int .u8 (Y3 : Int), .int .u8 (Y0 : Int)] 5)).drew from ⟨BN.out.os, BN.out.tape, BN.out.output, BN.out.size, BN.out.block⟩)
                    have KS0 := hide (HS8 w1.drew (wr_drew w1)).out
                    have KS1 := hide (HS8 (w1.alloc (.cells #[.int .u8 (Z1 : Int), .int .u8 (Y2 : Int), .int .u8 (Y3 : Int), .int .u8 (Y0 : Int)] 5)).drew BNd.out).out
                    have O2 : Hid (OwnsB (w1.alloc (.cells #[.int .u8 (Z1 : Int), .int .u8 (Y2 : Int), .int .u8 (Y3 : Int), .int .u8 (Y0 : Int)] 5)).drew W0.heap.size (.slice (some ⟨w1.heap.size, 0, none⟩) 4 4) (tr0 x CC)) := by
                      rw [HTT.out]
                      exact OwnsB.stay (four_new w1 W0.heap.size hs1 Z1 Y2 Y3 Y0) (wr_drew _)
                    have B2 := hide (B1.out.trans (BNd.out.mono hs1))
                    have x0i : (0 : Int) ≤ (X0 : Int) ∧ (X0 : Int) < 256 := by omega
                    have x1i : (0 : Int) ≤ (X1 : Int) ∧ (X1 : Int) < 256 := by omega
                    have x2i : (0 : Int) ≤ (X2 : Int) ∧ (X2 : Int) < 256 := by omega
                    have x3i : (0 : Int) ≤ (X3 : Int) ∧ (X3 : Int) < 256 := by omega
                    obtain ⟨x0a, x0b⟩ := x0i
                    obtain ⟨x1a, x1b⟩ := x1i
                    obtain ⟨x2a, x2b⟩ := x2i
                    obtain ⟨x3a, x3b⟩ := x3i
                    clear z0 z1 z2 z3 hcs
                    go_upto_region 19 with fail
                    go_region_held3 (fun W => W.cell? ⟨gt, 0, none⟩ = some (.int .u8 (X0 : Int)) ∧ W.cell? ⟨gt, 1, none⟩ = some (.int .u8 (X1 : Int)) ∧ W.cell? ⟨gt, 2, none⟩ = some (.int .u8 (X2 : Int)) ∧ W.cell? ⟨gt, 3, none⟩ = some (.int .u8 (X3 : Int)) ∧ W.cell? ⟨bb, bo + X0, none⟩ = some (.int .u8 (Y0 : Int)) ∧ W.cell? ⟨bb, bo + X1, none⟩ = some (.int .u8 (Y1 : Int)) ∧ W.cell? ⟨bb, bo + X2, none⟩ = some (.int .u8 (Y2 : Int)) ∧ W.cell? ⟨bb, bo + X3, none⟩ = some (.int .u8 (Y3 : Int))) (first | exact KS0.out | exact KS1.out) (fail)
                    obtain ⟨g2, hg2e⟩ : ∃ g2, g2 = w1.heap.size := ⟨_, rfl⟩
                    have hg2 : W0.heap.size ≤ g2 := by omega
                    rw [← hg2e] at O2 ⊢
                    clear hg2e
                    generalize (w1.alloc (.cells #[.int .u8 (Z1 : Int), .int .u8 (Y2 : Int), .int .u8 (Y3 : Int), .int .u8 (Y0 : Int)] 5)).drew = w2 at O2 B2 ⊢
                    go_wp2_with fail
                    go_meet
                    exact ⟨g2, 4, rfl, hg2, by rw [← HTE.out]; exact O2.out, B2.out⟩
                  | succ g3 =>
                    have hltD : (k : Int) + 1 < (D : Int) := by omega
                    have HT := hide (times_c 2 (rcn k) w1 (by omega) (rcn_lt k))
                    have HRN : Hid (rcn (k + 1) = tm 2 (rcn k)) := rfl
                    have hrl := rcn_lt k
                    generalize tm 2 (rcn k) = TT at HT HRN
                    generalize rcn k = CK at HT hrl
                    go_wp2_with (go_at_call 37; refine HT.out.mono ?_; rintro e w9 ⟨rfl, hw⟩; rw [hw]; clear hw w9)
                    go_roundg g3
                    case measure => omega
                    case rel => exact ⟨k + 1, by omega, by rw [HRN.out], by go_num, rfl⟩
              · have rm0 : ¬ (i : Int) % (n : Int) = 0 := by
                  have : (i : Int) % (n : Int) = ((i % n : Nat) : Int) := by push_cast; rfl
                  rw [this]; omega
                by_cases h84 : n = 8 ∧ i % 8 = 4
                · have HTE := hide (show tr4 x = trn n i x by rw [trn, if_neg hm0, if_pos h84])
                  have b8 : ((n : Int) == 8) = true := by simp; omega
                  have b4 : ((i : Int) % 8 == 4) = true := by simp; omega
                  clear h84 hm0
                  obtain ⟨at10, ct10, rfl, hct, _, _⟩ := O1.out.form
                  rw [HXW.out.1] at O1 hct ⊢
                  obtain ⟨gt, rfl, hgt, hgtn, hcs, _⟩ := O1.out.some_ (by rw [HXW.out.1]; omega)
                  have hgtw : gt < w1.heap.size := by
                    rcases Nat.lt_or_ge gt w1.heap.size with h | h
                    · exact h
                    · exact absurd (Array.getElem?_eq_none h) hgtn
                  have z0 := hcs 0 (by rw [HXW.out.1]; omega)
                  have z1 := hcs 1 (by rw [HXW.out.1]; omega)
                  have z2 := hcs 2 (by rw [HXW.out.1]; omega)
                  have z3 := hcs 3 (by rw [HXW.out.1]; omega)
                  have l0 := HXW.out.2.getD 0
                  have l1 := HXW.out.2.getD 1
                  have l2 := HXW.out.2.getD 2
                  have l3 := HXW.out.2.getD 3
                  have BW1 := hide (BX.out.trans (B1.out.mono hsx))
                  have HS8 := fun W (k : Below w1.heap.size w1 W) => hide (show W.cell? ⟨gt, 0, none⟩ = some (.int .u8 (x.getD 0 0 : Nat)) ∧ W.cell? ⟨gt, 1, none⟩ = some (.int .u8 (x.getD 1 0 : Nat)) ∧ W.cell? ⟨gt, 2, none⟩ = some (.int .u8 (x.getD 2 0 : Nat)) ∧ W.cell? ⟨gt, 3, none⟩ = some (.int .u8 (x.getD 3 0 : Nat)) ∧ W.cell? ⟨bb, bo + x.getD 0 0, none⟩ = some (.int .u8 (bx (x.getD 0 0) : Nat)) ∧ W.cell? ⟨bb, bo + x.getD 1 0, none⟩ = some (.int .u8 (bx (x.getD 1 0) : Nat)) ∧ W.cell? ⟨bb, bo + x.getD 2 0, none⟩ = some (.int .u8 (bx (x.getD 2 0) : Nat)) ∧ W.cell? ⟨bb, bo + x.getD 3 0, none⟩ = some (.int .u8 (bx (x.getD 3 0) : Nat)) from
                    have hbx := (HB.out.below BW1.out).below k
                    ⟨(k.cell (p := ⟨gt, 0, none⟩) hgtw).trans z0, (k.cell (p := ⟨gt, 1, none⟩) hgtw).trans z1, (k.cell (p := ⟨gt, 2, none⟩) hgtw).trans z2, (k.cell (p := ⟨gt, 3, none⟩) hgtw).trans z3, hbx.2 _ l0, hbx.2 _ l1, hbx.2 _ l2, hbx.2 _ l3⟩)
                  have m0' := bx_lt l0
                  have m1' := bx_lt l1
                  have m2' := bx_lt l2
                  have m3' := bx_lt l3

                  have HTT := hide (show tr4 x = [bx (x.getD 0 0), bx (x.getD 1 0), bx (x.getD 2 0), bx (x.getD 3 0)] from rfl)
                  have HTW2 : Hid (Wd (tr4 x)) := tr4_wd HXW.out.2
                  generalize bx (x.getD 0 0) = Y0 at HS8 m0' HTT 
                  generalize bx (x.getD 1 0) = Y1 at HS8 m1' HTT 
                  generalize bx (x.getD 2 0) = Y2 at HS8 m2' HTT 
                  generalize bx (x.getD 3 0) = Y3 at HS8 m3' HTT 
                  generalize x.getD 0 0 = X0 at HS8 l0
                  generalize x.getD 1 0 = X1 at HS8 l1
                  generalize x.getD 2 0 = X2 at HS8 l2
                  generalize x.getD 3 0 = X3 at HS8 l3

                  have hs1 := B1.out.size
                  have BN := hide ((Below.refl _ w1).alloc (Nat.le_refl _) (.cells #[.int .u8 (Y0 : Int), .int .u8 (Y1 : Int), .int .u8 (Y2 : Int), .int .u8 (Y3 : Int)] 5) : Below w1.heap.size w1 _)
                  have BNd := hide (show Below w1.heap.size w1 (w1.alloc (.cells #[.int .u8 (Y0 : Int), .int .u8 (Y1 : Int), .int .u8 (Y2 : Int), .int .u8 (Y3 : Int)] 5)).drew from ⟨BN.out.os, BN.out.tape, BN.out.output, BN.out.size, BN.out.block⟩)
                  have KS0 := hide (HS8 w1.drew (wr_drew w1)).out
                  have KS1 := hide (HS8 (w1.alloc (.cells #[.int .u8 (Y0 : Int), .int .u8 (Y1 : Int), .int .u8 (Y2 : Int), .int .u8 (Y3 : Int)] 5)).drew BNd.out).out
                  have O2 : Hid (OwnsB (w1.alloc (.cells #[.int .u8 (Y0 : Int), .int .u8 (Y1 : Int), .int .u8 (Y2 : Int), .int .u8 (Y3 : Int)] 5)).drew W0.heap.size (.slice (some ⟨w1.heap.size, 0, none⟩) 4 4) (tr4 x)) := by
                    rw [HTT.out]
                    exact OwnsB.stay (four_new w1 W0.heap.size hs1 Y0 Y1 Y2 Y3) (wr_drew _)
                  have B2 := hide (B1.out.trans (BNd.out.mono hs1))
                  have x0i : (0 : Int) ≤ (X0 : Int) ∧ (X0 : Int) < 256 := by omega
                  have x1i : (0 : Int) ≤ (X1 : Int) ∧ (X1 : Int) < 256 := by omega
                  have x2i : (0 : Int) ≤ (X2 : Int) ∧ (X2 : Int) < 256 := by omega
                  have x3i : (0 : Int) ≤ (X3 : Int) ∧ (X3 : Int) < 256 := by omega
                  obtain ⟨x0a, x0b⟩ := x0i
                  obtain ⟨x1a, x1b⟩ := x1i
                  obtain ⟨x2a, x2b⟩ := x2i
                  obtain ⟨x3a, x3b⟩ := x3i
                  clear z0 z1 z2 z3 hcs
                  go_upto_region 21 with fail
                  go_region_held3 (fun W => W.cell? ⟨gt, 0, none⟩ = some (.int .u8 (X0 : Int)) ∧ W.cell? ⟨gt, 1, none⟩ = some (.int .u8 (X1 : Int)) ∧ W.cell? ⟨gt, 2, none⟩ = some (.int .u8 (X2 : Int)) ∧ W.cell? ⟨gt, 3, none⟩ = some (.int .u8 (X3 : Int)) ∧ W.cell? ⟨bb, bo + X0, none⟩ = some (.int .u8 (Y0 : Int)) ∧ W.cell? ⟨bb, bo + X1, none⟩ = some (.int .u8 (Y1 : Int)) ∧ W.cell? ⟨bb, bo + X2, none⟩ = some (.int .u8 (Y2 : Int)) ∧ W.cell? ⟨bb, bo + X3, none⟩ = some (.int .u8 (Y3 : Int))) (first | exact KS0.out | exact KS1.out) (fail)
                  obtain ⟨g2, hg2e⟩ : ∃ g2, g2 = w1.heap.size := ⟨_, rfl⟩
                  have hg2 : W0.heap.size ≤ g2 := by omega
                  rw [← hg2e] at O2 ⊢
                  clear hg2e
                  generalize (w1.alloc (.cells #[.int .u8 (Y0 : Int), .int .u8 (Y1 : Int), .int .u8 (Y2 : Int), .int .u8 (Y3 : Int)] 5)).drew = w2 at O2 B2 ⊢
                  go_wp2_with fail
                  go_meet
                  exact ⟨g2, 4, rfl, hg2, by rw [← HTE.out]; exact O2.out, B2.out⟩
                · have HTE := hide (show x = trn n i x by rw [trn, if_neg hm0, if_neg h84])
                  obtain ⟨a10, c10, rfl, hc10, _, _⟩ := O1.out.form
                  rw [HXW.out.1] at O1 hc10 ⊢
                  obtain ⟨g2, rfl, hg2, _, _, _⟩ := O1.out.some_ (by rw [HXW.out.1]; omega)
                  by_cases h8 : n = 8
                  · have b8 : ((n : Int) == 8) = true := by simp; omega
                    have b4 : ((i : Int) % 8 == 4) = false := by simp; omega
                    clear h84 hm0 h8
                    go_wp2_with fail
                    go_meet
                    exact ⟨g2, c10, rfl, hg2, by rw [← HTE.out]; exact O1.out, B1.out⟩
                  · have b8 : ((n : Int) == 8) = false := by simp; omega
                    clear h84 hm0 h8
                    go_wp2_with fail
                    go_meet
                    exact ⟨g2, c10, rfl, hg2, by rw [← HTE.out]; exact O1.out, B1.out⟩
            case rest =>
              obtain ⟨g2, c10, rfl, hgg, hO, hBz⟩ := hcut.out
              obtain ⟨g0, hg0⟩ : ∃ g0, gk = g0 + 1 := ⟨gk - 1, by omega⟩
              subst hg0
              obtain ⟨T, hT⟩ : ∃ T, T = trn n i x := ⟨_, rfl⟩
              have HTE := hide hT
              have HTW2 : Hid (Wd T) := by rw [hT]; exact trn_wd HXW.out
              have OZ : Hid (OwnsB wc W0.heap.size (.slice (some ⟨g2, 0, none⟩) 4 c10) T) := by rw [hT]; exact hO
              have BZ := hide hBz
              clear hT hO hBz hcut O1 B1
              have M0 : Hid (OwnsB wc W0.heap.size (.slice (some ⟨g2, 0, none⟩) 4 c10) (mixL T y 0)) := by rw [mixL_zero]; exact OZ
              have HTY := hide (show T.length = y.length by rw [HTW2.out.1, HYW.out.1])
              have HEND := hide ((mixL_end HTY.out (by rw [HTW2.out.1])).trans (congrArg (fun z => List.zipWith (· ^^^ ·) z y) HTE.out) : mixL T y 4 = List.zipWith (· ^^^ ·) (trn n i x) y)
              go_wp2_with fail
              go_loopg [13] 4 (fun gk u13 wx => ∃ k : Nat, k + gk = 4 ∧ u13 = .int .i64 k ∧ Hid (OwnsB wx W0.heap.size (.slice (some ⟨g2, 0, none⟩) 4 c10) (mixL T y k)) ∧ Hid (Below W0.heap.size W0 wx))
              case atStart => exact ⟨0, by omega, rfl, M0, BZ⟩
              case round =>
                obtain ⟨k, hkg, rfl, OK, BK⟩ := hrel
                clear M0
                cases gk with
                | zero =>
                  obtain rfl : k = 4 := by omega
                  have hge4 : ¬ ((4 : Nat) : Int) < 4 := by omega
                  have SK := hide ((SX.out.stay BK.out).alloc (.cells #[.slice (some ⟨g2, 0, none⟩) 4 c10] 22))
                  have OK2 : Hid (OwnsB wr w.heap.size (.slice (some ⟨g2, 0, none⟩) 4 c10) (List.zipWith (· ^^^ ·) (trn n i x) y)) := by rw [← HEND.out]; exact OK.out.low hsx
                  have OK3 := hide (World.ownsRow.alloc OK2.out (.cells #[.slice (some ⟨g2, 0, none⟩) 4 c10] 22) : OwnsB _ w.heap.size _ _)
                  have BW := hide (BX.out.trans (BK.out.mono hsx))
                  have BA := hide (BW.out.alloc BW.out.size (.cells #[.slice (some ⟨g2, 0, none⟩) 4 c10] 22))
                  have hba := BA.out.size
                  have hkl : (kws key n i).length ≤ 1000 := by rw [kws_length]; omega
                  rw [kws_length] at SK
                  go_wp2_with (refine wpList_pushS _ rfl (.tmp 174) (.tmp 176) rfl w.heap.size (.slice (some ⟨g, 0, none⟩) i c7) (kws key n i) (by rfl) SK.out wr.heap.size (.slice (some ⟨g2, 0, none⟩) 4 c10) (List.zipWith (· ^^^ ·) (trn n i x) y) (by rfl) (heap_new _ _) OK3.out hkl hba ?_; intro v7 w7 h7 k7; have B7 := hide (WS.grow SK.out BA.out k7); have S7 : Hid (WS w.heap.size v7 (kws key n (i + 1)) w7) := (HNW.out ▸ h7); clear h7 k7)
                  go_roundg g0
                  case measure => omega
                  case rel => exact ⟨i + 1, by omega, by omega, by omega, by omega, by go_num, S7, B7⟩
                | succ g4 =>
                  have hlt4 : (k : Int) < 4 := by omega
                  have hk4 : k < 4 := by omega
                  have BKd := hide (show Below W0.heap.size W0 wr.drew from ⟨BK.out.os, BK.out.tape, BK.out.output, BK.out.size, BK.out.block⟩)
                  have OKd := hide (OK.out.stay (wr_drew wr))
                  obtain ⟨gx, e, _, _, hcs, hfs⟩ := OKd.out.some_ (by rw [mixL_length HTY.out, HTW2.out.1]; omega)
                  simp only [Option.some.injEq, Addr.mk.injEq, and_true] at e
                  subst e
                  have ct := hcs k (by rw [mixL_length HTY.out, HTW2.out.1]; omega)
                  rw [mixL_at HTY.out (by rw [HTW2.out.1]; exact hk4)] at ct
                  have ft := hfs k
                  have cw := (BKd.out.cell (p := ⟨g, i2, none⟩) hgw).trans hcu2
                  have cy := (BKd.out.cell (p := ⟨gy, 0 + k, none⟩) hgyw).trans (hgys k (by rw [HYW.out.1]; exact hk4))
                  rw [Nat.zero_add] at cy
                  have hset := hide (OKd.out.set k (T.getD k 0 ^^^ y.getD k 0))
                  rw [mixL_set HTY.out (by rw [HTW2.out.1]; exact hk4)] at hset
                  have BS := hide (BKd.out.setCell (p := ⟨g2, k, none⟩) hgg (.int .u8 ((T.getD k 0 ^^^ y.getD k 0 : Nat) : Int)))
                  have q1 := HTW2.out.2.getD k
                  have q2 := HYW.out.2.getD k
                  have hxr := xor8 _ _ q1 q2
                  generalize T.getD k 0 ^^^ y.getD k 0 = Zv at hset BS hxr
                  generalize T.getD k 0 = Tv at ct q1 hxr
                  generalize y.getD k 0 = Yv at cy q2 hxr
                  have k0 : (0 : Int) ≤ (k : Int) := by omega
                  clear hcs hfs hk4 OK BK OKd BKd
                  go_upto_region 25 with fail
                  go_region_with (fail)
                  all_goals go_wp2_with fail
                  all_goals (go_roundg g4; (case measure => omega); (case rel => exact ⟨k + 1, by omega, by go_num, hset, BS⟩))
      | succ g1 =>
        have hlt : (i : Int) < (n : Int) := by omega
        have hsx := BX.out.size
        have HNX := hide (show kws key n i ++ [kwd key i] = kws key n (i + 1) by rw [kws, nxt, if_pos (by omega)])
        have hcell : ∀ W, Below w.heap.size w W → ∀ j, j < 4 → W.cell? ⟨kb, ko + (4 * i + j), none⟩ = some (.int .u8 (key.getD (4 * i + j) 0 : Nat)) := fun W k j hj =>
          (k.cell (p := ⟨kb, ko + (4 * i + j), none⟩) hkw).trans (HKT.out (4 * i + j) (by rw [HKL.out]; omega))
        obtain ⟨q, hq⟩ : ∃ q, q = 4 * i := ⟨_, rfl⟩
        have hq2 : (4 : Int) * (i : Int) = (q : Int) := by omega
        have q0 : (0 : Int) ≤ (q : Int) := by omega
        have w0 : IntKind.i64.wrap (4 * (i : Int)) = (q : Int) := by rw [IntKind.wrap_i64]; omega
        have w1 : IntKind.i64.wrap ((q : Int) + 1) = (q : Int) + 1 := by rw [IntKind.wrap_i64]; omega
        have w2 : IntKind.i64.wrap ((q : Int) + 2) = (q : Int) + 2 := by rw [IntKind.wrap_i64]; omega
        have w3 : IntKind.i64.wrap ((q : Int) + 3) = (q : Int) + 3 := by rw [IntKind.wrap_i64]; omega
        have w00 : IntKind.i64.wrap (q : Int) = (q : Int) := by rw [IntKind.wrap_i64]; omega
        have t1 : ((q : Int) + 1).toNat = q + 1 := by omega
        have t2 : ((q : Int) + 2).toNat = q + 2 := by omega
        have t3 : ((q : Int) + 3).toNat = q + 3 := by omega
        have p1 : (0 : Int) ≤ (q : Int) + 1 := by omega
        have p2 : (0 : Int) ≤ (q : Int) + 2 := by omega
        have p3 : (0 : Int) ≤ (q : Int) + 3 := by omega
        have b0 : (q : Int) < 4 * (n : Int) := by omega
        have b1 : (q : Int) + 1 < 4 * (n : Int) := by omega
        have b2 : (q : Int) + 2 < 4 * (n : Int) := by omega
        have b3 : (q : Int) + 3 < 4 * (n : Int) := by omega
        have c0 : (q : Int) < ((4 * n : Nat) : Int) := by omega
        have c1 : (q : Int) + 1 < ((4 * n : Nat) : Int) := by omega
        have c2 : (q : Int) + 2 < ((4 * n : Nat) : Int) := by omega
        have c3 : (q : Int) + 3 < ((4 * n : Nat) : Int) := by omega
        have HKW := hide (show kwd key i = [key.getD q 0, key.getD (q + 1) 0, key.getD (q + 2) 0, key.getD (q + 3) 0] by rw [hq]; rfl)
        rw [← hq] at hcell
        have HS := fun W (k : Below w.heap.size w W) => hide (show W.cell? ⟨kb, ko + q, none⟩ = some (.int .u8 (key.getD q 0 : Nat)) ∧ W.cell? ⟨kb, ko + (q + 1), none⟩ = some (.int .u8 (key.getD (q + 1) 0 : Nat)) ∧ W.cell? ⟨kb, ko + (q + 2), none⟩ = some (.int .u8 (key.getD (q + 2) 0 : Nat)) ∧ W.cell? ⟨kb, ko + (q + 3), none⟩ = some (.int .u8 (key.getD (q + 3) 0 : Nat)) from ⟨hcell W k 0 (by omega), hcell W k 1 (by omega), hcell W k 2 (by omega), hcell W k 3 (by omega)⟩)
        generalize key.getD q 0 = X0 at HKW HS
        generalize key.getD (q + 1) 0 = X1 at HKW HS
        generalize key.getD (q + 2) 0 = X2 at HKW HS
        generalize key.getD (q + 3) 0 = X3 at HKW HS
        rw [HKW.out] at HNX
        clear hcell hq HKW
        have BD := hide (show Below w.heap.size w wr.drew from ⟨BX.out.os, BX.out.tape, BX.out.output, BX.out.size, BX.out.block⟩)
        have KS0 := hide (HS wr.drew BD.out).out
        have hkl : (kws key n i).length ≤ 1000 := by rw [kws_length]; omega
        have BA1 := hide (BX.out.alloc hsx (.cells #[.int .u8 (X0 : Int), .int .u8 (X1 : Int), .int .u8 (X2 : Int), .int .u8 (X3 : Int)] 5))
        have BA2 := hide (BA1.out.alloc (by simp; omega) (.cells #[.slice (some ⟨wr.heap.size, 0, none⟩) 4 4] 22))
        have KS1 := hide (HS (wr.alloc (.cells #[.int .u8 (X0 : Int), .int .u8 (X1 : Int), .int .u8 (X2 : Int), .int .u8 (X3 : Int)] 5)).drew ⟨BA1.out.os, BA1.out.tape, BA1.out.output, BA1.out.size, BA1.out.block⟩).out
        have KS2 := hide (HS ((wr.alloc (.cells #[.int .u8 (X0 : Int), .int .u8 (X1 : Int), .int .u8 (X2 : Int), .int .u8 (X3 : Int)] 5)).alloc (.cells #[.slice (some ⟨wr.heap.size, 0, none⟩) 4 4] 22)).drew ⟨BA2.out.os, BA2.out.tape, BA2.out.output, BA2.out.size, BA2.out.block⟩).out
        have SA := hide (((SX.out.alloc (.cells #[.int .u8 (X0 : Int), .int .u8 (X1 : Int), .int .u8 (X2 : Int), .int .u8 (X3 : Int)] 5)).alloc (.cells #[.slice (some ⟨wr.heap.size, 0, none⟩) 4 4] 22)).stay (wr_drew _))
        have OA := hide (OwnsB.stay (World.ownsRow.alloc (four_new wr w.heap.size hsx X0 X1 X2 X3) (.cells #[.slice (some ⟨wr.heap.size, 0, none⟩) 4 4] 22)) (wr_drew _))
        have HA := hide (heap_new2 wr (.cells #[.int .u8 (X0 : Int), .int .u8 (X1 : Int), .int .u8 (X2 : Int), .int .u8 (X3 : Int)] 5) (.cells #[.slice (some ⟨wr.heap.size, 0, none⟩) 4 4] 22))
        have BA3 := hide (show Below w.heap.size w ((wr.alloc (.cells #[.int .u8 (X0 : Int), .int .u8 (X1 : Int), .int .u8 (X2 : Int), .int .u8 (X3 : Int)] 5)).alloc (.cells #[.slice (some ⟨wr.heap.size, 0, none⟩) 4 4] 22)).drew from ⟨BA2.out.os, BA2.out.tape, BA2.out.output, BA2.out.size, BA2.out.block⟩)
        have hsa := BA3.out.size
        go_upto_region 8 with fail
        go_region_held3 (fun W => W.cell? ⟨kb, ko + q, none⟩ = some (.int .u8 (X0 : Int)) ∧ W.cell? ⟨kb, ko + (q + 1), none⟩ = some (.int .u8 (X1 : Int)) ∧ W.cell? ⟨kb, ko + (q + 2), none⟩ = some (.int .u8 (X2 : Int)) ∧ W.cell? ⟨kb, ko + (q + 3), none⟩ = some (.int .u8 (X3 : Int))) (first | exact KS0.out | exact KS1.out | exact KS2.out | exact KS3.out | assumption) (first
          | (refine step_pushS _ (by rfl) (.tmp 39) (.tmp 64) (by rfl) w.heap.size u7 (kws key n i) (by rfl) SA.out (wr.heap.size + 1) (.slice (some ⟨wr.heap.size, 0, none⟩) 4 4) [X0, X1, X2, X3] (by rfl) HA.out OA.out hkl hsa ?_; intro v7 w7 h7 k7; have B7 := hide (WS.grow SA.out BA3.out k7); have S7 : Hid (WS w.heap.size v7 (kws key n (i + 1)) w7) := (HNX.out ▸ h7); have KS3 := hide (HS w7 B7.out).out; clear h7 k7))
        all_goals go_wp2_with fail
        all_goals (go_roundg g1; (case measure => omega); (case rel => exact ⟨i + 1, by omega, by go_num, S7, B7⟩))
end Go.Proofs.YtgamfpgejkhbcaaDoor.K
