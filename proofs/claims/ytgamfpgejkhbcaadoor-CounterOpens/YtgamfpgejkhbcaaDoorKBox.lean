/- The reference's Box, Boxes: contracts. -/
import Derived.Test.YtgamfpgejkhbcaaDoorKRef
namespace Go.Proofs.YtgamfpgejkhbcaaDoor.K
set_option maxRecDepth 100000
open Go Go.RowKit

theorem aff_lt (y n : Nat) : aff y n < 2 ^ n := by
  induction n with
  | zero => show 0 < 1; omega
  | succ n ih =>
    have h : ((((bit y n ^^^ bit y ((n + 4) % 8)) ^^^ bit y ((n + 5) % 8)) ^^^ bit y ((n + 6) % 8)) ^^^ bit y ((n + 7) % 8)) ^^^ bit 99 n < 2 :=
      @Nat.xor_lt_two_pow _ _ 1 (@Nat.xor_lt_two_pow _ _ 1 (@Nat.xor_lt_two_pow _ _ 1 (@Nat.xor_lt_two_pow _ _ 1 (@Nat.xor_lt_two_pow _ _ 1 (bit_lt _ _) (bit_lt _ _)) (bit_lt _ _)) (bit_lt _ _)) (bit_lt _ _)) (bit_lt _ _)
    rw [aff, Nat.pow_succ]
    generalize ((((bit y n ^^^ bit y ((n + 4) % 8)) ^^^ bit y ((n + 5) % 8)) ^^^ bit y ((n + 6) % 8)) ^^^ bit y ((n + 7) % 8)) ^^^ bit 99 n = z at h ⊢
    rcases (show z = 0 ∨ z = 1 by omega) with e | e <;> rw [e] <;> omega
theorem iv_lt (x n : Nat) (hn : n ≤ 256) : iv x n < 256 := by
  induction n with
  | zero => show 0 < 256; omega
  | succ n ih =>
    rw [iv]
    split
    · omega
    · exact ih (by omega)
theorem xorB {a b : Nat} (ha : a < 2) (hb : b < 2) : bits .xor .i64 (a : Int) (b : Int) = ((a ^^^ b : Nat) : Int) ∧ a ^^^ b < 2 := ⟨xorI a b (by omega) (by omega), @Nat.xor_lt_two_pow a b 1 ha hb⟩

set_option maxHeartbeats 4000000 in
theorem box_c (x : Nat) (w : World) (hx : x < 256) :
    Calls Tryd.prog 36 #[.int .u8 (x : Int)] w fun e w' => e = .returned (.int .u8 (bx x : Nat)) ∧ w' = w := by
  go_enter Tryd.func36, Tryd.ntmps36
  go_wp2_with fail
  go_loopg [3, 4] 255 (fun gk u3 u4 wx => ∃ k : Nat, k + gk = 256 ∧ u3 = .int .i64 (iv x k : Nat) ∧ u4 = .int .i64 k ∧ w = wx)
  case atStart => exact ⟨1, by omega, by rw [iv]; split <;> rfl, rfl, rfl⟩
  case round =>
    obtain ⟨k, hkg, rfl, rfl, rfl⟩ := hrel
    cases gk with
    | zero =>
      obtain rfl : k = 256 := by omega
      have hge : ¬ ((256 : Nat) : Int) < 256 := by omega
      have HBX := hide (show bx x = aff (iv x 256) 8 from rfl)
      have hy := iv_lt x 256 (by omega)
      generalize iv x 256 = y at HBX hy ⊢
      go_wp2_with fail
      go_loopg [5, 6] 8 (fun gk u5 u6 wx => ∃ i : Nat, i + gk = 8 ∧ u5 = .int .i64 (aff y i : Nat) ∧ u6 = .int .i64 i ∧ w = wx)
      case atStart => exact ⟨0, by omega, rfl, rfl, rfl⟩
      case round =>
        obtain ⟨i, hig, rfl, rfl, rfl⟩ := hrel
        cases gk with
        | zero =>
          obtain rfl : i = 8 := by omega
          have hge2 : ¬ ((8 : Nat) : Int) < 8 := by omega
          have ha := aff_lt y 8
          generalize aff y 8 = A at HBX ha ⊢
          have ha2 : A < 256 := ha
          go_wp2_with fail
          go_ret
          refine ⟨?_, rfl⟩
          rw [HBX.out]
          rfl
        | succ g1 =>
          have hlt : (i : Int) < 8 := by omega
          have hi8 : i < 8 := by omega
          have ha := aff_lt y i
          have hp : 2 ^ i ≤ 128 := Nat.pow_le_pow_right (by omega) (show i ≤ 7 by omega)
          have HNX := hide (show aff y (i + 1) = aff y i + (((((bit y i ^^^ bit y ((i + 4) % 8)) ^^^ bit y ((i + 5) % 8)) ^^^ bit y ((i + 6) % 8)) ^^^ bit y ((i + 7) % 8)) ^^^ bit 99 i) * 2 ^ i from rfl)
          obtain ⟨j4, h4⟩ : ∃ j4, j4 = (i + 4) % 8 := ⟨_, rfl⟩
          obtain ⟨j5, h5⟩ : ∃ j5, j5 = (i + 5) % 8 := ⟨_, rfl⟩
          obtain ⟨j6, h6⟩ : ∃ j6, j6 = (i + 6) % 8 := ⟨_, rfl⟩
          obtain ⟨j7, h7⟩ : ∃ j7, j7 = (i + 7) % 8 := ⟨_, rfl⟩
          have HB0 := hide (bit_c y i w (by omega) (by omega))
          have HB4 := hide (bit_c y j4 w (by omega) (by omega))
          have HB5 := hide (bit_c y j5 w (by omega) (by omega))
          have HB6 := hide (bit_c y j6 w (by omega) (by omega))
          have HB7 := hide (bit_c y j7 w (by omega) (by omega))
          have HB9 := hide (show Calls Tryd.prog 48 #[.int .i64 99, .int .i64 (i : Int)] w (fun e w' => e = .returned (.int .i64 (bit 99 i : Nat)) ∧ w' = w) from bit_c 99 i w (by omega) (by omega))
          have r4 : ((i : Int) + 4) % 8 = (j4 : Int) := by omega
          have r5 : ((i : Int) + 5) % 8 = (j5 : Int) := by omega
          have r6 : ((i : Int) + 6) % 8 = (j6 : Int) := by omega
          have r7 : ((i : Int) + 7) % 8 = (j7 : Int) := by omega
          rw [← h4, ← h5, ← h6, ← h7] at HNX
          have b0 := bit_lt y i
          have b4 := bit_lt y j4
          have b5 := bit_lt y j5
          have b6 := bit_lt y j6
          have b7 := bit_lt y j7
          have b9 := bit_lt 99 i
          clear h4 h5 h6 h7
          generalize bit y i = B0 at HNX HB0 b0
          generalize bit y j4 = B4 at HNX HB4 b4
          generalize bit y j5 = B5 at HNX HB5 b5
          generalize bit y j6 = B6 at HNX HB6 b6
          generalize bit y j7 = B7 at HNX HB7 b7
          generalize bit 99 i = B9 at HNX HB9 b9
          obtain ⟨x1, c1⟩ := xorB b0 b4
          generalize B0 ^^^ B4 = X1 at HNX x1 c1
          obtain ⟨x2, c2⟩ := xorB c1 b5
          generalize X1 ^^^ B5 = X2 at HNX x2 c2
          obtain ⟨x3, c3⟩ := xorB c2 b6
          generalize X2 ^^^ B6 = X3 at HNX x3 c3
          obtain ⟨x4, c4⟩ := xorB c3 b7
          generalize X3 ^^^ B7 = X4 at HNX x4 c4
          obtain ⟨x5, c5⟩ := xorB c4 b9
          generalize X4 ^^^ B9 = X5 at HNX x5 c5
          have hm : X5 * 2 ^ i < 65536 := by
            have : X5 * 2 ^ i ≤ 1 * 128 := Nat.mul_le_mul (by omega) hp
            omega
          have HSH := hide (shlI X5 i hm)
          have hal : aff y i + X5 * 2 ^ i < 65536 := by
            have : X5 * 2 ^ i ≤ 1 * 128 := Nat.mul_le_mul (by omega) hp
            omega
          have i0 : (0 : Int) ≤ (i : Int) := by omega
          generalize aff y i = A at HNX ha hal ⊢
          have HAD := hide (show wrap64 ((A : Int) + wrap64 ((X5 : Int) * 2 ^ i)) = ((A + X5 * 2 ^ i : Nat) : Int) by
            rw [HSH.out]
            unfold wrap64
            omega)
          clear hp ha hm
          go_upto_region 12 with (first
            | (go_at_call 48; refine HB0.out.mono ?_; rintro e w1 ⟨rfl, hw⟩; subst hw; clear HB0)
            | (go_at_call 48; refine HB4.out.mono ?_; rintro e w1 ⟨rfl, hw⟩; subst hw; clear HB4)
            | (go_at_call 48; refine HB5.out.mono ?_; rintro e w1 ⟨rfl, hw⟩; subst hw; clear HB5)
            | (go_at_call 48; refine HB6.out.mono ?_; rintro e w1 ⟨rfl, hw⟩; subst hw; clear HB6)
            | (go_at_call 48; refine HB7.out.mono ?_; rintro e w1 ⟨rfl, hw⟩; subst hw; clear HB7)
            | (go_at_call 48; refine HB9.out.mono ?_; rintro e w1 ⟨rfl, hw⟩; subst hw; clear HB9))
          go_wp2_with fail
          go_roundg g1
          case measure => omega
          case rel => exact ⟨i + 1, by omega, by rw [HNX.out, ← HAD.out], by go_num, rfl⟩
    | succ g1 =>
      have hlt : (k : Int) < 256 := by omega
      have HT := hide (times_c x k w hx (by omega))
      have k0 : (0 : Int) ≤ (k : Int) := by omega
      have kl : (k : Int) ≤ 255 := by omega
      by_cases e : tm x k = 1
      · have HNX := hide (show iv x (k + 1) = k by rw [iv, if_pos e])
        rw [e] at HT
        go_wp2_with (go_at_call 37; refine HT.out.mono ?_; rintro e w1 ⟨rfl, hw⟩; subst hw)
        go_roundg g1
        case measure => omega
        case rel => exact ⟨k + 1, by omega, by rw [HNX.out], by go_num, rfl⟩
      · have HNX := hide (show iv x (k + 1) = iv x k by rw [iv, if_neg e])
        have e2 : ¬ ((tm x k : Nat) : Int) = 1 := by omega
        generalize tm x k = t at HT e2
        generalize iv x k = v at HNX ⊢
        go_wp2_with (go_at_call 37; refine HT.out.mono ?_; rintro e w1 ⟨rfl, hw⟩; subst hw)
        go_roundg g1
        case measure => omega
        case rel => exact ⟨k + 1, by omega, by rw [HNX.out], by go_num, rfl⟩

def bxL (n : Nat) : List Nat := (List.range n).map bx
theorem bxL_push (n : Nat) : bxL n ++ [bx n] = bxL (n + 1) := by simp [bxL, List.range_succ]
theorem bxL_length (n : Nat) : (bxL n).length = n := by simp [bxL]
theorem bxL_at {n i : Nat} (h : i < n) : (bxL n).getD i 0 = bx i := by simp [bxL, h]
/-- What Boxes answers. -/
def BoxesOk (w : World) (e : Ending) (w' : World) : Prop := ∃ v, e = .returned v ∧ OwnsB w' w.heap.size v (bxL 256) ∧ Below w.heap.size w w'

set_option maxHeartbeats 4000000 in
theorem boxes_c (w : World) : Calls Tryd.prog 20 #[] w (BoxesOk w) := by
  go_enter Tryd.func20, Tryd.ntmps20
  go_wp2_with fail
  go_loopg [1, 2] 256 (fun gk u1 u2 wx => ∃ k : Nat, k + gk = 256 ∧ u2 = .int .i64 k ∧ Hid (OwnsB wx w.heap.size u1 (bxL k)) ∧ Hid (Below w.heap.size w wx))
  case atStart => exact ⟨0, by omega, rfl, OwnsB.nil _ _, Below.refl _ _⟩
  case round =>
    obtain ⟨k, hkg, rfl, OX, BX⟩ := hrel
    cases gk with
    | zero =>
      obtain rfl : k = 256 := by omega
      have hge : ¬ ((256 : Nat) : Int) < 256 := by omega
      go_wp2_with fail
      go_ret
      exact ⟨_, rfl, OX.out, BX.out⟩
    | succ g1 =>
      have hlt : (k : Int) < 256 := by omega
      have HB := hide (box_c k wr (by omega))
      have HP := hide (bxL_push k)
      have k0 : (0 : Int) ≤ (k : Int) := by omega
      have kl : (k : Int) ≤ 255 := by omega
      have kn : k ≤ 255 := by omega
      have hsx := BX.out.size
      obtain ⟨B, hB⟩ : ∃ B, B = bx k := ⟨_, rfl⟩
      rw [← hB] at HB HP
      clear hB
      go_wp2_with (first
        | (go_at_call 36; refine HB.out.mono ?_; rintro e w1 ⟨rfl, hw⟩; obtain rfl := hw; clear HB)
        | (refine wpList_appB _ rfl (.tmp 7) (.tmp 11) rfl w.heap.size u1 (bxL k) (by rfl) (World.ownsRow.alloc OX.out _) (some ⟨w1.heap.size, 0, none⟩) 1 1 (by rfl) [B] (bxL (k + 1)) HP.out rfl (one_byte w1 B) (fun e => by cases e) (by rw [bxL_length]; omega) (by simp; omega) ?_; intro v4 w2 h2 k2; have O2 := hide h2; have B2 := hide (growB (World.ownsRow.alloc OX.out _) (BX.out.alloc hsx _) k2); clear h2 k2))
      go_roundg g1
      case measure => omega
      case rel => exact ⟨k + 1, by omega, by go_num, O2, B2⟩
end Go.Proofs.YtgamfpgejkhbcaaDoor.K
