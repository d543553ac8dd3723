/- The reference's bit, Times, Box: contracts. -/
import Derived.Test.YtgamfpgejkhbcaaDoorKBase
import Derived.Test.YtgamfpgejkhbcaaDoorKBlk
namespace Go.Proofs.YtgamfpgejkhbcaaDoor.K
set_option maxRecDepth 100000
open Go Go.RowKit

theorem ofInt64 (a : Nat) (ha : a < 65536) : (BitVec.ofInt 64 (a : Int)).toNat = a := by
  rw [BitVec.ofInt_natCast, BitVec.toNat_ofNat]; exact Nat.mod_eq_of_lt (by omega)
theorem xorI_lt {a b : Nat} (ha : a < 65536) (hb : b < 65536) : a ^^^ b < 65536 := @Nat.xor_lt_two_pow a b 16 ha hb
theorem xorI (a b : Nat) (ha : a < 65536) (hb : b < 65536) : bits .xor .i64 (a : Int) (b : Int) = ((a ^^^ b : Nat) : Int) := by
  have hx := xorI_lt ha hb
  show IntKind.i64.wrap ((BitVec.ofInt 64 (a : Int) ^^^ BitVec.ofInt 64 (b : Int)).toNat : Int) = _
  rw [BitVec.toNat_xor, ofInt64 a ha, ofInt64 b hb, IntKind.wrap_i64]
  omega
theorem andI1 (a : Nat) (ha : a < 65536) : bits .and .i64 (a : Int) 1 = ((a % 2 : Nat) : Int) := by
  show IntKind.i64.wrap ((BitVec.ofInt 64 (a : Int) &&& BitVec.ofInt 64 (1 : Int)).toNat : Int) = _
  rw [BitVec.toNat_and, ofInt64 a ha, show (BitVec.ofInt 64 (1 : Int)).toNat = 1 from rfl, Nat.and_one_is_mod, IntKind.wrap_i64]
  omega
theorem shlI (a i : Nat) (h : a * 2 ^ i < 65536) : wrap64 ((a : Int) * 2 ^ i) = ((a * 2 ^ i : Nat) : Int) := by
  have e : (a : Int) * 2 ^ i = ((a * 2 ^ i : Nat) : Int) := by push_cast; rfl
  rw [e]
  unfold wrap64
  omega
theorem bit_lt (x i : Nat) : bit x i < 2 := Nat.mod_lt _ (by omega)
theorem bit_c (x i : Nat) (w : World) (hx : x < 65536) (hi : i < 16) :
    Calls Tryd.prog 48 #[.int .i64 (x : Int), .int .i64 (i : Int)] w fun e w' => e = .returned (.int .i64 (bit x i : Nat)) ∧ w' = w := by
  have hi' : (i : Int) < 16 := by omega
  have i0 : (0 : Int) ≤ (i : Int) := by omega
  have hd : x / 2 ^ i < 65536 := Nat.lt_of_le_of_lt (Nat.div_le_self _ _) hx
  have hb := andI1 (x / 2 ^ i) hd
  have hc : (x : Int) / 2 ^ i = ((x / 2 ^ i : Nat) : Int) := by push_cast; rfl
  have HB := hide hb
  have HC := hide hc
  clear hb hc hd
  go_enter Tryd.func48, Tryd.ntmps48
  go_wp2_with fail
  go_ret
  refine ⟨?_, rfl⟩
  show Ending.returned (.int .i64 (bits .and .i64 ((x : Int) / 2 ^ i) 1)) = _
  rw [HC.out, HB.out]
  rfl
theorem tmP_lt {a : Nat} (b : Nat) (ha : a < 256) (n : Nat) (hn : n ≤ 8) : tmP a b n < 65536 := by
  induction n with
  | zero => show 0 < 65536; omega
  | succ n ih =>
    refine xorI_lt (ih (by omega)) ?_
    have h1 : 2 ^ n ≤ 128 := Nat.pow_le_pow_right (by omega) (show n ≤ 7 by omega)
    have h2 : a * 2 ^ n ≤ 255 * 128 := Nat.mul_le_mul (by omega) h1
    rcases bit_01 b n with e | e <;> rw [e] <;> omega
theorem tmR_lt {p : Nat} (hp : p < 65536) (n : Nat) (hn : n ≤ 7) : tmR p n < 65536 := by
  induction n with
  | zero => exact hp
  | succ n ih =>
    refine xorI_lt (ih (by omega)) ?_
    have h1 : 2 ^ (6 - n) ≤ 64 := Nat.pow_le_pow_right (by omega) (show 6 - n ≤ 6 by omega)
    rcases bit_01 (tmR p n) (14 - n) with e | e <;> rw [e] <;> omega

set_option maxHeartbeats 4000000 in
theorem times_c (a b : Nat) (w : World) (ha : a < 256) (hb : b < 256) :
    Calls Tryd.prog 37 #[.int .u8 (a : Int), .int .u8 (b : Int)] w fun e w' => e = .returned (.int .u8 (tm a b : Nat)) ∧ w' = w := by
  go_enter Tryd.func37, Tryd.ntmps37
  go_wp2_with fail
  go_loopg [5, 6] 8 (fun gk u5 u6 wx => ∃ i : Nat, i + gk = 8 ∧ u5 = .int .i64 (tmP a b i : Nat) ∧ u6 = .int .i64 i ∧ w = wx)
  case atStart => exact ⟨0, by omega, rfl, rfl, rfl⟩
  case round =>
    obtain ⟨i, hig, rfl, rfl, rfl⟩ := hrel
    cases gk with
    | zero =>
      obtain rfl : i = 8 := by omega
      have hge : ¬ ((8 : Nat) : Int) < 8 := by omega
      have hp := tmP_lt b ha 8 (by omega)
      have HT : Hid (tm a b = tmR (tmP a b 8) 7 % 256) := rfl
      generalize tmP a b 8 = p at hp HT ⊢
      go_wp2_with fail
      go_loopg [5, 7] 7 (fun gk u5 u7 wx => ∃ k : Nat, k + gk = 7 ∧ u5 = .int .i64 (tmR p k : Nat) ∧ u7 = .int .i64 (14 - (k : Int)) ∧ w = wx)
      case atStart => exact ⟨0, by omega, rfl, rfl, rfl⟩
      case round =>
        obtain ⟨k, hkg, rfl, rfl, rfl⟩ := hrel
        cases gk with
        | zero =>
          obtain rfl : k = 7 := by omega
          have hge2 : ¬ (8 : Int) ≤ 14 - ((7 : Nat) : Int) := by omega
          have hlt2 : (14 : Int) - ((7 : Nat) : Int) < 8 := by omega
          generalize tmR p 7 = q at HT ⊢
          go_wp2_with fail
          go_ret
          refine ⟨?_, rfl⟩
          rw [HT.out]
          rfl
        | succ g1 =>
          have hq := tmR_lt hp k (by omega)
          obtain ⟨d, hd⟩ : ∃ d : Nat, 14 - (k : Int) = (d : Int) + 8 := ⟨6 - k, by omega⟩
          have hd8 : (8 : Int) ≤ (d : Int) + 8 := by omega
          have HB := hide (show Calls Tryd.prog 48 #[.int .i64 (tmR p k : Nat), .int .i64 ((d : Int) + 8)] w (fun e w' => e = .returned (.int .i64 (bit (tmR p k) (d + 8) : Nat)) ∧ w' = w) from by
            have := bit_c (tmR p k) (d + 8) w hq (by omega)
            push_cast at this
            exact this)
          have HNX := hide (show tmR p (k + 1) = tmR p k ^^^ (283 * 2 ^ d * bit (tmR p k) (d + 8)) by rw [tmR, show 14 - k = d + 8 by omega, show 6 - k = d by omega])
          have HD := hide (show (d : Int) + 8 - 1 = 14 - ((k + 1 : Nat) : Int) by omega)
          have hdl : d ≤ 6 := by omega
          rw [hd]
          clear hd
          by_cases e : bit (tmR p k) (d + 8) = 1
          · have hpw : 283 * 2 ^ d < 65536 := by
              have h1 : 2 ^ d ≤ 64 := Nat.pow_le_pow_right (by omega) hdl
              omega
            rw [e, Nat.mul_one] at HNX
            rw [e] at HB
            have d0 : (0 : Int) ≤ (d : Int) := by omega
            have d7 : (d : Int) ≤ 6 := by omega
            have HX := hide (show bits .xor .i64 ((tmR p k : Nat) : Int) (wrap64 (283 * 2 ^ d)) = ((tmR p k ^^^ 283 * 2 ^ d : Nat) : Int) by
              rw [show (283 : Int) = ((283 : Nat) : Int) from rfl, shlI 283 d hpw]
              exact xorI _ _ hq hpw)
            generalize tmR p k = q at hq HX HNX HB ⊢
            go_wp2_with (go_at_call 48; refine HB.out.mono ?_; rintro e w1 ⟨rfl, rfl⟩)
            go_roundg g1
            case measure => omega
            case rel => exact ⟨k + 1, by omega, by rw [HNX.out, ← HX.out], by rw [← HD.out], rfl⟩
          · have e0 : bit (tmR p k) (d + 8) = 0 := by rcases bit_01 (tmR p k) (d + 8) with h | h; exact h; exact absurd h e
            rw [e0, Nat.mul_zero, Nat.xor_zero] at HNX
            rw [e0] at HB
            generalize tmR p k = q at hq HNX HB ⊢
            go_wp2_with (go_at_call 48; refine HB.out.mono ?_; rintro e w1 ⟨rfl, rfl⟩)
            go_roundg g1
            case measure => omega
            case rel => exact ⟨k + 1, by omega, by rw [HNX.out], by rw [← HD.out], rfl⟩
    | succ g1 =>
      have hlt : (i : Int) < 8 := by omega
      have HB := hide (bit_c b i w (by omega) (by omega))
      have hp := tmP_lt b ha i (by omega)
      have HNX := hide (show tmP a b (i + 1) = tmP a b i ^^^ (a * 2 ^ i * bit b i) from rfl)
      by_cases e : bit b i = 1
      · have hpw : a * 2 ^ i < 65536 := by
          have h1 : 2 ^ i ≤ 128 := Nat.pow_le_pow_right (by omega) (show i ≤ 7 by omega)
          have h2 : a * 2 ^ i ≤ 255 * 128 := Nat.mul_le_mul (by omega) h1
          omega
        have HX := hide (show bits .xor .i64 ((tmP a b i : Nat) : Int) (wrap64 ((a : Int) * 2 ^ i)) = ((tmP a b i ^^^ a * 2 ^ i : Nat) : Int) by
          rw [shlI a i hpw]
          exact xorI _ _ hp hpw)
        rw [e, Nat.mul_one] at HNX
        rw [e] at HB
        have i0 : (0 : Int) ≤ (i : Int) := by omega
        generalize tmP a b i = P at hp HX HNX HB ⊢
        go_wp2_with (go_at_call 48; refine HB.out.mono ?_; rintro e w1 ⟨rfl, rfl⟩)
        go_roundg g1
        case measure => omega
        case rel => exact ⟨i + 1, by omega, by rw [HNX.out, ← HX.out], by go_num, rfl⟩
      · have e0 : bit b i = 0 := by rcases bit_01 b i with h | h; exact h; exact absurd h e
        rw [e0, Nat.mul_zero, Nat.xor_zero] at HNX
        rw [e0] at HB
        have i0 : (0 : Int) ≤ (i : Int) := by omega
        generalize tmP a b i = P at hp HNX HB ⊢
        go_wp2_with (go_at_call 48; refine HB.out.mono ?_; rintro e w1 ⟨rfl, rfl⟩)
        go_roundg g1
        case measure => omega
        case rel => exact ⟨i + 1, by omega, by rw [HNX.out], by go_num, rfl⟩
end Go.Proofs.YtgamfpgejkhbcaaDoor.K
