/- PROVED: what step, eightSteps and the reference's Step and Eight answer: so many steps of the number, the world as it was. -/
import Derived.Test.YtgdhdaaeklfkgaaDoorMath
import Derived.Test.YtgdhdaaeklfkgaaDoorRows
namespace Go.Proofs.YtgdhdaaeklfkgaaDoor
open Go Go.RowKit

theorem ret_int {k : IntKind} {a b : Int} (h : a = b) : Ending.returned (.int k a) = .returned (.int k b) := by rw [h]
theorem ofInt32 (a : Nat) (ha : a < 4294967296) : (BitVec.ofInt 32 (a : Int)).toNat = a := by
  rw [BitVec.ofInt_natCast, BitVec.toNat_ofNat]; exact Nat.mod_eq_of_lt (by omega)
theorem wrap32 (n : Int) : IntKind.u32.wrap n = n % 4294967296 := by simp [IntKind.wrap, IntKind.signed, IntKind.bits]
theorem xor32 (a b : Nat) (ha : a < 4294967296) (hb : b < 4294967296) : bits .xor .u32 (a : Int) (b : Int) = ((a ^^^ b : Nat) : Int) := by
  have hx := xor_lt ha hb
  show IntKind.u32.wrap ((BitVec.ofInt 32 (a : Int) ^^^ BitVec.ofInt 32 (b : Int)).toNat : Int) = _
  rw [BitVec.toNat_xor, ofInt32 a ha, ofInt32 b hb, wrap32]
  omega
theorem and32 (a b : Nat) (ha : a < 4294967296) (hb : b < 4294967296) : bits .and .u32 (a : Int) (b : Int) = ((a &&& b : Nat) : Int) := by
  have hx : a &&& b < 2 ^ 32 := Nat.and_lt_two_pow _ (by omega)
  show IntKind.u32.wrap ((BitVec.ofInt 32 (a : Int) &&& BitVec.ofInt 32 (b : Int)).toNat : Int) = _
  rw [BitVec.toNat_and, ofInt32 a ha, ofInt32 b hb, wrap32]
  omega
theorem and32_one (a : Nat) (ha : a < 4294967296) : bits .and .u32 (a : Int) 1 = (a : Int) % 2 := by
  have := and32 a 1 ha (by omega)
  rw [Nat.and_one_is_mod] at this
  rw [show (1 : Int) = ((1 : Nat) : Int) from rfl, this]
  omega
theorem st_odd (c : Nat) (hc : c < 4294967296) (h : c % 2 = 1) : bits .xor .u32 ((c : Int) / 2) 3988292384 = (st c : Nat) := by
  have := xor32 (c / 2) 3988292384 (by omega) (by omega)
  unfold st
  rw [if_pos h, ← this]
  rfl
theorem st_even (c : Nat) (h : c % 2 = 0) : ((c : Int) / 2) = (st c : Nat) := by
  unfold st
  rw [if_neg (by omega)]
  omega

theorem step_c (c : Nat) (hc : c < 4294967296) (w : World) :
    Calls Tryd.prog 17 #[.int .u32 (c : Int)] w fun e w' => e = .returned (.int .u32 (st c : Nat)) ∧ w' = w := by
  have h1 := and32_one c hc
  rcases Nat.mod_two_eq_zero_or_one c with hp | hp
  · have hp' : (c : Int) % 2 = 0 := by omega
    have hs := st_even c hp
    have H : Hid (((c : Int) / 2) = (st c : Nat)) := hs
    clear hs
    go_enter Tryd.func17, Tryd.ntmps17
    go_wp2
    go_ret
    exact ⟨ret_int H.out, rfl⟩
  · have hp' : (c : Int) % 2 = 1 := by omega
    have hs := st_odd c hc hp
    go_enter Tryd.func17, Tryd.ntmps17
    go_wp2
    go_ret
    exact ⟨rfl, rfl⟩

theorem stN_succ (n c : Nat) : stN (n + 1) c = st (stN n c) := stN_add n 1 c
theorem eight_c (c : Nat) (hc : c < 4294967296) (w : World) :
    Calls Tryd.prog 11 #[.int .u32 (c : Int)] w fun e w' => e = .returned (.int .u32 (e8 c : Nat)) ∧ w' = w := by
  go_enter Tryd.func11, Tryd.ntmps11
  go_wp2_with fail
  go_loop [0, 3] (fun x i => ∃ k : Nat, k ≤ 8 ∧ i = .int .i64 k ∧ x = .int .u32 (stN k c : Nat)) (fun _ i => 8 - (intOf i).toNat)
  case atStart => exact ⟨0, by omega, rfl, rfl⟩
  case round =>
    obtain ⟨k, hk, rfl, rfl⟩ := hrel
    by_cases hlt : (k : Int) < 8
    · go_wp2_with (go_at_call 17; refine (step_c _ (stN_lt k hc) _).mono ?_; rintro e w' ⟨rfl, rfl⟩)
      go_round
      case rel => exact ⟨k + 1, by omega, by go_num, by rw [stN_succ]⟩
      case measure => simp [intOf]; omega
    · go_wp2
      go_ret
      exact ⟨ret_int (by rw [show k = 8 by omega]; rfl), rfl⟩

theorem refStep_c (c : Nat) (hc : c < 4294967296) (w : World) :
    Calls Tryd.prog 21 #[.int .u32 (c : Int)] w fun e w' => e = .returned (.int .u32 (st c : Nat)) ∧ w' = w := by
  rcases Nat.mod_two_eq_zero_or_one c with hp | hp
  · have hp' : (c : Int) % 2 = 0 := by omega
    have hs := st_even c hp
    have H : Hid (((c : Int) / 2) = (st c : Nat)) := hs
    clear hs
    go_enter Tryd.func21, Tryd.ntmps21
    go_wp2
    go_ret
    exact ⟨ret_int H.out, rfl⟩
  · have hp' : (c : Int) % 2 = 1 := by omega
    have hs := st_odd c hc hp
    go_enter Tryd.func21, Tryd.ntmps21
    go_wp2
    go_ret
    exact ⟨rfl, rfl⟩

theorem refEight_c (c : Nat) (hc : c < 4294967296) (w : World) :
    Calls Tryd.prog 16 #[.int .u32 (c : Int)] w fun e w' => e = .returned (.int .u32 (e8 c : Nat)) ∧ w' = w := by
  go_enter Tryd.func16, Tryd.ntmps16
  go_wp2_with fail
  go_loop [0, 3] (fun x i => ∃ k : Nat, k ≤ 8 ∧ i = .int .i64 k ∧ x = .int .u32 (stN k c : Nat)) (fun _ i => 8 - (intOf i).toNat)
  case atStart => exact ⟨0, by omega, rfl, rfl⟩
  case round =>
    obtain ⟨k, hk, rfl, rfl⟩ := hrel
    by_cases hlt : (k : Int) < 8
    · go_wp2_with (go_at_call 21; refine (refStep_c _ (stN_lt k hc) _).mono ?_; rintro e w' ⟨rfl, rfl⟩)
      go_round
      case rel => exact ⟨k + 1, by omega, by go_num, by rw [stN_succ]⟩
      case measure => simp [intOf]; omega
    · go_wp2
      go_ret
      exact ⟨ret_int (by rw [show k = 8 by omega]; rfl), rfl⟩
end Go.Proofs.YtgdhdaaeklfkgaaDoor
