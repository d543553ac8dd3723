/- The program's twice, thrice, Times, Box: contracts. -/
import Derived.Test.YtgamfpgejkhbcaaDoorKKey
import Derived.BigQuiet
namespace Go.Proofs.YtgamfpgejkhbcaaDoor.K
set_option maxRecDepth 100000
open Go Go.RowKit

/-! Products, the other way round. -/
def pw (a : Nat) : Nat → Nat
  | 0 => a
  | k + 1 => tm 2 (pw a k)
def pr (a b : Nat) : Nat → Nat
  | 0 => 0
  | k + 1 => pr a b k ^^^ pw a k * bit b k
theorem pw_x (a b k : Nat) : pw (a ^^^ b) k = pw a k ^^^ pw b k := by
  induction k with
  | zero => rfl
  | succ k ih => rw [pw, pw, pw, ih, tm_r]
theorem pr_r (a b c k : Nat) : pr a (b ^^^ c) k = pr a b k ^^^ pr a c k := by
  induction k with
  | zero => simp [pr]
  | succ k ih => rw [pr, pr, pr, ih, mul_bit, xor4]
theorem pr_l (a b c k : Nat) : pr (a ^^^ b) c k = pr a c k ^^^ pr b c k := by
  induction k with
  | zero => simp [pr]
  | succ k ih =>
    rw [pr, pr, pr, ih, xor4, pw_x]
    congr 1
    rcases bit_01 c k with h | h <;> rw [h] <;> simp
theorem pr_all : all 8 (fun i => all 8 fun j => Nat.beq (pr (2 ^ i) (2 ^ j) 8) (tm (2 ^ i) (2 ^ j))) = true := by kernel_rfl
theorem pr_tm {a b : Nat} (ha : a < 256) (hb : b < 256) : pr a b 8 = tm a b := by
  refine lin_ext (f := fun x => pr x b 8) (g := fun x => tm x b) (fun x y => pr_l x y b 8) (lin_l b) (fun i hi => ?_) ha
  exact lin_ext (f := fun y => pr (2 ^ i) y 8) (g := fun y => tm (2 ^ i) y) (fun x y => pr_r _ x y 8) (lin_r _) (fun j hj => Nat.eq_of_beq_eq_true (all_of (all_of pr_all hi) hj)) hb
theorem pw_lt {a : Nat} (ha : a < 256) (k : Nat) : pw a k < 256 := by
  cases k with
  | zero => exact ha
  | succ k => exact tm_lt _ _
theorem pr_lt {a : Nat} (b : Nat) (ha : a < 256) (k : Nat) : pr a b k < 256 := by
  induction k with
  | zero => show 0 < 256; omega
  | succ k ih =>
    refine xor_lt8 ih ?_
    have := pw_lt ha k
    rcases bit_01 b k with e | e <;> rw [e] <;> omega
theorem pr_rest {a b k : Nat} (h : b / 2 ^ k = 0) (j : Nat) : pr a b (k + j) = pr a b k := by
  induction j with
  | zero => rfl
  | succ j ih =>
    have hb : bit b (k + j) = 0 := by
      unfold bit
      rw [Nat.pow_add, ← Nat.div_div_eq_div_mul, h]
      simp
    rw [← Nat.add_assoc, pr, ih, hb, Nat.mul_zero, Nat.xor_zero]
theorem tw_all : all 256 (fun a => Nat.beq (tm 2 a) ((a * 2 % 256) ^^^ (a / 128 * 27))) = true := by kernel_rfl
theorem tw_is {a : Nat} (ha : a < 256) : tm 2 a = (a * 2 % 256) ^^^ (a / 128 * 27) := Nat.eq_of_beq_eq_true (all_of tw_all ha)
theorem th_is (a : Nat) (ha : a < 256) : tm 3 a = tm 2 a ^^^ a := by
  rw [show (3 : Nat) = 2 ^^^ 1 from rfl, tm_l, tm_one ha]

theorem tw_bits {a : Nat} (ha : a < 256) : bits .xor .u8 ((a : Int) * 2 % 256) ((a : Int) / 128 * 27) = ((tm 2 a : Nat) : Int) := by
  rw [tw_is ha, ← xor8 _ _ (by omega) (by omega)]
  rfl
theorem twice_c (a : Nat) (w : World) (ha : a < 256) :
    Calls Tryd.prog 45 #[.int .u8 (a : Int)] w fun e w' => e = .returned (.int .u8 (tm 2 a : Nat)) ∧ w' = w := by
  have HX := hide (tw_bits ha)
  go_enter Tryd.func45, Tryd.ntmps45
  go_wp2_with fail
  go_ret
  exact ⟨by rw [HX.out]; rfl, rfl⟩
theorem thrice_c (a : Nat) (w : World) (ha : a < 256) :
    Calls Tryd.prog 53 #[.int .u8 (a : Int)] w fun e w' => e = .returned (.int .u8 (tm 3 a : Nat)) ∧ w' = w := by
  have HX := hide (show bits .xor .u8 ((tm 2 a : Nat) : Int) (a : Int) = ((tm 3 a : Nat) : Int) by rw [th_is a ha, xor8 _ _ (tm_lt _ _) ha])
  have HT := hide (twice_c a w ha)
  go_enter Tryd.func53, Tryd.ntmps53
  go_wp2_with (go_at_call 45; refine HT.out.mono ?_; rintro e w1 ⟨rfl, rfl⟩)
  go_ret
  exact ⟨by rw [HX.out]; rfl, rfl⟩
theorem andB1 (a : Nat) (ha : a < 256) : bits .and .u8 (a : Int) 1 = ((a % 2 : Nat) : Int) := by
  show IntKind.u8.wrap ((BitVec.ofInt 8 (a : Int) &&& BitVec.ofInt 8 (1 : Int)).toNat : Int) = _
  rw [BitVec.toNat_and, ofInt8 a ha, show (BitVec.ofInt 8 (1 : Int)).toNat = 1 from rfl, Nat.and_one_is_mod, wrap8']
  omega
set_option maxHeartbeats 2000000 in
theorem box_bits {x : Nat} (hx : x < 256) : bits .and .u8 (x : Int) 127 = ((x % 128 : Nat) : Int) := by
  show IntKind.u8.wrap ((BitVec.ofInt 8 (x : Int) &&& BitVec.ofInt 8 (127 : Int)).toNat : Int) = _
  rw [BitVec.toNat_and, ofInt8 x hx, show (BitVec.ofInt 8 (127 : Int)).toNat = 2 ^ 7 - 1 from rfl, Nat.and_two_pow_sub_one_eq_mod, wrap8']
  omega
theorem and_all {x : Nat} (hx : x < 256) : bits .and .u8 (x : Int) 255 = (x : Int) := by
  show IntKind.u8.wrap ((BitVec.ofInt 8 (x : Int) &&& BitVec.ofInt 8 (255 : Int)).toNat : Int) = _
  rw [BitVec.toNat_and, ofInt8 x hx, show (BitVec.ofInt 8 (255 : Int)).toNat = 2 ^ 8 - 1 from rfl, Nat.and_two_pow_sub_one_eq_mod, wrap8']
  omega
theorem and_none {x : Nat} (hx : x < 256) : bits .and .u8 (x : Int) 0 = ((0 : Nat) : Int) := by
  show IntKind.u8.wrap ((BitVec.ofInt 8 (x : Int) &&& BitVec.ofInt 8 (0 : Int)).toNat : Int) = _
  rw [BitVec.toNat_and, ofInt8 x hx, show (BitVec.ofInt 8 (0 : Int)).toNat = 0 from rfl, Nat.and_zero, wrap8']
  rfl
/-- Which half it is. -/
theorem box_pick {x l h : Nat} (hx : x < 256) (hl : l < 256) (hh : h < 256) : bits .xor .u8 (l : Int) (bits .and .u8 (bits .xor .u8 (l : Int) (h : Int)) (-((x : Int) / 128) % 256)) = ((if x < 128 then l else h : Nat) : Int) := by
  rw [xor8 l h hl hh]
  by_cases e : x < 128
  · rw [show -((x : Int) / 128) % 256 = 0 by omega, and_none (xor_lt8 hl hh), xor8 _ _ hl (by omega), if_pos e, Nat.xor_zero]
  · rw [show -((x : Int) / 128) % 256 = 255 by omega, and_all (xor_lt8 hl hh), xor8 _ _ hl (xor_lt8 hl hh), if_neg e, ← Nat.xor_assoc, Nat.xor_self, Nat.zero_xor]
/-- The two tables, as the program's text lays them. -/
def Tab (w : World) : Prop := (∀ i, i < 128 → w.cell? ⟨0, i, none⟩ = some (.int .u8 (bx i : Nat))) ∧ ∀ i, i < 128 → w.cell? ⟨1, i, none⟩ = some (.int .u8 (bx (128 + i) : Nat))
theorem Tab.pos {w : World} (h : Tab w) : 1 < w.heap.size := lt_of_cell (h.2 0 (by decide))
theorem Tab.below {B : Nat} {w w' : World} (h : Tab w) (hB : 1 < B) (k : Below B w w') : Tab w' := ⟨fun i hi => (k.cell (p := ⟨0, i, none⟩) (by show 0 < B; omega)).trans (h.1 i hi), fun i hi => (k.cell (p := ⟨1, i, none⟩) hB).trans (h.2 i hi)⟩
theorem Tab.stay {w w' : World} (h : Tab w) (k : Below w.heap.size w w') : Tab w' := h.below h.pos k
theorem below_drewN (w : World) (n : Nat) : Below w.heap.size w (w.drewN n) := ⟨rfl, rfl, rfl, Nat.le_refl _, fun _ _ => rfl⟩
theorem box_p (x : Nat) (w : World) (hx : x < 256) (hT : Tab w) :
    Calls Tryd.prog 47 #[.int .u8 (x : Int)] w fun e w' => e = .returned (.int .u8 (bx x : Nat)) ∧ Below w.heap.size w w' := by
  have c0 := hT.1 (x % 128) (by omega)
  have c1 := hT.2 (x % 128) (by omega)
  have hb := box_bits hx
  have m0 : (0 : Int) ≤ ((x % 128 : Nat) : Int) := by omega
  have m1 : ((x % 128 : Nat) : Int) < 128 := by omega
  have HP := hide (box_pick hx (bx_lt (show x % 128 < 256 by omega)) (bx_lt (show 128 + x % 128 < 256 by omega)))
  have HQ := hide (show (if x < 128 then bx (x % 128) else bx (128 + x % 128)) = bx x by
    split
    · rw [Nat.mod_eq_of_lt (by assumption)]
    · rw [show 128 + x % 128 = x by omega])
  rw [HQ.out] at HP
  generalize x % 128 = m at *
  clear hT
  go_enter Tryd.func47, Tryd.ntmps47
  go_upto_region 1 with fail
  go_quiet (fail)
  go_wp2_with fail
  go_ret
  exact ⟨by rw [HP.out]; rfl, below_drewN _ _⟩
end Go.Proofs.YtgamfpgejkhbcaaDoor.K
