/- Products of bytes, and what bytes become. No Go text in sight. -/
import Derived.KernelRfl
namespace Go.Proofs.YtgamfpgejkhbcaaDoor.K
set_option maxRecDepth 100000

/-! Products of bytes. -/
def bit (x i : Nat) : Nat := x / 2 ^ i % 2
theorem bit_eq (x i : Nat) : bit x i = (x.testBit i).toNat := by
  rw [bit, Nat.testBit, Nat.shiftRight_eq_div_pow, Nat.and_comm, Nat.and_one_is_mod]
  have h : x / 2 ^ i % 2 < 2 := Nat.mod_lt _ (by omega)
  rcases (show x / 2 ^ i % 2 = 0 ∨ x / 2 ^ i % 2 = 1 by omega) with e | e <;> rw [e] <;> rfl
theorem bit_01 (x i : Nat) : bit x i = 0 ∨ bit x i = 1 := by
  have h : x / 2 ^ i % 2 < 2 := Nat.mod_lt _ (by omega)
  unfold bit; omega
theorem bit_xor (x y i : Nat) : bit (x ^^^ y) i = bit x i ^^^ bit y i := by
  rw [bit_eq, bit_eq, bit_eq, Nat.testBit_xor]
  cases x.testBit i <;> cases y.testBit i <;> rfl
theorem mul_bit (m x y i : Nat) : m * bit (x ^^^ y) i = (m * bit x i) ^^^ (m * bit y i) := by
  rw [bit_xor]
  rcases bit_01 x i with h | h <;> rcases bit_01 y i with k | k <;> rw [h, k] <;> simp
theorem xor4 (a b c d : Nat) : (a ^^^ b) ^^^ (c ^^^ d) = (a ^^^ c) ^^^ (b ^^^ d) := by
  rw [Nat.xor_assoc, Nat.xor_assoc, ← Nat.xor_assoc b, Nat.xor_comm b c, Nat.xor_assoc c]
theorem pow_xor (a b i : Nat) : (a ^^^ b) * 2 ^ i = (a * 2 ^ i) ^^^ (b * 2 ^ i) := by
  rw [← Nat.shiftLeft_eq, ← Nat.shiftLeft_eq, ← Nat.shiftLeft_eq, Nat.shiftLeft_xor_distrib]
/-- The product, by the first i bits of the second. -/
def tmP (a b : Nat) : Nat → Nat
  | 0 => 0
  | i + 1 => tmP a b i ^^^ (a * 2 ^ i * bit b i)
/-- .. and what it is modulo the polynomial, k bits done. -/
def tmR (p : Nat) : Nat → Nat
  | 0 => p
  | k + 1 => tmR p k ^^^ (283 * 2 ^ (6 - k) * bit (tmR p k) (14 - k))
def tm (a b : Nat) : Nat := tmR (tmP a b 8) 7 % 256
theorem tm_lt (a b : Nat) : tm a b < 256 := Nat.mod_lt _ (by omega)
theorem tmP_r (a b c n : Nat) : tmP a (b ^^^ c) n = tmP a b n ^^^ tmP a c n := by
  induction n with
  | zero => simp [tmP]
  | succ n ih => rw [tmP, tmP, tmP, ih, mul_bit, xor4]
theorem tmP_l (a b c n : Nat) : tmP (a ^^^ b) c n = tmP a c n ^^^ tmP b c n := by
  induction n with
  | zero => simp [tmP]
  | succ n ih =>
    rw [tmP, tmP, tmP, ih, xor4, pow_xor]
    congr 1
    rcases bit_01 c n with h | h <;> rw [h] <;> simp
theorem tmR_x (p q n : Nat) : tmR (p ^^^ q) n = tmR p n ^^^ tmR q n := by
  induction n with
  | zero => rfl
  | succ n ih => rw [tmR, tmR, tmR, ih, mul_bit, xor4]
theorem mod_xor (p q : Nat) : (p ^^^ q) % 256 = (p % 256) ^^^ (q % 256) := @Nat.xor_mod_two_pow p q 8
theorem tm_r (a b c : Nat) : tm a (b ^^^ c) = tm a b ^^^ tm a c := by rw [tm, tm, tm, tmP_r, tmR_x, mod_xor]
theorem tm_l (a b c : Nat) : tm (a ^^^ b) c = tm a c ^^^ tm b c := by rw [tm, tm, tm, tmP_l, tmR_x, mod_xor]
/-- A function that spreads over xor is told by what it does to single bits. -/
def Lin (f : Nat → Nat) : Prop := ∀ x y, f (x ^^^ y) = f x ^^^ f y
theorem Lin.zero {f : Nat → Nat} (h : Lin f) : f 0 = 0 := by
  have := h 0 0
  rw [Nat.xor_self] at this
  rw [this, Nat.xor_self]
def sel (x i : Nat) : Nat := 2 ^ i * bit x i
def sels (x : Nat) : Nat := sel x 0 ^^^ (sel x 1 ^^^ (sel x 2 ^^^ (sel x 3 ^^^ (sel x 4 ^^^ (sel x 5 ^^^ (sel x 6 ^^^ sel x 7))))))
def all (n : Nat) (p : Nat → Bool) : Bool := (List.range n).all p
theorem all_of {n : Nat} {p : Nat → Bool} (h : all n p = true) {i : Nat} (hi : i < n) : p i = true := List.all_eq_true.1 h i (List.mem_range.2 hi)
theorem sels_all : all 256 (fun x => Nat.beq (sels x) x) = true := by kernel_rfl
theorem sels_eq {x : Nat} (h : x < 256) : sels x = x := Nat.eq_of_beq_eq_true (all_of sels_all h)
theorem lin_ext {f g : Nat → Nat} (hf : Lin f) (hg : Lin g) (h : ∀ i, i < 8 → f (2 ^ i) = g (2 ^ i)) {x : Nat} (hx : x < 256) : f x = g x := by
  have hs : ∀ i, i < 8 → f (sel x i) = g (sel x i) := fun i hi => by
    unfold sel
    rcases bit_01 x i with e | e <;> rw [e]
    · rw [Nat.mul_zero, hf.zero, hg.zero]
    · rw [Nat.mul_one]; exact h i hi
  rw [← sels_eq hx]
  unfold sels
  simp only [hf _ _, hg _ _, hs 0 (by omega), hs 1 (by omega), hs 2 (by omega), hs 3 (by omega), hs 4 (by omega), hs 5 (by omega), hs 6 (by omega), hs 7 (by omega)]
theorem lin_r (a : Nat) : Lin (tm a) := fun x y => tm_r a x y
theorem lin_l (b : Nat) : Lin (fun a => tm a b) := fun x y => tm_l x y b
theorem comm_all : all 8 (fun i => all 8 fun j => Nat.beq (tm (2 ^ i) (2 ^ j)) (tm (2 ^ j) (2 ^ i))) = true := by kernel_rfl
theorem tm_comm {a b : Nat} (ha : a < 256) (hb : b < 256) : tm a b = tm b a := by
  refine lin_ext (f := fun x => tm x b) (g := fun x => tm b x) (lin_l b) (lin_r b) (fun i hi => ?_) ha
  exact lin_ext (f := fun y => tm (2 ^ i) y) (g := fun y => tm y (2 ^ i)) (lin_r _) (lin_l _) (fun j hj => Nat.eq_of_beq_eq_true (all_of (all_of comm_all hi) hj)) hb
theorem assoc_all : all 8 (fun i => all 8 fun j => all 8 fun k => Nat.beq (tm (tm (2 ^ i) (2 ^ j)) (2 ^ k)) (tm (2 ^ i) (tm (2 ^ j) (2 ^ k)))) = true := by kernel_rfl
theorem tm_assoc {a b c : Nat} (ha : a < 256) (hb : b < 256) (hc : c < 256) : tm (tm a b) c = tm a (tm b c) := by
  refine lin_ext (f := fun x => tm (tm x b) c) (g := fun x => tm x (tm b c)) (fun x y => by simp only [tm_l]) (lin_l _) (fun i hi => ?_) ha
  refine lin_ext (f := fun y => tm (tm (2 ^ i) y) c) (g := fun y => tm (2 ^ i) (tm y c)) (fun x y => by simp only [tm_l, tm_r]) (fun x y => by simp only [tm_l, tm_r]) (fun j hj => ?_) hb
  exact lin_ext (f := fun z => tm (tm (2 ^ i) (2 ^ j)) z) (g := fun z => tm (2 ^ i) (tm (2 ^ j) z)) (lin_r _) (fun x y => by simp only [tm_r]) (fun k hk => Nat.eq_of_beq_eq_true (all_of (all_of (all_of assoc_all hi) hj) hk)) hc
theorem one_all : all 8 (fun i => Nat.beq (tm 1 (2 ^ i)) (2 ^ i)) = true := by kernel_rfl
theorem tm_one {a : Nat} (ha : a < 256) : tm 1 a = a := lin_ext (f := tm 1) (g := fun x => x) (lin_r 1) (fun _ _ => rfl) (fun _ hi => Nat.eq_of_beq_eq_true (all_of one_all hi)) ha

/-! What bytes become. -/
def tIV : List Nat := [0, 1, 141, 246, 203, 82, 123, 209, 232, 79, 41, 192, 176, 225, 229, 199, 116, 180, 170, 75, 153, 43, 96, 95, 88, 63, 253, 204, 255, 64, 238, 178, 58, 110, 90, 241, 85, 77, 168, 201, 193, 10, 152, 21, 48, 68, 162, 194, 44, 69, 146, 108, 243, 57, 102, 66, 242, 53, 32, 111, 119, 187, 89, 25, 29, 254, 55, 103, 45, 49, 245, 105, 167, 100, 171, 19, 84, 37, 233, 9, 237, 92, 5, 202, 76, 36, 135, 191, 24, 62, 34, 240, 81, 236, 97, 23, 22, 94, 175, 211, 73, 166, 54, 67, 244, 71, 145, 223, 51, 147, 33, 59, 121, 183, 151, 133, 16, 181, 186, 60, 182, 112, 208, 6, 161, 250, 129, 130, 131, 126, 127, 128, 150, 115, 190, 86, 155, 158, 149, 217, 247, 2, 185, 164, 222, 106, 50, 109, 216, 138, 132, 114, 42, 20, 159, 136, 249, 220, 137, 154, 251, 124, 46, 195, 143, 184, 101, 72, 38, 200, 18, 74, 206, 231, 210, 98, 12, 224, 31, 239, 17, 117, 120, 113, 165, 142, 118, 61, 189, 188, 134, 87, 11, 40, 47, 163, 218, 212, 228, 15, 169, 39, 83, 4, 27, 252, 172, 230, 122, 7, 174, 99, 197, 219, 226, 234, 148, 139, 196, 213, 157, 248, 144, 107, 177, 13, 214, 235, 198, 14, 207, 173, 8, 78, 215, 227, 93, 80, 30, 179, 91, 35, 56, 52, 104, 70, 3, 140, 221, 156, 125, 160, 205, 26, 65, 28]
def tBX : List Nat := [99, 124, 119, 123, 242, 107, 111, 197, 48, 1, 103, 43, 254, 215, 171, 118, 202, 130, 201, 125, 250, 89, 71, 240, 173, 212, 162, 175, 156, 164, 114, 192, 183, 253, 147, 38, 54, 63, 247, 204, 52, 165, 229, 241, 113, 216, 49, 21, 4, 199, 35, 195, 24, 150, 5, 154, 7, 18, 128, 226, 235, 39, 178, 117, 9, 131, 44, 26, 27, 110, 90, 160, 82, 59, 214, 179, 41, 227, 47, 132, 83, 209, 0, 237, 32, 252, 177, 91, 106, 203, 190, 57, 74, 76, 88, 207, 208, 239, 170, 251, 67, 77, 51, 133, 69, 249, 2, 127, 80, 60, 159, 168, 81, 163, 64, 143, 146, 157, 56, 245, 188, 182, 218, 33, 16, 255, 243, 210, 205, 12, 19, 236, 95, 151, 68, 23, 196, 167, 126, 61, 100, 93, 25, 115, 96, 129, 79, 220, 34, 42, 144, 136, 70, 238, 184, 20, 222, 94, 11, 219, 224, 50, 58, 10, 73, 6, 36, 92, 194, 211, 172, 98, 145, 149, 228, 121, 231, 200, 55, 109, 141, 213, 78, 169, 108, 86, 244, 234, 101, 122, 174, 8, 186, 120, 37, 46, 28, 166, 180, 198, 232, 221, 116, 31, 75, 189, 139, 138, 112, 62, 181, 102, 72, 3, 246, 14, 97, 53, 87, 185, 134, 193, 29, 158, 225, 248, 152, 17, 105, 217, 142, 148, 155, 30, 135, 233, 206, 85, 40, 223, 140, 161, 137, 13, 191, 230, 66, 104, 65, 153, 45, 15, 176, 84, 187, 22]
def tIB : List Nat := [82, 9, 106, 213, 48, 54, 165, 56, 191, 64, 163, 158, 129, 243, 215, 251, 124, 227, 57, 130, 155, 47, 255, 135, 52, 142, 67, 68, 196, 222, 233, 203, 84, 123, 148, 50, 166, 194, 35, 61, 238, 76, 149, 11, 66, 250, 195, 78, 8, 46, 161, 102, 40, 217, 36, 178, 118, 91, 162, 73, 109, 139, 209, 37, 114, 248, 246, 100, 134, 104, 152, 22, 212, 164, 92, 204, 93, 101, 182, 146, 108, 112, 72, 80, 253, 237, 185, 218, 94, 21, 70, 87, 167, 141, 157, 132, 144, 216, 171, 0, 140, 188, 211, 10, 247, 228, 88, 5, 184, 179, 69, 6, 208, 44, 30, 143, 202, 63, 15, 2, 193, 175, 189, 3, 1, 19, 138, 107, 58, 145, 17, 65, 79, 103, 220, 234, 151, 242, 207, 206, 240, 180, 230, 115, 150, 172, 116, 34, 231, 173, 53, 133, 226, 249, 55, 232, 28, 117, 223, 110, 71, 241, 26, 113, 29, 41, 197, 137, 111, 183, 98, 14, 170, 24, 190, 27, 252, 86, 62, 75, 198, 210, 121, 32, 154, 219, 192, 254, 120, 205, 90, 244, 31, 221, 168, 51, 136, 7, 199, 49, 177, 18, 16, 89, 39, 128, 236, 95, 96, 81, 127, 169, 25, 181, 74, 13, 45, 229, 122, 159, 147, 201, 156, 239, 160, 224, 59, 77, 174, 42, 245, 176, 200, 235, 187, 60, 131, 83, 153, 97, 23, 43, 4, 126, 186, 119, 214, 38, 225, 105, 20, 99, 85, 33, 12, 125]
/-- The greatest number below k that is an inverse of x, or 0. -/
def iv (x : Nat) : Nat → Nat
  | 0 => 0
  | k + 1 => if tm x k = 1 then k else iv x k
def aff (y : Nat) : Nat → Nat
  | 0 => 0
  | i + 1 => aff y i + (((((bit y i ^^^ bit y ((i + 4) % 8)) ^^^ bit y ((i + 5) % 8)) ^^^ bit y ((i + 6) % 8)) ^^^ bit y ((i + 7) % 8)) ^^^ bit 99 i) * 2 ^ i
def bx (x : Nat) : Nat := aff (iv x 256) 8
theorem iv_all : all 256 (fun x => Nat.beq x 0 || Nat.beq (tm x (tIV.getD x 0)) 1 && Nat.ble (tIV.getD x 0) 255) = true := by kernel_rfl
theorem iv_has {x : Nat} (hx : x < 256) (h0 : x ≠ 0) : tm x (tIV.getD x 0) = 1 ∧ tIV.getD x 0 < 256 := by
  have := all_of iv_all hx
  simp only [Bool.or_eq_true, Bool.and_eq_true] at this
  rcases this with h | ⟨h, h'⟩
  · exact absurd (Nat.eq_of_beq_eq_true h) h0
  · exact ⟨Nat.eq_of_beq_eq_true h, by have := Nat.le_of_ble_eq_true h'; omega⟩
theorem iv_one {x k l : Nat} (hx : x < 256) (hk : k < 256) (hl : l < 256) (h1 : tm x k = 1) (h2 : tm x l = 1) : k = l := by
  have e1 : tm (tm k x) l = l := by rw [tm_comm hk hx, h1, tm_one hl]
  rw [tm_assoc hk hx hl, h2, tm_comm hk (by omega), tm_one hk] at e1
  exact e1
theorem iv_none {x : Nat} (h : ∀ k, k < 256 → tm x k ≠ 1) (n : Nat) (hn : n ≤ 256) : iv x n = 0 := by
  induction n with
  | zero => rfl
  | succ n ih => rw [iv, if_neg (h n (by omega))]; exact ih (by omega)
theorem tm_zero_l (b : Nat) : tm 0 b = 0 := (lin_l b).zero
theorem iv_is {x k : Nat} (hx : x < 256) (hk : k < 256) (h : tm x k = 1) (n : Nat) (hn : n ≤ 256) : iv x n = if k < n then k else 0 := by
  induction n with
  | zero => rfl
  | succ n ih =>
    rw [iv]
    by_cases e : tm x n = 1
    · rw [if_pos e, iv_one hx hk (by omega) h e, if_pos (by omega)]
    · rw [if_neg e, ih (by omega)]
      have : k ≠ n := fun h' => e (h' ▸ h)
      by_cases hlt : k < n
      · rw [if_pos hlt, if_pos (by omega)]
      · rw [if_neg hlt, if_neg (by omega)]
theorem iv_eq {x : Nat} (hx : x < 256) : iv x 256 = tIV.getD x 0 := by
  by_cases h0 : x = 0
  · subst h0
    rw [iv_none (fun k _ => by rw [tm_zero_l]; omega) 256 (by omega)]
    rfl
  · obtain ⟨h1, h2⟩ := iv_has hx h0
    rw [iv_is hx h2 h1 256 (by omega), if_pos h2]
theorem bx_all : all 256 (fun x => Nat.beq (aff (tIV.getD x 0) 8) (tBX.getD x 0) && (Nat.beq (tIB.getD (tBX.getD x 0) 0) x && (!(Nat.beq (tBX.getD x 0) x) && Nat.ble (tBX.getD x 0) 255))) = true := by kernel_rfl
theorem bx_is {x : Nat} (hx : x < 256) : bx x = tBX.getD x 0 ∧ tIB.getD (bx x) 0 = x ∧ bx x ≠ x ∧ bx x < 256 := by
  have := all_of bx_all hx
  simp only [Bool.and_eq_true, Bool.not_eq_true'] at this
  obtain ⟨h1, h2, h3, h4⟩ := this
  have e : bx x = tBX.getD x 0 := by unfold bx; rw [iv_eq hx]; exact Nat.eq_of_beq_eq_true h1
  rw [e]
  exact ⟨rfl, Nat.eq_of_beq_eq_true h2, fun h => by rw [h] at h3; simp at h3, by have := Nat.le_of_ble_eq_true h4; omega⟩
theorem bx_inj {x y : Nat} (hx : x < 256) (hy : y < 256) (h : bx x = bx y) : x = y := by
  rw [← (bx_is hx).2.1, ← (bx_is hy).2.1, h]
end Go.Proofs.YtgamfpgejkhbcaaDoor.K
