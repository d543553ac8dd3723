/- Four bytes mixed; blocks encrypted: unlike ones to unlike ones. No Go text in sight. -/
import Derived.Test.YtgamfpgejkhbcaaDoorKMath
namespace Go.Proofs.YtgamfpgejkhbcaaDoor.K
set_option maxRecDepth 100000

/-! Four bytes mixed; a block. -/
def m0 (a b c d : Nat) : Nat := tm 2 a ^^^ tm 3 b ^^^ c ^^^ d
def u0 (p q r s : Nat) : Nat := tm 14 p ^^^ tm 11 q ^^^ tm 13 r ^^^ tm 9 s
def um (a b c d : Nat) : Nat := u0 (m0 a b c d) (m0 b c d a) (m0 c d a b) (m0 d a b c)
theorem tm_zero_r (a : Nat) : tm a 0 = 0 := (lin_r a).zero
theorem m0_x (a b c d a' b' c' d' : Nat) : m0 (a ^^^ a') (b ^^^ b') (c ^^^ c') (d ^^^ d') = m0 a b c d ^^^ m0 a' b' c' d' := by
  unfold m0
  rw [tm_r, tm_r, xor4 (tm 2 a) (tm 2 a') (tm 3 b) (tm 3 b'), xor4 (tm 2 a ^^^ tm 3 b) (tm 2 a' ^^^ tm 3 b') c c', xor4 (tm 2 a ^^^ tm 3 b ^^^ c) (tm 2 a' ^^^ tm 3 b' ^^^ c') d d']
theorem u0_x (a b c d a' b' c' d' : Nat) : u0 (a ^^^ a') (b ^^^ b') (c ^^^ c') (d ^^^ d') = u0 a b c d ^^^ u0 a' b' c' d' := by
  unfold u0
  rw [tm_r, tm_r, tm_r, tm_r, xor4 (tm 14 a) (tm 14 a') (tm 11 b) (tm 11 b'), xor4 (tm 14 a ^^^ tm 11 b) (tm 14 a' ^^^ tm 11 b') (tm 13 c) (tm 13 c'), xor4 (tm 14 a ^^^ tm 11 b ^^^ tm 13 c) (tm 14 a' ^^^ tm 11 b' ^^^ tm 13 c') (tm 9 d) (tm 9 d')]
theorem um_x (a b c d a' b' c' d' : Nat) : um (a ^^^ a') (b ^^^ b') (c ^^^ c') (d ^^^ d') = um a b c d ^^^ um a' b' c' d' := by
  unfold um
  rw [m0_x, m0_x, m0_x, m0_x, u0_x]
theorem um_all : all 8 (fun i => Nat.beq (um (2 ^ i) 0 0 0) (2 ^ i) && (Nat.beq (um 0 (2 ^ i) 0 0) 0 && (Nat.beq (um 0 0 (2 ^ i) 0) 0 && Nat.beq (um 0 0 0 (2 ^ i)) 0))) = true := by kernel_rfl
theorem um_bits {i : Nat} (hi : i < 8) : um (2 ^ i) 0 0 0 = 2 ^ i ∧ um 0 (2 ^ i) 0 0 = 0 ∧ um 0 0 (2 ^ i) 0 = 0 ∧ um 0 0 0 (2 ^ i) = 0 := by
  have := all_of um_all hi
  simp only [Bool.and_eq_true] at this
  exact ⟨Nat.eq_of_beq_eq_true this.1, Nat.eq_of_beq_eq_true this.2.1, Nat.eq_of_beq_eq_true this.2.2.1, Nat.eq_of_beq_eq_true this.2.2.2⟩
theorem um_is {a b c d : Nat} (ha : a < 256) (hb : b < 256) (hc : c < 256) (hd : d < 256) : um a b c d = a := by
  have e0 : um a 0 0 0 = a := lin_ext (f := fun x => um x 0 0 0) (g := fun x => x) (fun x y => by have := um_x x 0 0 0 y 0 0 0; simpa using this) (fun _ _ => rfl) (fun _ hi => (um_bits hi).1) ha
  have e1 : um 0 b 0 0 = 0 := lin_ext (f := fun x => um 0 x 0 0) (g := fun _ => 0) (fun x y => by have := um_x 0 x 0 0 0 y 0 0; simpa using this) (fun _ _ => by simp) (fun _ hi => (um_bits hi).2.1) hb
  have e2 : um 0 0 c 0 = 0 := lin_ext (f := fun x => um 0 0 x 0) (g := fun _ => 0) (fun x y => by have := um_x 0 0 x 0 0 0 y 0; simpa using this) (fun _ _ => by simp) (fun _ hi => (um_bits hi).2.2.1) hc
  have e3 : um 0 0 0 d = 0 := lin_ext (f := fun x => um 0 0 0 x) (g := fun _ => 0) (fun x y => by have := um_x 0 0 0 x 0 0 0 y; simpa using this) (fun _ _ => by simp) (fun _ hi => (um_bits hi).2.2.2) hd
  have h1 := um_x a b 0 0 0 0 c d
  have h2 := um_x a 0 0 0 0 b 0 0
  have h3 := um_x 0 0 c 0 0 0 0 d
  simp only [Nat.xor_zero, Nat.zero_xor] at h1 h2 h3
  rw [h1, h2, h3, e0, e1, e2, e3]
  simp
/-- Blocks are told place by place (0 to 15). -/
def By16 (f : Nat → Nat) : Prop := ∀ i, i < 16 → f i < 256
def E16 (f g : Nat → Nat) : Prop := ∀ i, i < 16 → f i = g i
/-- What stands at a place behind the move. -/
def sg (j : Nat) : Nat := 4 * ((j / 4 + j % 4) % 4) + j % 4
def sub (f : Nat → Nat) (j : Nat) : Nat := bx (f (sg j))
def mix (f : Nat → Nat) (j : Nat) : Nat := m0 (f (4 * (j / 4) + j % 4)) (f (4 * (j / 4) + (j + 1) % 4)) (f (4 * (j / 4) + (j + 2) % 4)) (f (4 * (j / 4) + (j + 3) % 4))
/-- A block behind r of R rounds. -/
def enc (K : Nat → Nat → Nat) (R : Nat) (f : Nat → Nat) : Nat → Nat → Nat
  | 0 => fun i => f i ^^^ K 0 i
  | r + 1 => fun i => (if r + 1 < R then mix (sub (enc K R f r)) i else sub (enc K R f r) i) ^^^ K (r + 1) i
theorem xor_lt8 {a b : Nat} (ha : a < 256) (hb : b < 256) : a ^^^ b < 256 := @Nat.xor_lt_two_pow a b 8 ha hb
theorem sg_lt (j : Nat) : sg j < 16 := by unfold sg; omega
theorem sub_by {f : Nat → Nat} (h : By16 f) : By16 (sub f) := fun i _ => (bx_is (h _ (sg_lt i))).2.2.2
theorem m0_lt {a b c d : Nat} (hc : c < 256) (hd : d < 256) : m0 a b c d < 256 := xor_lt8 (xor_lt8 (xor_lt8 (tm_lt _ _) (tm_lt _ _)) hc) hd
theorem mix_by {f : Nat → Nat} (h : By16 f) : By16 (mix f) := fun i hi => m0_lt (h _ (by omega)) (h _ (by omega))
theorem enc_by {K : Nat → Nat → Nat} {R : Nat} {f : Nat → Nat} (hK : ∀ r, r ≤ R → By16 (K r)) (hf : By16 f) (r : Nat) (hr : r ≤ R) : By16 (enc K R f r) := by
  induction r with
  | zero => exact fun i hi => xor_lt8 (hf i hi) (hK 0 (by omega) i hi)
  | succ r ih =>
    have h := ih (by omega)
    intro i hi
    refine xor_lt8 ?_ (hK (r + 1) hr i hi)
    split
    · exact mix_by (sub_by h) i hi
    · exact sub_by h i hi
theorem sg_all : all 16 (fun i => (List.range 16).any fun j => Nat.beq (sg j) i) = true := by kernel_rfl
theorem sg_on {i : Nat} (hi : i < 16) : ∃ j, j < 16 ∧ sg j = i := by
  have := all_of sg_all hi
  simp only [List.any_eq_true, List.mem_range] at this
  obtain ⟨j, hj, h⟩ := this
  exact ⟨j, hj, Nat.eq_of_beq_eq_true h⟩
theorem sub_inj {f g : Nat → Nat} (hf : By16 f) (hg : By16 g) (h : E16 (sub f) (sub g)) : E16 f g := fun i hi => by
  obtain ⟨j, hj, rfl⟩ := sg_on hi
  exact bx_inj (hf _ hi) (hg _ hi) (h j hj)
theorem mix_um {f : Nat → Nat} (hf : By16 f) {i : Nat} (hi : i < 16) : u0 (mix f i) (mix f (4 * (i / 4) + (i + 1) % 4)) (mix f (4 * (i / 4) + (i + 2) % 4)) (mix f (4 * (i / 4) + (i + 3) % 4)) = f i := by
  obtain ⟨c, hc⟩ : ∃ c, c = i / 4 := ⟨_, rfl⟩
  obtain ⟨k, hk⟩ : ∃ k, k = i % 4 := ⟨_, rfl⟩
  have hi' : i = 4 * c + k := by omega
  have hk4 : k < 4 := by omega
  have hc4 : c < 4 := by omega
  have e1 : (i + 1) % 4 = (k + 1) % 4 := by omega
  have e2 : (i + 2) % 4 = (k + 2) % 4 := by omega
  have e3 : (i + 3) % 4 = (k + 3) % 4 := by omega
  rw [e1, e2, e3, ← hc]
  have g : ∀ t, t < 4 → mix f (4 * c + t) = m0 (f (4 * c + t)) (f (4 * c + (t + 1) % 4)) (f (4 * c + (t + 2) % 4)) (f (4 * c + (t + 3) % 4)) := fun t ht => by
    unfold mix
    rw [show (4 * c + t) / 4 = c by omega, show (4 * c + t) % 4 = t by omega, show (4 * c + t + 1) % 4 = (t + 1) % 4 by omega, show (4 * c + t + 2) % 4 = (t + 2) % 4 by omega, show (4 * c + t + 3) % 4 = (t + 3) % 4 by omega]
  rw [hi', g k hk4, g _ (by omega), g _ (by omega), g _ (by omega)]
  rw [show ((k + 1) % 4 + 1) % 4 = (k + 2) % 4 by omega, show ((k + 1) % 4 + 2) % 4 = (k + 3) % 4 by omega, show ((k + 1) % 4 + 3) % 4 = k by omega]
  rw [show ((k + 2) % 4 + 1) % 4 = (k + 3) % 4 by omega, show ((k + 2) % 4 + 2) % 4 = k by omega, show ((k + 2) % 4 + 3) % 4 = (k + 1) % 4 by omega]
  rw [show ((k + 3) % 4 + 1) % 4 = k by omega, show ((k + 3) % 4 + 2) % 4 = (k + 1) % 4 by omega, show ((k + 3) % 4 + 3) % 4 = (k + 2) % 4 by omega]
  exact um_is (hf _ (by omega)) (hf _ (by omega)) (hf _ (by omega)) (hf _ (by omega))
theorem mix_inj {f g : Nat → Nat} (hf : By16 f) (hg : By16 g) (h : E16 (mix f) (mix g)) : E16 f g := fun i hi => by
  rw [← mix_um hf hi, ← mix_um hg hi, h i hi, h _ (by omega), h _ (by omega), h _ (by omega)]
theorem xor_can {a b c : Nat} (h : a ^^^ c = b ^^^ c) : a = b := by
  have := congrArg (· ^^^ c) h
  simpa [Nat.xor_assoc] using this
/-- Unlike blocks are encrypted to unlike blocks. -/
theorem enc_inj {K : Nat → Nat → Nat} {R : Nat} {f g : Nat → Nat} (hK : ∀ r, r ≤ R → By16 (K r)) (hf : By16 f) (hg : By16 g) (r : Nat) (hr : r ≤ R) (h : E16 (enc K R f r) (enc K R g r)) : E16 f g := by
  induction r with
  | zero => exact fun i hi => xor_can (h i hi)
  | succ r ih =>
    have bf := enc_by hK hf r (by omega)
    have bg := enc_by hK hg r (by omega)
    refine ih (by omega) ?_
    by_cases hl : r + 1 < R
    · refine sub_inj bf bg (mix_inj (sub_by bf) (sub_by bg) fun i hi => ?_)
      have := xor_can (h i hi)
      rw [if_pos hl, if_pos hl] at this
      exact this
    · refine sub_inj bf bg fun i hi => ?_
      have := xor_can (h i hi)
      rw [if_neg hl, if_neg hl] at this
      exact this
end Go.Proofs.YtgamfpgejkhbcaaDoor.K
