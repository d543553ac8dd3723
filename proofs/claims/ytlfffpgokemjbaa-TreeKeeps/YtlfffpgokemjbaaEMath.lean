/- Letters and texts, over lists of bytes. No Go text in sight. -/
import Derived.Test.YtlfffpgokemjbaaRows
import Derived.Laws.RangeAny
import Derived.WalkKit
namespace Go.Proofs.Ytlfffpgokemjbaa.E
set_option maxRecDepth 100000
open Go Go.RowKit

/-- Byte k of a text, as a number. -/
def bt (l : List UInt8) (k : Nat) : Nat := (l.getD k 0).toNat
theorem bt_lt (l : List UInt8) (k : Nat) : bt l k < 256 := UInt8.toNat_lt _
/-- A byte that goes on with a letter. -/
def ct (x : Nat) : Prop := 128 ≤ x ∧ x ≤ 191
instance (x : Nat) : Decidable (ct x) := inferInstanceAs (Decidable (_ ∧ _))
def v2 (l : List UInt8) : Nat := (bt l 0 - 192) * 64 + bt l 1 - 128
def v3 (l : List UInt8) : Nat := ((bt l 0 - 224) * 64 + bt l 1 - 128) * 64 + bt l 2 - 128
def v4 (l : List UInt8) : Nat := (((bt l 0 - 240) * 64 + bt l 1 - 128) * 64 + bt l 2 - 128) * 64 + bt l 3 - 128
def is2 (l : List UInt8) : Prop := 192 ≤ bt l 0 ∧ bt l 0 < 224 ∧ 2 ≤ l.length ∧ ct (bt l 1) ∧ 128 ≤ v2 l
def is3 (l : List UInt8) : Prop := 224 ≤ bt l 0 ∧ bt l 0 < 240 ∧ 3 ≤ l.length ∧ ct (bt l 1) ∧ ct (bt l 2) ∧ 2048 ≤ v3 l ∧ ¬ (55296 ≤ v3 l ∧ v3 l ≤ 57343)
def is4 (l : List UInt8) : Prop := 240 ≤ bt l 0 ∧ bt l 0 < 248 ∧ 4 ≤ l.length ∧ ct (bt l 1) ∧ ct (bt l 2) ∧ ct (bt l 3) ∧ 65536 ≤ v4 l ∧ v4 l ≤ 1114111
instance (l : List UInt8) : Decidable (is2 l) := inferInstanceAs (Decidable (_ ∧ _))
instance (l : List UInt8) : Decidable (is3 l) := inferInstanceAs (Decidable (_ ∧ _))
instance (l : List UInt8) : Decidable (is4 l) := inferInstanceAs (Decidable (_ ∧ _))
/-- The letter that a text begins with, and how many bytes it has; 0 bytes: it begins with none. -/
def ltr (l : List UInt8) : Nat × Nat :=
  if l = [] then (0, 0) else if bt l 0 < 128 then (bt l 0, 1) else if is2 l then (v2 l, 2) else if is3 l then (v3 l, 3) else if is4 l then (v4 l, 4) else (0, 0)
theorem ltr_cases (l : List UInt8) : (ltr l = (0, 0)) ∨ (l ≠ [] ∧ bt l 0 < 128 ∧ ltr l = (bt l 0, 1)) ∨ (l ≠ [] ∧ is2 l ∧ ltr l = (v2 l, 2)) ∨ (l ≠ [] ∧ is3 l ∧ ltr l = (v3 l, 3)) ∨ (l ≠ [] ∧ is4 l ∧ ltr l = (v4 l, 4)) := by
  unfold ltr
  by_cases h0 : l = []
  · simp [h0]
  · by_cases h1 : bt l 0 < 128
    · simp [h0, h1]
    · by_cases h2 : is2 l
      · simp [h0, h1, h2]
      · by_cases h3 : is3 l
        · simp [h0, h1, h2, h3]
        · by_cases h4 : is4 l
          · simp [h0, h1, h2, h3, h4]
          · simp [h0, h1, h2, h3, h4]
theorem ltr_le (l : List UInt8) : (ltr l).2 ≤ l.length := by
  rcases ltr_cases l with h | ⟨h0, _, h⟩ | ⟨_, h2, h⟩ | ⟨_, h2, h⟩ | ⟨_, h2, h⟩ <;> rw [h]
  · exact Nat.zero_le _
  · exact List.length_pos_iff.2 h0
  · exact h2.2.2.1
  · exact h2.2.2.1
  · exact h2.2.2.1
theorem len_eq (s : ByteArray) : s.data.toList.length = s.size := Array.length_toList
theorem bt_drop (s : ByteArray) (pos k : Nat) (h : pos + k < s.size) : bt (s.data.toList.drop pos) k = (s.get! (pos + k)).toNat := by
  have hd : pos + k < s.data.size := h
  have e : s.get! (pos + k) = s.data[pos + k]'hd := by show s.data[pos + k]! = _; exact getElem!_pos s.data (pos + k) hd
  have e2 : s.data[pos + k]? = some (s.data[pos + k]'hd) := Array.getElem?_eq_getElem hd
  rw [e, bt]
  simp only [List.getD, List.getElem?_drop, Array.getElem?_toList, e2, Option.getD_some]
theorem b_of {p : Prop} [Decidable p] {b : Bool} (h : b = true ↔ p) : b = decide p := by
  by_cases q : p
  · simp [q, h.2 q]
  · simp only [q, decide_false]
    cases b with
    | false => rfl
    | true => exact absurd (h.1 rfl) q
/-- What a range over a text makes of the bytes at a place, by numbers. -/
theorem dec_num (s : ByteArray) (pos a0 a1 a2 a3 : Nat) (h0 : (s.get! (pos + 0)).toNat = a0) (h1 : (s.get! (pos + 1)).toNat = a1) (h2 : (s.get! (pos + 2)).toNat = a2) (h3 : (s.get! (pos + 3)).toNat = a3) :
    Utf8.decode s pos = if a0 < 128 then (a0, 1) else if 192 ≤ a0 ∧ a0 < 224 ∧ pos + 1 < s.size ∧ ct a1 then (if 128 ≤ (a0 - 192) * 64 + a1 - 128 then ((a0 - 192) * 64 + a1 - 128, 2) else (65533, 1))
      else if 224 ≤ a0 ∧ a0 < 240 ∧ (pos + 1 < s.size ∧ ct a1) ∧ (pos + 2 < s.size ∧ ct a2) then (if 2048 ≤ ((a0 - 224) * 64 + a1 - 128) * 64 + a2 - 128 ∧ ¬ (55296 ≤ ((a0 - 224) * 64 + a1 - 128) * 64 + a2 - 128 ∧ ((a0 - 224) * 64 + a1 - 128) * 64 + a2 - 128 ≤ 57343) then (((a0 - 224) * 64 + a1 - 128) * 64 + a2 - 128, 3) else (65533, 1))
      else if 240 ≤ a0 ∧ a0 < 248 ∧ (pos + 1 < s.size ∧ ct a1) ∧ (pos + 2 < s.size ∧ ct a2) ∧ (pos + 3 < s.size ∧ ct a3) then (if 65536 ≤ (((a0 - 240) * 64 + a1 - 128) * 64 + a2 - 128) * 64 + a3 - 128 ∧ (((a0 - 240) * 64 + a1 - 128) * 64 + a2 - 128) * 64 + a3 - 128 ≤ 1114111 then ((((a0 - 240) * 64 + a1 - 128) * 64 + a2 - 128) * 64 + a3 - 128, 4) else (65533, 1))
      else (65533, 1) := by
  have c0 := (s.get! (pos + 0)).toNat_lt
  have c1 := (s.get! (pos + 1)).toNat_lt
  have c2 := (s.get! (pos + 2)).toNat_lt
  have c3 := (s.get! (pos + 3)).toNat_lt
  rw [h0] at c0
  rw [h1] at c1
  rw [h2] at c2
  rw [h3] at c3
  simp only [Utf8.decode, h0, h1, h2, h3]
  clear h0 h1 h2 h3
  by_cases g0 : a0 < 128
  · rw [if_pos g0, if_pos g0]
  rw [if_neg g0, if_neg g0]
  by_cases g2 : 192 ≤ a0 ∧ a0 < 224 ∧ pos + 1 < s.size ∧ ct a1
  · have e : (a0 / 32 == 6 && (decide (pos + 1 < s.size) && a1 / 64 == 2)) = true := by
      obtain ⟨x1, x2, x3, x4, x5⟩ := g2
      simp only [Bool.and_eq_true, beq_iff_eq, decide_eq_true_eq]
      omega
    rw [if_pos e, if_pos g2]
    obtain ⟨x1, x2, x3, x4, x5⟩ := g2
    rw [show a0 % 32 * 64 + a1 % 64 = (a0 - 192) * 64 + a1 - 128 by omega]
    rfl
  have e : ¬ (a0 / 32 == 6 && (decide (pos + 1 < s.size) && a1 / 64 == 2)) = true := fun q => g2 (by
    simp only [Bool.and_eq_true, beq_iff_eq, decide_eq_true_eq] at q
    unfold ct
    omega)
  rw [if_neg e, if_neg g2]
  clear e
  by_cases g3 : 224 ≤ a0 ∧ a0 < 240 ∧ (pos + 1 < s.size ∧ ct a1) ∧ (pos + 2 < s.size ∧ ct a2)
  · have e : (a0 / 16 == 14 && (decide (pos + 1 < s.size) && a1 / 64 == 2) && (decide (pos + 2 < s.size) && a2 / 64 == 2)) = true := by
      obtain ⟨x1, x2, ⟨x3, x4, x5⟩, x6, x7, x8⟩ := g3
      simp only [Bool.and_eq_true, beq_iff_eq, decide_eq_true_eq]
      omega
    rw [if_pos e, if_pos g3]
    obtain ⟨x1, x2, ⟨x3, x4, x5⟩, x6, x7, x8⟩ := g3
    rw [show a0 % 16 * 4096 + a1 % 64 * 64 + a2 % 64 = ((a0 - 224) * 64 + a1 - 128) * 64 + a2 - 128 by omega]
    generalize hc : ((a0 - 224) * 64 + a1 - 128) * 64 + a2 - 128 = c
    have hc1 : c < 65536 := by omega
    by_cases g : 2048 ≤ c ∧ ¬ (55296 ≤ c ∧ c ≤ 57343)
    · rw [if_pos g, if_pos]
      simp only [Utf8.valid, Bool.and_eq_true, Bool.or_eq_true, decide_eq_true_eq]
      omega
    · rw [if_neg g, if_neg]
      · rfl
      · intro q
        simp only [Utf8.valid, Bool.and_eq_true, Bool.or_eq_true, decide_eq_true_eq] at q
        omega
  have e : ¬ (a0 / 16 == 14 && (decide (pos + 1 < s.size) && a1 / 64 == 2) && (decide (pos + 2 < s.size) && a2 / 64 == 2)) = true := fun q => g3 (by
    simp only [Bool.and_eq_true, beq_iff_eq, decide_eq_true_eq] at q
    unfold ct
    omega)
  rw [if_neg e, if_neg g3]
  clear e
  by_cases g4 : 240 ≤ a0 ∧ a0 < 248 ∧ (pos + 1 < s.size ∧ ct a1) ∧ (pos + 2 < s.size ∧ ct a2) ∧ (pos + 3 < s.size ∧ ct a3)
  · have e : (a0 / 8 == 30 && (decide (pos + 1 < s.size) && a1 / 64 == 2) && (decide (pos + 2 < s.size) && a2 / 64 == 2) && (decide (pos + 3 < s.size) && a3 / 64 == 2)) = true := by
      obtain ⟨x1, x2, ⟨x3, x4, x5⟩, ⟨x6, x7, x8⟩, x9, x10, x11⟩ := g4
      simp only [Bool.and_eq_true, beq_iff_eq, decide_eq_true_eq]
      omega
    rw [if_pos e, if_pos g4]
    obtain ⟨x1, x2, ⟨x3, x4, x5⟩, ⟨x6, x7, x8⟩, x9, x10, x11⟩ := g4
    rw [show a0 % 8 * 262144 + a1 % 64 * 4096 + a2 % 64 * 64 + a3 % 64 = (((a0 - 240) * 64 + a1 - 128) * 64 + a2 - 128) * 64 + a3 - 128 by omega]
    generalize hc : (((a0 - 240) * 64 + a1 - 128) * 64 + a2 - 128) * 64 + a3 - 128 = c
    by_cases g : 65536 ≤ c ∧ c ≤ 1114111
    · rw [if_pos g, if_pos]
      simp only [Utf8.valid, Bool.and_eq_true, Bool.or_eq_true, decide_eq_true_eq]
      omega
    · rw [if_neg g, if_neg]
      · rfl
      · intro q
        simp only [Utf8.valid, Bool.and_eq_true, Bool.or_eq_true, decide_eq_true_eq] at q
        omega
  have e : ¬ (a0 / 8 == 30 && (decide (pos + 1 < s.size) && a1 / 64 == 2) && (decide (pos + 2 < s.size) && a2 / 64 == 2) && (decide (pos + 3 < s.size) && a3 / 64 == 2)) = true := fun q => g4 (by
    simp only [Bool.and_eq_true, beq_iff_eq, decide_eq_true_eq] at q
    unfold ct
    omega)
  rw [if_neg e, if_neg g4]
  rfl
set_option maxHeartbeats 4000000 in
/-- What a range over a text makes of the bytes at a place. -/
theorem dec_ltr (s : ByteArray) (pos : Nat) (h : pos < s.size) : Utf8.decode s pos = if (ltr (s.data.toList.drop pos)).2 = 0 then (65533, 1) else ltr (s.data.toList.drop pos) := by
  obtain ⟨l, hl⟩ : ∃ l, l = s.data.toList.drop pos := ⟨_, rfl⟩
  have hll : l.length = s.size - pos := by rw [hl, List.length_drop, len_eq]
  have hne : l ≠ [] := by
    intro e
    rw [e] at hll
    simp at hll
    omega
  have b0 := bt_drop s pos 0 (by omega)
  have b1 : pos + 1 < s.size → (s.get! (pos + 1)).toNat = bt l 1 := fun q => by rw [hl]; exact (bt_drop s pos 1 q).symm
  have b2 : pos + 2 < s.size → (s.get! (pos + 2)).toNat = bt l 2 := fun q => by rw [hl]; exact (bt_drop s pos 2 q).symm
  have b3 : pos + 3 < s.size → (s.get! (pos + 3)).toNat = bt l 3 := fun q => by rw [hl]; exact (bt_drop s pos 3 q).symm
  rw [dec_num s pos _ _ _ _ b0.symm rfl rfl rfl, ← hl]
  generalize (s.get! (pos + 1)).toNat = a1 at b1 ⊢
  generalize (s.get! (pos + 2)).toNat = a2 at b2 ⊢
  generalize (s.get! (pos + 3)).toNat = a3 at b3 ⊢
  clear b0
  unfold ltr
  rw [if_neg hne]
  by_cases g0 : bt l 0 < 128
  · rw [if_pos g0, if_pos g0, if_neg (by simp)]
  rw [if_neg g0, if_neg g0]
  by_cases g2 : 192 ≤ bt l 0 ∧ bt l 0 < 224 ∧ pos + 1 < s.size ∧ ct a1
  · rw [if_pos g2]
    obtain ⟨x1, x2, x3, x4⟩ := g2
    have e1 := b1 x3
    subst e1
    by_cases g : 128 ≤ (bt l 0 - 192) * 64 + bt l 1 - 128
    · have i2 : is2 l := ⟨x1, x2, by omega, x4, g⟩
      rw [if_pos g, if_pos i2, if_neg (by simp)]
      rfl
    · have i2 : ¬ is2 l := fun q => g q.2.2.2.2
      have i3 : ¬ is3 l := fun q => by have := q.1; omega
      have i4 : ¬ is4 l := fun q => by have := q.1; omega
      rw [if_neg g, if_neg i2, if_neg i3, if_neg i4, if_pos rfl]
  have i2 : ¬ is2 l := fun ⟨q1, q2, q3, q4, _⟩ => g2 ⟨q1, q2, by omega, by rw [b1 (by omega)]; exact q4⟩
  rw [if_neg g2, if_neg i2]
  by_cases g3 : 224 ≤ bt l 0 ∧ bt l 0 < 240 ∧ (pos + 1 < s.size ∧ ct a1) ∧ (pos + 2 < s.size ∧ ct a2)
  · rw [if_pos g3]
    obtain ⟨x1, x2, ⟨x3, x4⟩, x5, x6⟩ := g3
    have e1 := b1 x3
    have e2 := b2 x5
    subst e1 e2
    by_cases g : 2048 ≤ ((bt l 0 - 224) * 64 + bt l 1 - 128) * 64 + bt l 2 - 128 ∧ ¬ (55296 ≤ ((bt l 0 - 224) * 64 + bt l 1 - 128) * 64 + bt l 2 - 128 ∧ ((bt l 0 - 224) * 64 + bt l 1 - 128) * 64 + bt l 2 - 128 ≤ 57343)
    · have i3 : is3 l := ⟨x1, x2, by omega, x4, x6, g⟩
      rw [if_pos g, if_pos i3, if_neg (by simp)]
      rfl
    · have i3 : ¬ is3 l := fun q => g q.2.2.2.2.2
      have i4 : ¬ is4 l := fun q => by have := q.1; omega
      rw [if_neg g, if_neg i3, if_neg i4, if_pos rfl]
  have i3 : ¬ is3 l := fun ⟨q1, q2, q3, q4, q5, _⟩ => g3 ⟨q1, q2, ⟨by omega, by rw [b1 (by omega)]; exact q4⟩, by omega, by rw [b2 (by omega)]; exact q5⟩
  rw [if_neg g3, if_neg i3]
  by_cases g4 : 240 ≤ bt l 0 ∧ bt l 0 < 248 ∧ (pos + 1 < s.size ∧ ct a1) ∧ (pos + 2 < s.size ∧ ct a2) ∧ (pos + 3 < s.size ∧ ct a3)
  · rw [if_pos g4]
    obtain ⟨x1, x2, ⟨x3, x4⟩, ⟨x5, x6⟩, x7, x8⟩ := g4
    have e1 := b1 x3
    have e2 := b2 x5
    have e3 := b3 x7
    subst e1 e2 e3
    by_cases g : 65536 ≤ (((bt l 0 - 240) * 64 + bt l 1 - 128) * 64 + bt l 2 - 128) * 64 + bt l 3 - 128 ∧ (((bt l 0 - 240) * 64 + bt l 1 - 128) * 64 + bt l 2 - 128) * 64 + bt l 3 - 128 ≤ 1114111
    · have i4 : is4 l := ⟨x1, x2, by omega, x4, x6, x8, g⟩
      rw [if_pos g, if_pos i4, if_neg (by simp)]
      rfl
    · have i4 : ¬ is4 l := fun q => g q.2.2.2.2.2.2
      rw [if_neg g, if_neg i4, if_pos rfl]
  have i4 : ¬ is4 l := fun ⟨q1, q2, q3, q4, q5, q6, _⟩ => g4 ⟨q1, q2, ⟨by omega, by rw [b1 (by omega)]; exact q4⟩, ⟨by omega, by rw [b2 (by omega)]; exact q5⟩, by omega, by rw [b3 (by omega)]; exact q6⟩
  rw [if_neg g4, if_neg i4, if_pos rfl]
end Go.Proofs.Ytlfffpgokemjbaa.E
