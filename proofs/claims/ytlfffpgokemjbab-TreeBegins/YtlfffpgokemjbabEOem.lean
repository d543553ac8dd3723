/- Letters of old, over lists of bytes. No Go text in sight. -/
import Derived.Test.YtlfffpgokemjbabEText

namespace Go.Proofs.Ytlfffpgokemjbab.E
set_option maxRecDepth 100000
open Go Go.RowKit

/-- The letters of the bytes from 128 on. -/
def tbl : List Nat :=
  [199, 252, 233, 226, 228, 224, 229, 231, 234, 235, 232, 239, 238, 236, 196, 197,
   201, 230, 198, 244, 246, 242, 251, 249, 255, 214, 220, 162, 163, 165, 8359, 402,
   225, 237, 243, 250, 241, 209, 170, 186, 191, 8976, 172, 189, 188, 161, 171, 187,
   9617, 9618, 9619, 9474, 9508, 9569, 9570, 9558, 9557, 9571, 9553, 9559, 9565, 9564, 9563, 9488,
   9492, 9524, 9516, 9500, 9472, 9532, 9566, 9567, 9562, 9556, 9577, 9574, 9568, 9552, 9580, 9575,
   9576, 9572, 9573, 9561, 9560, 9554, 9555, 9579, 9578, 9496, 9484, 9608, 9604, 9612, 9616, 9600,
   945, 223, 915, 960, 931, 963, 181, 964, 934, 920, 937, 948, 8734, 966, 949, 8745,
   8801, 177, 8805, 8804, 8992, 8993, 247, 8776, 176, 8729, 183, 8730, 8319, 178, 9632, 160]
def tb (k : Nat) : Nat := tbl.getD k 0
theorem tbl_len : tbl.length = 128 := by kernel_rfl
def okAll : Bool := (List.range 128).all fun i => (128 ≤ tb i && tb i < 55296) && (List.range 128).all fun j => tb i != tb j || i == j
theorem okAll_is : okAll = true := by kernel_rfl
theorem tb_bd {i : Nat} (h : i < 128) : 128 ≤ tb i ∧ tb i < 55296 := by
  have := List.all_eq_true.1 okAll_is i (List.mem_range.2 h)
  simp only [Bool.and_eq_true, decide_eq_true_eq] at this
  exact this.1
theorem tb_one {i j : Nat} (h : i < 128) (h2 : j < 128) (e : tb i = tb j) : i = j := by
  have := List.all_eq_true.1 okAll_is i (List.mem_range.2 h)
  simp only [Bool.and_eq_true] at this
  have := List.all_eq_true.1 this.2 j (List.mem_range.2 h2)
  simpa [e] using this
/-- The letter of a byte. -/
def chL (x : UInt8) : Nat := if x.toNat < 128 then x.toNat else tb (x.toNat - 128)
theorem chL_lt (x : UInt8) : chL x < 55296 := by
  have := x.toNat_lt
  unfold chL
  split
  · omega
  · exact (tb_bd (by omega)).2
/-- A letter below 65536 in bytes. -/
def enc (v : Nat) : List UInt8 :=
  if v < 128 then [UInt8.ofNat v] else if v < 2048 then [UInt8.ofNat (192 + v / 64), UInt8.ofNat (128 + v % 64)] else [UInt8.ofNat (224 + v / 4096), UInt8.ofNat (128 + v / 64 % 64), UInt8.ofNat (128 + v % 64)]
theorem enc_1 {v : Nat} (h : v < 128) : enc v = [UInt8.ofNat v] := if_pos h
theorem enc_2 {v : Nat} (h : 128 ≤ v) (h2 : v < 2048) : enc v = [UInt8.ofNat (192 + v / 64), UInt8.ofNat (128 + v % 64)] := by rw [enc, if_neg (by omega), if_pos h2]
theorem enc_3 {v : Nat} (h : 2048 ≤ v) : enc v = [UInt8.ofNat (224 + v / 4096), UInt8.ofNat (128 + v / 64 % 64), UInt8.ofNat (128 + v % 64)] := by rw [enc, if_neg (by omega), if_neg (by omega)]
theorem enc_len (v : Nat) : (enc v).length ≤ 3 := by
  unfold enc
  split
  · simp
  · split <;> simp
theorem u8 {n : Nat} (h : n < 256) : (UInt8.ofNat n).toNat = n := by simp; omega
theorem bt_0 (a : UInt8) (t : List UInt8) : bt (a :: t) 0 = a.toNat := rfl
theorem bt_1 (a b : UInt8) (t : List UInt8) : bt (a :: b :: t) 1 = b.toNat := rfl
theorem bt_2 (a b c : UInt8) (t : List UInt8) : bt (a :: b :: c :: t) 2 = c.toNat := rfl
/-- What is written is read: a letter. -/
theorem ltr_enc {v : Nat} (hv : v < 55296) (t : List UInt8) : ltr (enc v ++ t) = (v, (enc v).length) := by
  rcases Nat.lt_or_ge v 128 with h | h
  · rw [enc_1 h]
    have e : bt ([UInt8.ofNat v] ++ t) 0 = v := by rw [List.cons_append, bt_0, u8 (by omega)]
    rw [ltr_1 (by simp) (by rw [e]; exact h), e]
    rfl
  · rcases Nat.lt_or_ge v 2048 with h2 | h2
    · rw [enc_2 h h2]
      have e0 : bt ([UInt8.ofNat (192 + v / 64), UInt8.ofNat (128 + v % 64)] ++ t) 0 = 192 + v / 64 := by rw [List.cons_append, bt_0, u8 (by omega)]
      have e1 : bt ([UInt8.ofNat (192 + v / 64), UInt8.ofNat (128 + v % 64)] ++ t) 1 = 128 + v % 64 := by rw [List.cons_append, List.cons_append, bt_1, u8 (by omega)]
      have ev : v2 ([UInt8.ofNat (192 + v / 64), UInt8.ofNat (128 + v % 64)] ++ t) = v := by unfold v2; rw [e0, e1]; omega
      rw [ltr_2 (by simp) ⟨by rw [e0]; omega, by rw [e0]; omega, by simp, by rw [e1]; unfold ct; omega, by rw [ev]; omega⟩, ev]
      rfl
    · rw [enc_3 h2]
      have e0 : bt ([UInt8.ofNat (224 + v / 4096), UInt8.ofNat (128 + v / 64 % 64), UInt8.ofNat (128 + v % 64)] ++ t) 0 = 224 + v / 4096 := by rw [List.cons_append, bt_0, u8 (by omega)]
      have e1 : bt ([UInt8.ofNat (224 + v / 4096), UInt8.ofNat (128 + v / 64 % 64), UInt8.ofNat (128 + v % 64)] ++ t) 1 = 128 + v / 64 % 64 := by rw [List.cons_append, List.cons_append, bt_1, u8 (by omega)]
      have e2 : bt ([UInt8.ofNat (224 + v / 4096), UInt8.ofNat (128 + v / 64 % 64), UInt8.ofNat (128 + v % 64)] ++ t) 2 = 128 + v % 64 := by rw [List.cons_append, List.cons_append, List.cons_append, bt_2, u8 (by omega)]
      have ev : v3 ([UInt8.ofNat (224 + v / 4096), UInt8.ofNat (128 + v / 64 % 64), UInt8.ofNat (128 + v % 64)] ++ t) = v := by unfold v3; rw [e0, e1, e2]; omega
      rw [ltr_3 (by simp) ⟨by rw [e0]; omega, by rw [e0]; omega, by simp, by rw [e1]; unfold ct; omega, by rw [e2]; unfold ct; omega, by rw [ev]; omega, by rw [ev]; omega⟩, ev]
      rfl
theorem enc_ne (v : Nat) : (enc v).length ≠ 0 := by
  unfold enc
  split
  · simp
  · split <;> simp
theorem u8_is {a : UInt8} {n : Nat} (h : a.toNat = n) : UInt8.ofNat n = a := by subst h; simp
theorem two_of {l : List UInt8} (h : 2 ≤ l.length) : ∃ a b t, l = a :: b :: t := by
  cases l with
  | nil => simp at h
  | cons a l =>
    cases l with
    | nil => simp at h
    | cons b l => exact ⟨a, b, l, rfl⟩
theorem three_of {l : List UInt8} (h : 3 ≤ l.length) : ∃ a b c t, l = a :: b :: c :: t := by
  obtain ⟨a, b, l, rfl⟩ := two_of (l := l) (by omega)
  cases l with
  | nil => simp at h
  | cons c l => exact ⟨a, b, c, l, rfl⟩
/-- What is read is written: a letter. -/
theorem enc_ltr {l : List UInt8} (h : (ltr l).2 ≠ 0) (hv : (ltr l).1 < 65536) : enc (ltr l).1 = l.take (ltr l).2 := by
  rcases ltr_cases l with e | ⟨hn, h0, e⟩ | ⟨hn, h0, e⟩ | ⟨hn, h0, e⟩ | ⟨hn, h0, e⟩ <;> rw [e] at h hv ⊢ <;> simp only at h hv ⊢
  · exact absurd rfl h
  · obtain ⟨a, t, rfl⟩ := List.exists_cons_of_ne_nil hn
    rw [enc_1 h0, bt_0]
    simp
  · obtain ⟨h1, h2, h3, h4, h5⟩ := h0
    obtain ⟨a, b, t, rfl⟩ := two_of h3
    · have e0 := bt_0 a (b :: t)
      have e1 := bt_1 a b t
      have ev : v2 (a :: b :: t) = (a.toNat - 192) * 64 + b.toNat - 128 := by unfold v2; rw [e0, e1]
      generalize v2 (a :: b :: t) = v at ev h5 hv ⊢
      rw [e0] at h1 h2
      rw [e1] at h4
      obtain ⟨h6, h7⟩ := h4
      obtain ⟨A, hA⟩ : ∃ A, A = a.toNat := ⟨_, rfl⟩
      obtain ⟨B, hB⟩ : ∃ B, B = b.toNat := ⟨_, rfl⟩
      rw [← hA] at h1 h2 ev
      rw [← hB] at h6 h7 ev
      have x1 : v < 2048 := by omega
      have x2 : 192 + v / 64 = A := by omega
      have x3 : 128 + v % 64 = B := by omega
      rw [enc_2 h5 x1, x2, x3, hA, hB, u8_is (a := a) rfl, u8_is (a := b) rfl]
      rfl
  · obtain ⟨h1, h2, h3, h4, h4', h5, h6⟩ := h0
    obtain ⟨a, b, c, t, rfl⟩ := three_of h3
    · have e0 := bt_0 a (b :: c :: t)
      have e1 := bt_1 a b (c :: t)
      have e2 := bt_2 a b c t
      have ev : v3 (a :: b :: c :: t) = ((a.toNat - 224) * 64 + b.toNat - 128) * 64 + c.toNat - 128 := by unfold v3; rw [e0, e1, e2]
      generalize v3 (a :: b :: c :: t) = v at ev h5 h6 hv ⊢
      rw [e0] at h1 h2
      rw [e1] at h4
      rw [e2] at h4'
      obtain ⟨h7, h8⟩ := h4
      obtain ⟨h9, h10⟩ := h4'
      obtain ⟨A, hA⟩ : ∃ A, A = a.toNat := ⟨_, rfl⟩
      obtain ⟨B, hB⟩ : ∃ B, B = b.toNat := ⟨_, rfl⟩
      obtain ⟨C, hC⟩ : ∃ C, C = c.toNat := ⟨_, rfl⟩
      rw [← hA] at h1 h2 ev
      rw [← hB] at h7 h8 ev
      rw [← hC] at h9 h10 ev
      have x2 : 224 + v / 4096 = A := by omega
      have x3 : 128 + v / 64 % 64 = B := by omega
      have x4 : 128 + v % 64 = C := by omega
      rw [enc_3 h5, x2, x3, x4, hA, hB, hC, u8_is (a := a) rfl, u8_is (a := b) rfl, u8_is (a := c) rfl]
      rfl
  · have := h0.2.2.2.2.2.2.1
    omega
/-- The byte of a letter. -/
def inv (v : Nat) : Option Nat := if v < 128 then some v else ((List.range 128).find? (fun k => tb k == v)).map (128 + ·)
theorem inv_small {v : Nat} (h : v < 128) : inv v = some v := if_pos h
theorem inv_at {k : Nat} (h : k < 128) : inv (tb k) = some (128 + k) := by
  rw [inv, if_neg (by have := tb_bd h; omega)]
  cases hf : (List.range 128).find? (fun j => tb j == tb k) with
  | none =>
    have := List.find?_eq_none.1 hf k (List.mem_range.2 h)
    simp at this
  | some j =>
    have h1 := List.find?_some hf
    have h2 := List.mem_range.1 (List.mem_of_find?_eq_some hf)
    rw [tb_one h2 h (by simpa using h1)]
    rfl
theorem inv_no {v : Nat} (h : 128 ≤ v) (h2 : ∀ k, k < 128 → tb k ≠ v) : inv v = none := by
  rw [inv, if_neg (by omega), List.find?_eq_none.2 (fun k hk => by simpa using h2 k (List.mem_range.1 hk))]
  rfl
theorem inv_is {v x : Nat} (h : inv v = some x) : x < 256 ∧ v = chL (UInt8.ofNat x) := by
  unfold inv at h
  split at h
  · rename_i hv
    obtain rfl := Option.some.inj h
    refine ⟨by omega, ?_⟩
    rw [chL, u8 (by omega), if_pos hv]
  · cases hf : (List.range 128).find? (fun j => tb j == v) with
    | none => rw [hf] at h; cases h
    | some j =>
      rw [hf] at h
      have h1 := List.find?_some hf
      have h2 := List.mem_range.1 (List.mem_of_find?_eq_some hf)
      obtain rfl : 128 + j = x := Option.some.inj h
      refine ⟨by omega, ?_⟩
      rw [chL, u8 (by omega), if_neg (by omega), Nat.add_sub_cancel_left]
      exact (by simpa using h1 : tb j = v).symm
theorem inv_ch (x : UInt8) : inv (chL x) = some x.toNat := by
  have := x.toNat_lt
  unfold chL
  split
  · rename_i h
    exact inv_small h
  · rw [inv_at (by omega)]
    congr 1
    omega
theorem inv_lt {v x : Nat} (h : inv v = some x) : v < 55296 := by rw [(inv_is h).2]; exact chL_lt _
/-- The letters of bytes. -/
def fro : List UInt8 → List UInt8
  | [] => []
  | x :: b => enc (chL x) ++ fro b
theorem fro_app (a b : List UInt8) : fro (a ++ b) = fro a ++ fro b := by
  induction a with
  | nil => rfl
  | cons x a ih => rw [List.cons_append, fro, ih, fro, List.append_assoc]
theorem fro_len (b : List UInt8) : (fro b).length ≤ 3 * b.length := by
  induction b with
  | nil => simp [fro]
  | cons x b ih =>
    have := enc_len (chL x)
    rw [fro, List.length_append, List.length_cons]
    omega
/-- The bytes of letters, behind what is told already. -/
def too (l acc : List UInt8) : Option (List UInt8) := if (ltr l).2 = 0 then (if l = [] then some acc else none) else match inv (ltr l).1 with | none => none | some x => too (l.drop (ltr l).2) (acc ++ [UInt8.ofNat x])
termination_by l.length
decreasing_by
  have := ltr_le l
  rw [List.length_drop]
  omega
theorem too_nil (acc : List UInt8) : too [] acc = some acc := by rw [too]; simp [ltr]
theorem too_bad {l : List UInt8} (acc : List UInt8) (h : (ltr l).2 = 0) (hn : l ≠ []) : too l acc = none := by rw [too, if_pos h, if_neg hn]
theorem too_no {l : List UInt8} (acc : List UInt8) (h : (ltr l).2 ≠ 0) (hi : inv (ltr l).1 = none) : too l acc = none := by rw [too, if_neg h, hi]
theorem too_yes {l : List UInt8} (acc : List UInt8) {x : Nat} (h : (ltr l).2 ≠ 0) (hi : inv (ltr l).1 = some x) : too l acc = too (l.drop (ltr l).2) (acc ++ [UInt8.ofNat x]) := by rw [too, if_neg h, hi]
theorem too_fro : ∀ (b acc : List UInt8), too (fro b) acc = some (acc ++ b) := by
  intro b
  induction b with
  | nil => intro acc; rw [List.append_nil]; exact too_nil acc
  | cons x b ih =>
    intro acc
    have e := ltr_enc (chL_lt x) (fro b)
    rw [fro, too_yes acc (x := x.toNat) (by rw [e]; exact enc_ne _) (by rw [e]; exact inv_ch x), e]
    simp only
    rw [List.drop_left, ih, List.append_assoc]
    simp
theorem too_len : ∀ (n : Nat) (l acc b : List UInt8), l.length ≤ n → too l acc = some b → b.length ≤ acc.length + l.length := by
  intro n
  induction n with
  | zero =>
    intro l acc b hl h
    have : l = [] := List.eq_nil_of_length_eq_zero (by omega)
    subst this
    rw [too_nil] at h
    rw [Option.some.inj h]
    omega
  | succ n ih =>
    intro l acc b hl h
    have hle := ltr_le l
    by_cases h0 : (ltr l).2 = 0
    · by_cases hn : l = []
      · subst hn
        rw [too_nil] at h
        rw [Option.some.inj h]
        omega
      · rw [too_bad acc h0 hn] at h
        cases h
    · cases hi : inv (ltr l).1 with
      | none => rw [too_no acc h0 hi] at h; cases h
      | some x =>
        rw [too_yes acc h0 hi] at h
        have := ih _ _ b (by rw [List.length_drop]; omega) h
        rw [List.length_append, List.length_drop] at this
        simp only [List.length_cons, List.length_nil] at this
        omega
theorem fro_too : ∀ (n : Nat) (l acc b : List UInt8), l.length ≤ n → too l acc = some b → ∃ c, b = acc ++ c ∧ fro c = l := by
  intro n
  induction n with
  | zero =>
    intro l acc b hl h
    have : l = [] := List.eq_nil_of_length_eq_zero (by omega)
    subst this
    rw [too_nil] at h
    exact ⟨[], by rw [List.append_nil, Option.some.inj h], rfl⟩
  | succ n ih =>
    intro l acc b hl h
    have hle := ltr_le l
    by_cases h0 : (ltr l).2 = 0
    · by_cases hn : l = []
      · subst hn
        rw [too_nil] at h
        exact ⟨[], by rw [List.append_nil, Option.some.inj h], rfl⟩
      · rw [too_bad acc h0 hn] at h
        cases h
    · cases hi : inv (ltr l).1 with
      | none => rw [too_no acc h0 hi] at h; cases h
      | some x =>
        rw [too_yes acc h0 hi] at h
        obtain ⟨c, rfl, hc⟩ := ih _ _ b (by rw [List.length_drop]; omega) h
        have hx := inv_is hi
        refine ⟨UInt8.ofNat x :: c, by rw [List.append_assoc]; rfl, ?_⟩
        have hlt := inv_lt hi
        rw [fro, hc, ← hx.2, enc_ltr h0 (by omega), List.take_append_drop]
theorem vld_fro : ∀ (b : List UInt8), vld (fro b) = true := by
  intro b
  induction b with
  | nil => exact vld_nil
  | cons x b ih =>
    have e := ltr_enc (chL_lt x) (fro b)
    rw [fro, vld_step (by rw [e]; exact enc_ne _), e]
    simp only
    rw [List.drop_left, ih]
end Go.Proofs.Ytlfffpgokemjbab.E
