/- What is written is read: the plain mathematics of it. -/
import Derived.Test.YtamkjlihlnejoaaReadMore
namespace Go.Proofs.Ytamkjlihlnejoaa
open Go.RowKit

theorem pack_bit (L : List Int) (h : Bin L) (i n j : Nat) (hj : j < n) : packB L i n / 2 ^ j % 2 = L.getD (i + j) 0 := by
  induction n with
  | zero => omega
  | succ n ih =>
    have hb := packB_bd L h i n
    have hp := pow_pos' n
    have hbit := h (i + n)
    by_cases e : j = n
    · subst e
      rw [packB, Int.add_mul_ediv_left _ _ (by omega), Int.ediv_eq_zero_of_lt hb.1 hb.2]
      omega
    · have hm : packB L i (n + 1) % 2 ^ n = packB L i n := by
        rw [packB, Int.add_mul_emod_self_left, Int.emod_eq_of_lt hb.1 hb.2]
      rw [← bit_mod _ n j (by omega), hm]
      exact ih (by omega)

theorem bytesL_getD (L : List Int) (q r : Nat) (h : r < q) : (bytesL L q).getD r 0 = packB L (8 * r) 8 := by
  simp [bytesL, List.getD, h]

theorem bytesL_length (L : List Int) (q : Nat) : (bytesL L q).length = q := by simp [bytesL]

theorem dataL_length (L : List Int) : (dataL L).length = (L.length + 7) / 8 := bytesL_length _ _

theorem dataL_bytes (L : List Int) (h : Bin L) (i : Nat) : 0 ≤ (dataL L).getD i 0 ∧ (dataL L).getD i 0 ≤ 255 := by
  by_cases hi : i < (L.length + 7) / 8
  · unfold dataL
    rw [bytesL_getD L _ i hi]
    have := packB_bd L h (8 * i) 8
    have e : (2 : Int) ^ 8 = 256 := by decide
    omega
  · simp [List.getD, List.getElem?_eq_none (show (dataL L).length ≤ i by rw [dataL_length]; omega)]

theorem data_bitAt (L : List Int) (h : Bin L) (i : Nat) (hi : i < L.length) : bitAt (dataL L) i = L.getD i 0 := by
  unfold bitAt dataL
  rw [bytesL_getD L _ (i / 8) (by omega), pack_bit L h (8 * (i / 8)) 8 (i % 8) (by omega)]
  congr 1; omega

theorem bitsVal_pack (zs L : List Int) (p n : Nat) (h : ∀ k, k < n → bitAt zs (p + k) = L.getD (p + k) 0) : bitsVal zs p n = packB L p n := by
  induction n with
  | zero => rfl
  | succ n ih => rw [bitsVal, packB, ih (fun k hk => h k (by omega)), h n (by omega), Int.mul_comm]

/-- The n bits that were laid at a place are read there. -/
theorem back_bits (A C : List Int) (v : Int) (n : Nat) (hb : Bin (A ++ bitsN v n ++ C)) : bitsVal (dataL (A ++ bitsN v n ++ C)) A.length n = v % 2 ^ n := by
  rw [bitsVal_pack _ (A ++ bitsN v n ++ C) A.length n (fun k hk => data_bitAt _ hb _ (by simp [bitsN_length]; omega)), packB_congr _ (bitsN v n) _ 0 n (fun k hk => ?_), packB_num v n n (Nat.le_refl _)]
  rw [List.append_assoc, getD_right (by omega), getD_left (by rw [bitsN_length]; omega)]
  congr 1; omega

/-- The bytes that were laid at a place are read there. -/
theorem back_bytes (A C zs : List Int) (f : Nat) (hf : A.length = 8 * f) (hz : ∀ x ∈ zs, 0 ≤ x ∧ x ≤ 255) : ((dataL (A ++ rowOf zs ++ C)).drop f).take zs.length = zs := by
  apply List.ext_getElem
  · simp [dataL_length, rowOf_length, hf]; omega
  · intro i hi hi'
    have hil : f + i < ((A ++ rowOf zs ++ C).length + 7) / 8 := by simp [rowOf_length, hf]; omega
    have h1 : (((dataL (A ++ rowOf zs ++ C)).drop f).take zs.length)[i] = (dataL (A ++ rowOf zs ++ C)).getD (f + i) 0 := by
      have hd : f + i < (dataL (A ++ rowOf zs ++ C)).length := by rw [dataL_length]; exact hil
      rw [List.getElem_take, List.getElem_drop, List.getD, List.getElem?_eq_getElem hd, Option.getD_some]
    rw [h1]
    unfold dataL
    rw [bytesL_getD _ _ _ hil, packB_congr _ (bitsN (zs.getD i 0) 8) _ 0 8 (fun k hk => ?_), packB_num _ 8 8 (Nat.le_refl _)]
    · have := hz zs[i] (List.getElem_mem hi')
      have e : (2 : Int) ^ 8 = 256 := by decide
      simp [List.getD, hi']
      omega
    · rw [List.append_assoc, getD_right (by omega), getD_left (by rw [rowOf_length]; omega), rowOf_getD, if_pos (by omega), Nat.zero_add, bitsN_getD, if_pos hk, show (8 * (f + i) + k - A.length) / 8 = i by omega, show (8 * (f + i) + k - A.length) % 8 = k by omega]

theorem stepL_app (L : List Int) (d : OpD) : ∃ T, stepL L d = L ++ T := by
  unfold stepL
  split
  · split
    · exact ⟨_, rfl⟩
    · exact ⟨[], by simp⟩
  · split
    · exact ⟨_, rfl⟩
    · split
      · exact ⟨_, by rw [List.append_assoc]⟩
      · exact ⟨[], by simp⟩

theorem rowAt_app (os : Nat → OpD) (k m : Nat) : ∃ T, rowAt os (k + m) = rowAt os k ++ T := by
  induction m with
  | zero => exact ⟨[], by simp⟩
  | succ m ih =>
    obtain ⟨T, hT⟩ := ih
    obtain ⟨U, hU⟩ := stepL_app (rowAt os (k + m)) (os (k + m))
    exact ⟨T ++ U, by rw [← Nat.add_assoc, rowAt, hU, hT, List.append_assoc]⟩

theorem rowAt_pre (os : Nat → OpD) (k n : Nat) (h : k ≤ n) : ∃ T, rowAt os n = rowAt os k ++ T := by
  have := rowAt_app os k (n - k)
  rwa [show k + (n - k) = n by omega] at this

theorem pad_up (p : Nat) : 8 * ((p + 7) / 8) = p + pad p := by unfold pad; omega
#print axioms back_bytes
end Go.Proofs.Ytamkjlihlnejoaa
