/- Several texts, laid together: HNext, HAlive, HBits. -/
import Derived.Test.YtlakgbckopjelaaDoorG07ReadBits
import Derived.Test.YtlakgbckopjelaaDoorG04HMath
import Derived.Laws.BytesArg
/- huff's Next: contract. -/
namespace Go.Proofs.YtlakgbckopjelaaDoor
set_option maxRecDepth 100000
open Go Go.RowKit

/-- The bits of bytes from p on. -/
def bz (zs : List Int) (p i : Nat) : Nat := (bitAt zs (p + i)).toNat
end Go.Proofs.YtlakgbckopjelaaDoor

/- The laws' probe, 'alive': it answers true, and writes nothing that was there. -/
namespace Go.Proofs.YtlakgbckopjelaaDoor
set_option maxRecDepth 100000
open Go Go.RowKit

def ls4 : List Int := [2, 1, 3, 3]
end Go.Proofs.YtlakgbckopjelaaDoor

/- Bits and bytes: the bits of bytes, the bytes of bits; what is laid is read. Out of stage 1's texts. -/
namespace Go.Proofs.YtlakgbckopjelaaDoor
set_option maxRecDepth 100000
open Go.RowKit

/-- The bytes of which the bits L are the first ones. -/
def dataL (L : List Int) : List Int := bytesL L ((L.length + 7) / 8)

theorem getD_left {A B : List Int} {i : Nat} (h : i < A.length) : (A ++ B).getD i 0 = A.getD i 0 := by
  simp [List.getD, List.getElem?_append_left h]
theorem getD_right {A B : List Int} {i : Nat} (h : A.length ≤ i) : (A ++ B).getD i 0 = B.getD (i - A.length) 0 := by
  simp [List.getD, List.getElem?_append_right h]

theorem bitsN_getD (x : Int) (n i : Nat) : (bitsN x n).getD i 0 = if i < n then x / 2 ^ i % 2 else 0 := by
  induction n with
  | zero => simp [bitsN]
  | succ n ih =>
    rw [bitsN]
    by_cases h : i < n
    · rw [getD_left (by rw [bitsN_length]; exact h), ih, if_pos h, if_pos (by omega)]
    · rw [getD_right (by rw [bitsN_length]; omega), bitsN_length]
      by_cases e : i = n
      · subst e; simp
      · rw [if_neg (by omega)]
        have : i - n ≠ 0 := by omega
        simp [List.getD, this]

theorem rowOf_getD (bs : List Int) (i : Nat) : (rowOf bs).getD i 0 = if i < 8 * bs.length then bs.getD (i / 8) 0 / 2 ^ (i % 8) % 2 else 0 := by
  induction bs generalizing i with
  | nil => simp [rowOf]
  | cons x r ih =>
    have e : rowOf (x :: r) = bitsN x 8 ++ rowOf r := by simp [rowOf]
    rw [e]
    by_cases h : i < 8
    · rw [getD_left (by rw [bitsN_length]; exact h), bitsN_getD, if_pos h, if_pos (by simp; omega), show i / 8 = 0 by omega, show i % 8 = i by omega]
      rfl
    · rw [getD_right (by rw [bitsN_length]; omega), bitsN_length, ih]
      have e1 : i / 8 = (i - 8) / 8 + 1 := by omega
      have e2 : i % 8 = (i - 8) % 8 := by omega
      rw [e1, e2, List.getD_cons_succ]
      by_cases hb : i - 8 < 8 * r.length
      · rw [if_pos hb, if_pos (by simp; omega)]
      · rw [if_neg hb, if_neg (by simp; omega)]

theorem packB_congr (L L' : List Int) (i i' j : Nat) (h : ∀ k, k < j → L.getD (i + k) 0 = L'.getD (i' + k) 0) : packB L i j = packB L' i' j := by
  induction j with
  | zero => rfl
  | succ j ih => rw [packB, packB, ih (fun k hk => h k (by omega)), h j (by omega)]

theorem packB_num (x : Int) (n j : Nat) (hj : n ≤ j) : packB (bitsN x n) 0 j = x % 2 ^ n := by
  have base : ∀ k, k ≤ n → packB (bitsN x n) 0 k = x % 2 ^ k := by
    intro k
    induction k with
    | zero => intro _; simp [packB]
    | succ k ih =>
      intro hk
      rw [packB, ih (by omega), Nat.zero_add, bitsN_getD, if_pos (by omega), mod_pow_succ, Int.mul_comm]
  have up : ∀ d, packB (bitsN x n) 0 (n + d) = x % 2 ^ n := by
    intro d
    induction d with
    | zero => exact base n (Nat.le_refl _)
    | succ d ih => rw [← Nat.add_assoc, packB, ih, Nat.zero_add, bitsN_getD, if_neg (by omega), Int.mul_zero, Int.add_zero]
  have := up (j - n)
  rwa [show n + (j - n) = j by omega] at this

theorem dataL_row (bs : List Int) (t : Int) (m : Nat) (hb : ∀ x ∈ bs, 0 ≤ x ∧ x ≤ 255) (h0 : 0 ≤ t) (h1 : t < 2 ^ m) (hm : m ≤ 7) : dataL (rowOf bs ++ bitsN t m) = dataOf bs t m := by
  have hlen : (rowOf bs ++ bitsN t m).length = 8 * bs.length + m := by simp [rowOf_length, bitsN_length]
  have one : ∀ r, r < bs.length → packB (rowOf bs ++ bitsN t m) (8 * r) 8 = bs.getD r 0 := by
    intro r hr
    have hx : 0 ≤ bs.getD r 0 ∧ bs.getD r 0 ≤ 255 := by
      have := hb bs[r] (List.getElem_mem hr)
      simpa [List.getD, hr] using this
    rw [packB_congr _ (bitsN (bs.getD r 0) 8) _ 0 8 (fun k hk => ?_), packB_num _ 8 8 (Nat.le_refl _)]
    · have : (2 : Int) ^ 8 = 256 := by decide
      rw [this]; omega
    · rw [getD_left (by rw [rowOf_length]; omega), rowOf_getD, if_pos (by omega), Nat.zero_add, bitsN_getD, if_pos hk, show (8 * r + k) / 8 = r by omega, show (8 * r + k) % 8 = k by omega]
  have last : packB (rowOf bs ++ bitsN t m) (8 * bs.length) 8 = t := by
    rw [packB_congr _ (bitsN t m) _ 0 8 (fun k hk => ?_), packB_num _ m 8 (by omega), Int.emod_eq_of_lt h0 h1]
    rw [getD_right (by rw [rowOf_length]; omega), rowOf_length]
    congr 1; omega
  unfold dataL dataOf bytesL
  rw [hlen]
  by_cases hm0 : 0 < m
  · rw [if_pos hm0, show (8 * bs.length + m + 7) / 8 = bs.length + 1 by omega, List.range_succ, List.map_append]
    congr 1
    · apply List.ext_getElem
      · simp
      · intro i hi hi'
        have := one i (by simpa using hi)
        simp only [List.getElem_map, List.getElem_range, this]
        simp [List.getD, show i < bs.length by simpa using hi]
    · simp [last]
  · rw [if_neg hm0, show (8 * bs.length + m + 7) / 8 = bs.length by omega]
    apply List.ext_getElem
    · simp
    · intro i hi hi'
      have := one i (by simpa using hi)
      simp only [List.getElem_map, List.getElem_range, this]
      simp [List.getD, show i < bs.length by simpa using hi]

theorem conv_own {w : World} {base : Nat} {v : Value} {D : List Int} (h : OwnsB w base v D) : (convert 22 9 v).run Tryd.prog w = .ok (.string (strOfNums D)) w := by
  rcases h.2 with ⟨rfl, h2⟩ | ⟨g, cap, cur, rfl, hg, hh, hr⟩
  · have : D = [] := List.eq_nil_of_length_eq_zero h2
    subst this
    exact run_convert_bytes_nil w 22 5 Tryd.underlying22 Tryd.underlying5 0 0 9 Tryd.underlying9
  · refine run_convert_bytes_arg w 22 5 Tryd.underlying22 Tryd.underlying5 g 0 D.length cap D rfl (fun i hi => ?_) 9 Tryd.underlying9
    have := World.ownsRow.cellAt h i (by omega)
    rw [Nat.zero_add, this]
    simp [List.getD, hi]

theorem OwnsB.below {w w' : World} {base : Nat} {v : Value} {D : List Int} (h : OwnsB w base v D) (b : Below w.heap.size w w') : OwnsB w' base v D :=
  ownsRow_kept h (Kept.of_below b) (fun g hg e => by have := (ownsRow_lt h hg).2; omega)

theorem pack_bit (L : List Int) (h : Bin L) (i n j : Nat) (hj : j < n) : packB L i n / 2 ^ j % 2 = L.getD (i + j) 0 := by
  induction n with
  | zero => omega
  | succ n ih =>
    have hb := packB_bd L h i n
    have hp := pow_pos' n
    have hbit := h (i + n)
    by_cases e : j = n
    · subst e
      rw [packB, Int.add_mul_ediv_left _ _ (by omega), Int.ediv_eq_zero_of_lt hb.1 hb.2]
      omega
    · have hm : packB L i (n + 1) % 2 ^ n = packB L i n := by
        rw [packB, Int.add_mul_emod_self_left, Int.emod_eq_of_lt hb.1 hb.2]
      rw [← bit_mod _ n j (by omega), hm]
      exact ih (by omega)

theorem bytesL_getD (L : List Int) (q r : Nat) (h : r < q) : (bytesL L q).getD r 0 = packB L (8 * r) 8 := by
  simp [bytesL, List.getD, h]

theorem bytesL_length (L : List Int) (q : Nat) : (bytesL L q).length = q := by simp [bytesL]

theorem dataL_length (L : List Int) : (dataL L).length = (L.length + 7) / 8 := bytesL_length _ _

theorem dataL_bytes (L : List Int) (h : Bin L) (i : Nat) : 0 ≤ (dataL L).getD i 0 ∧ (dataL L).getD i 0 ≤ 255 := by
  by_cases hi : i < (L.length + 7) / 8
  · unfold dataL
    rw [bytesL_getD L _ i hi]
    have := packB_bd L h (8 * i) 8
    have e : (2 : Int) ^ 8 = 256 := by decide
    omega
  · simp [List.getD, List.getElem?_eq_none (show (dataL L).length ≤ i by rw [dataL_length]; omega)]

theorem data_bitAt (L : List Int) (h : Bin L) (i : Nat) (hi : i < L.length) : bitAt (dataL L) i = L.getD i 0 := by
  unfold bitAt dataL
  rw [bytesL_getD L _ (i / 8) (by omega), pack_bit L h (8 * (i / 8)) 8 (i % 8) (by omega)]
  congr 1; omega


end Go.Proofs.YtlakgbckopjelaaDoor
