/- Several texts, laid together: ReadBits, HNext, HAlive, HBits, HPut. -/
import Derived.Test.YtlakgbckopjelabGreatDoorG00Row
import Derived.Test.YtlakgbckopjelabGreatDoorG05HRef3
import Derived.Test.YtlakgbckopjelabGreatDoorG02RefBytes
import Derived.Laws.BytesArg
import Derived.Test.YtlakgbckopjelabGreatDoorWrite
/- The reader's Bits: where so many bits are left, it tells them as a number and stands behind them. -/
namespace Go.Proofs.YtlakgbckopjelabGreatDoor
set_option maxRecDepth 100000
open Go.RowKit

end Go.Proofs.YtlakgbckopjelabGreatDoor

/- huff's Next: contract. -/
namespace Go.Proofs.YtlakgbckopjelabGreatDoor
set_option maxRecDepth 100000
open Go Go.RowKit

/-- The bits of bytes from p on. -/
def bz (zs : List Int) (p i : Nat) : Nat := (bitAt zs (p + i)).toNat
end Go.Proofs.YtlakgbckopjelabGreatDoor

/- The laws' probe, 'alive': it answers true, and writes nothing that was there. -/
namespace Go.Proofs.YtlakgbckopjelabGreatDoor
set_option maxRecDepth 100000
open Go Go.RowKit

theorem ints_of {w : World} {g : Nat} {L : List Int} {t : TypeId} {fr : Nat × Nat} (h : w.heap[g]? = some (.cells (valA L) t fr)) : Ints g (g + 1) w (some ⟨g, 0, none⟩) L :=
  .inr ⟨g, 0, by omega, by omega, lt_of_block h, rfl, fun i hi => by
    rw [Nat.zero_add]
    have : w.cell? ⟨g, i, none⟩ = (valA L)[i]? := by simp [World.cell?, h]
    rw [this]; exact valA_at L hi⟩

def ls4 : List Int := [2, 1, 3, 3]
end Go.Proofs.YtlakgbckopjelabGreatDoor

/- Bits and bytes: the bits of bytes, the bytes of bits; what is laid is read. Out of stage 1's texts. -/
namespace Go.Proofs.YtlakgbckopjelabGreatDoor
set_option maxRecDepth 100000
open Go.RowKit

/-- The bytes of which the bits L are the first ones. -/
def dataL (L : List Int) : List Int := bytesL L ((L.length + 7) / 8)

theorem getD_left {A B : List Int} {i : Nat} (h : i < A.length) : (A ++ B).getD i 0 = A.getD i 0 := by
  simp [List.getD, List.getElem?_append_left h]
theorem getD_right {A B : List Int} {i : Nat} (h : A.length ≤ i) : (A ++ B).getD i 0 = B.getD (i - A.length) 0 := by
  simp [List.getD, List.getElem?_append_right h]

theorem bitsN_getD (x : Int) (n i : Nat) : (bitsN x n).getD i 0 = if i < n then x / 2 ^ i % 2 else 0 := by
  induction n with
  | zero => simp [bitsN]
  | succ n ih =>
    rw [bitsN]
    by_cases h : i < n
    · rw [getD_left (by rw [bitsN_length]; exact h), ih, if_pos h, if_pos (by omega)]
    · rw [getD_right (by rw [bitsN_length]; omega), bitsN_length]
      by_cases e : i = n
      · subst e; simp
      · rw [if_neg (by omega)]
        have : i - n ≠ 0 := by omega
        simp [List.getD, this]

theorem rowOf_getD (bs : List Int) (i : Nat) : (rowOf bs).getD i 0 = if i < 8 * bs.length then bs.getD (i / 8) 0 / 2 ^ (i % 8) % 2 else 0 := by
  induction bs generalizing i with
  | nil => simp [rowOf]
  | cons x r ih =>
    have e : rowOf (x :: r) = bitsN x 8 ++ rowOf r := by simp [rowOf]
    rw [e]
    by_cases h : i < 8
    · rw [getD_left (by rw [bitsN_length]; exact h), bitsN_getD, if_pos h, if_pos (by simp; omega), show i / 8 = 0 by omega, show i % 8 = i by omega]
      rfl
    · rw [getD_right (by rw [bitsN_length]; omega), bitsN_length, ih]
      have e1 : i / 8 = (i - 8) / 8 + 1 := by omega
      have e2 : i % 8 = (i - 8) % 8 := by omega
      rw [e1, e2, List.getD_cons_succ]
      by_cases hb : i - 8 < 8 * r.length
      · rw [if_pos hb, if_pos (by simp; omega)]
      · rw [if_neg hb, if_neg (by simp; omega)]

theorem bit01 (x : Int) : 0 ≤ x % 2 ∧ x % 2 ≤ 1 := by omega

theorem bin_append {A B : List Int} (ha : Bin A) (hb : Bin B) : Bin (A ++ B) := by
  intro i
  by_cases h : i < A.length
  · rw [getD_left h]; exact ha i
  · rw [getD_right (by omega)]; exact hb _
theorem bin_bitsN (x : Int) (n : Nat) : Bin (bitsN x n) := by
  intro i
  rw [bitsN_getD]
  split
  · exact bit01 _
  · decide
theorem bin_rowOf (bs : List Int) : Bin (rowOf bs) := by
  intro i
  rw [rowOf_getD]
  split
  · exact bit01 _
  · decide

theorem packB_congr (L L' : List Int) (i i' j : Nat) (h : ∀ k, k < j → L.getD (i + k) 0 = L'.getD (i' + k) 0) : packB L i j = packB L' i' j := by
  induction j with
  | zero => rfl
  | succ j ih => rw [packB, packB, ih (fun k hk => h k (by omega)), h j (by omega)]

theorem packB_num (x : Int) (n j : Nat) (hj : n ≤ j) : packB (bitsN x n) 0 j = x % 2 ^ n := by
  have base : ∀ k, k ≤ n → packB (bitsN x n) 0 k = x % 2 ^ k := by
    intro k
    induction k with
    | zero => intro _; simp [packB]
    | succ k ih =>
      intro hk
      rw [packB, ih (by omega), Nat.zero_add, bitsN_getD, if_pos (by omega), mod_pow_succ, Int.mul_comm]
  have up : ∀ d, packB (bitsN x n) 0 (n + d) = x % 2 ^ n := by
    intro d
    induction d with
    | zero => exact base n (Nat.le_refl _)
    | succ d ih => rw [← Nat.add_assoc, packB, ih, Nat.zero_add, bitsN_getD, if_neg (by omega), Int.mul_zero, Int.add_zero]
  have := up (j - n)
  rwa [show n + (j - n) = j by omega] at this

theorem dataL_row (bs : List Int) (t : Int) (m : Nat) (hb : ∀ x ∈ bs, 0 ≤ x ∧ x ≤ 255) (h0 : 0 ≤ t) (h1 : t < 2 ^ m) (hm : m ≤ 7) : dataL (rowOf bs ++ bitsN t m) = dataOf bs t m := by
  have hlen : (rowOf bs ++ bitsN t m).length = 8 * bs.length + m := by simp [rowOf_length, bitsN_length]
  have one : ∀ r, r < bs.length → packB (rowOf bs ++ bitsN t m) (8 * r) 8 = bs.getD r 0 := by
    intro r hr
    have hx : 0 ≤ bs.getD r 0 ∧ bs.getD r 0 ≤ 255 := by
      have := hb bs[r] (List.getElem_mem hr)
      simpa [List.getD, hr] using this
    rw [packB_congr _ (bitsN (bs.getD r 0) 8) _ 0 8 (fun k hk => ?_), packB_num _ 8 8 (Nat.le_refl _)]
    · have : (2 : Int) ^ 8 = 256 := by decide
      rw [this]; omega
    · rw [getD_left (by rw [rowOf_length]; omega), rowOf_getD, if_pos (by omega), Nat.zero_add, bitsN_getD, if_pos hk, show (8 * r + k) / 8 = r by omega, show (8 * r + k) % 8 = k by omega]
  have last : packB (rowOf bs ++ bitsN t m) (8 * bs.length) 8 = t := by
    rw [packB_congr _ (bitsN t m) _ 0 8 (fun k hk => ?_), packB_num _ m 8 (by omega), Int.emod_eq_of_lt h0 h1]
    rw [getD_right (by rw [rowOf_length]; omega), rowOf_length]
    congr 1; omega
  unfold dataL dataOf bytesL
  rw [hlen]
  by_cases hm0 : 0 < m
  · rw [if_pos hm0, show (8 * bs.length + m + 7) / 8 = bs.length + 1 by omega, List.range_succ, List.map_append]
    congr 1
    · apply List.ext_getElem
      · simp
      · intro i hi hi'
        have := one i (by simpa using hi)
        simp only [List.getElem_map, List.getElem_range, this]
        simp [List.getD, show i < bs.length by simpa using hi]
    · simp [last]
  · rw [if_neg hm0, show (8 * bs.length + m + 7) / 8 = bs.length by omega]
    apply List.ext_getElem
    · simp
    · intro i hi hi'
      have := one i (by simpa using hi)
      simp only [List.getElem_map, List.getElem_range, this]
      simp [List.getD, show i < bs.length by simpa using hi]

theorem conv_own {w : World} {base : Nat} {v : Value} {D : List Int} (h : OwnsB w base v D) : (convert 23 9 v).run Tryz.prog w = .ok (.string (strOfNums D)) w := by
  rcases h.2 with ⟨rfl, h2⟩ | ⟨g, cap, cur, rfl, hg, hh, hr⟩
  · have : D = [] := List.eq_nil_of_length_eq_zero h2
    subst this
    exact run_convert_bytes_nil w 23 5 Tryz.underlying23 Tryz.underlying5 0 0 9 Tryz.underlying9
  · refine run_convert_bytes_arg w 23 5 Tryz.underlying23 Tryz.underlying5 g 0 D.length cap D rfl (fun i hi => ?_) 9 Tryz.underlying9
    have := World.ownsRow.cellAt h i (by omega)
    rw [Nat.zero_add, this]
    simp [List.getD, hi]

theorem OwnsB.below {w w' : World} {base : Nat} {v : Value} {D : List Int} (h : OwnsB w base v D) (b : Below w.heap.size w w') : OwnsB w' base v D :=
  ownsRow_kept h (Kept.of_below b) (fun g hg e => by have := (ownsRow_lt h hg).2; omega)

theorem pack_bit (L : List Int) (h : Bin L) (i n j : Nat) (hj : j < n) : packB L i n / 2 ^ j % 2 = L.getD (i + j) 0 := by
  induction n with
  | zero => omega
  | succ n ih =>
    have hb := packB_bd L h i n
    have hp := pow_pos' n
    have hbit := h (i + n)
    by_cases e : j = n
    · subst e
      rw [packB, Int.add_mul_ediv_left _ _ (by omega), Int.ediv_eq_zero_of_lt hb.1 hb.2]
      omega
    · have hm : packB L i (n + 1) % 2 ^ n = packB L i n := by
        rw [packB, Int.add_mul_emod_self_left, Int.emod_eq_of_lt hb.1 hb.2]
      rw [← bit_mod _ n j (by omega), hm]
      exact ih (by omega)

theorem bytesL_getD (L : List Int) (q r : Nat) (h : r < q) : (bytesL L q).getD r 0 = packB L (8 * r) 8 := by
  simp [bytesL, List.getD, h]

theorem bytesL_length (L : List Int) (q : Nat) : (bytesL L q).length = q := by simp [bytesL]

theorem dataL_length (L : List Int) : (dataL L).length = (L.length + 7) / 8 := bytesL_length _ _

theorem dataL_bytes (L : List Int) (h : Bin L) (i : Nat) : 0 ≤ (dataL L).getD i 0 ∧ (dataL L).getD i 0 ≤ 255 := by
  by_cases hi : i < (L.length + 7) / 8
  · unfold dataL
    rw [bytesL_getD L _ i hi]
    have := packB_bd L h (8 * i) 8
    have e : (2 : Int) ^ 8 = 256 := by decide
    omega
  · simp [List.getD, List.getElem?_eq_none (show (dataL L).length ≤ i by rw [dataL_length]; omega)]

theorem data_bitAt (L : List Int) (h : Bin L) (i : Nat) (hi : i < L.length) : bitAt (dataL L) i = L.getD i 0 := by
  unfold bitAt dataL
  rw [bytesL_getD L _ (i / 8) (by omega), pack_bit L h (8 * (i / 8)) 8 (i % 8) (by omega)]
  congr 1; omega


theorem row_bits (zs : List Int) (p : Nat) : bn (rowOf zs) p = bz zs p := by
  funext i
  unfold bn bz ln
  rw [rowOf_getD]
  split
  · rfl
  · have : zs.getD ((p + i) / 8) 0 = 0 := by simp [List.getD, List.getElem?_eq_none (show zs.length ≤ (p + i) / 8 by omega)]
    unfold bitAt
    rw [this]; simp
end Go.Proofs.YtlakgbckopjelabGreatDoor

/- huff's lay and Put: contracts. -/
namespace Go.Proofs.YtlakgbckopjelabGreatDoor
set_option maxRecDepth 100000
open Go Go.RowKit

/-- A code, turned round, has its own bits, the highest first. -/
theorem turn_row (c n : Nat) : bitsN (turnI (c : Int) n) n = rowL c n := by
  apply List.ext_getElem?
  intro j
  by_cases h : j < n
  · have h1 : j < (bitsN (turnI (c : Int) n) n).length := by rw [bitsN_length]; exact h
    have h2 : j < (rowL c n).length := by rw [rowL_length]; exact h
    have e1 := bitsN_getD (turnI (c : Int) n) n j
    have e2 := rowL_at c n h
    rw [if_pos h, turn_bit _ n j h] at e1
    unfold ln at e2
    rw [List.getElem?_eq_getElem h1, List.getElem?_eq_getElem h2]
    simp only [List.getD, List.getElem?_eq_getElem h1, Option.getD_some] at e1
    simp only [List.getD, List.getElem?_eq_getElem h2, Option.getD_some] at e2
    rw [e1, e2]
    unfold bitC
    push_cast; rfl
  · rw [List.getElem?_eq_none (by rw [bitsN_length]; omega), List.getElem?_eq_none (by rw [rowL_length]; omega)]

theorem lay_c (base bw : Nat) (v : Value) (bs : List Int) (t : Int) (m c n : Nat) (w : World) (h : Wr base bw w v bs t m) (hn : n ≤ 15) (hb : bs.length ≤ 1000000000) (hbase : base ≤ w.heap.size) :
    Calls Tryz.prog 91 #[.func (.func 39) #[.pointer (some ⟨bw, 0, none⟩)] #[], .int .i64 (c : Int), .int .i64 (n : Int)] w fun e w' => e = .returned (.tuple #[]) ∧ ∃ v' bs' t' m', Wr base bw w' v' bs' t' m' ∧ rowOf bs' ++ bitsN t' m' = rowOf bs ++ bitsN t m ++ rowL c n ∧ Kept (fun k => k = bw ∨ v.ownBlock = some k) w w' ∧ (v'.ownBlock = v.ownBlock ∨ ∀ g, v'.ownBlock = some g → w.heap.size ≤ g) := by
  have HW : Hid (Wr base bw w v bs t m) := h
  have HT := turn_yes (c : Int) (n : Int) w (by omega) (by omega)
  rw [Int.toNat_natCast] at HT
  have HB := wbits_yes base bw v bs t m (turnI (c : Int) n) n w h (by omega) (by omega) hbase
  rw [turn_row] at HB
  generalize turnI (c : Int) n = X at HT HB
  have HTT : Hid (Calls Tryz.prog 104 #[.int .i64 (c : Int), .int .i64 (n : Int)] w fun e w' => e = .returned (.int .i64 X) ∧ w' = w) := HT
  have HBB : Hid (Calls Tryz.prog 39 #[.pointer (some ⟨bw, 0, none⟩), .int .i64 X, .int .i64 (n : Int)] w fun e w' => e = .returned (.tuple #[]) ∧ ∃ v' bs' t' m', Wr base bw w' v' bs' t' m' ∧ rowOf bs' ++ bitsN t' m' = rowOf bs ++ bitsN t m ++ rowL c n ∧ Kept (fun k => k = bw ∨ v.ownBlock = some k) w w' ∧ (v'.ownBlock = v.ownBlock ∨ ∀ g, v'.ownBlock = some g → w.heap.size ≤ g)) := HB
  clear h HT HB
  go_enter Tryz.func91, Tryz.ntmps91
  go_wp2_with (first
    | (go_at_call 104; refine HTT.out.mono ?_; rintro e w1 ⟨rfl, hw1⟩; obtain rfl : w = w1 := hw1.symm)
    | (go_at_call 39; refine HBB.out.mono ?_; rintro e w2 ⟨rfl, h2⟩; have H2 : Hid (∃ v' bs' t' m', Wr base bw w2 v' bs' t' m' ∧ rowOf bs' ++ bitsN t' m' = rowOf bs ++ bitsN t m ++ rowL c n ∧ Kept (fun k => k = bw ∨ v.ownBlock = some k) w w2 ∧ (v'.ownBlock = v.ownBlock ∨ ∀ g, v'.ownBlock = some g → w.heap.size ≤ g)) := h2; clear h2))
  go_end0
  exact ⟨rfl, H2.out⟩

end Go.Proofs.YtlakgbckopjelabGreatDoor
