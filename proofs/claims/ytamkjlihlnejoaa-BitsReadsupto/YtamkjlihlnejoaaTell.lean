/- What a writer tells behind 'laid': its length and its bytes, as the reference has them. -/
import Derived.Test.YtamkjlihlnejoaaLaidWalk
namespace Go.Proofs.Ytamkjlihlnejoaa
open Go.RowKit

/-- The bytes of which the bits L are the first ones. -/
def dataL (L : List Int) : List Int := bytesL L ((L.length + 7) / 8)

theorem getD_left {A B : List Int} {i : Nat} (h : i < A.length) : (A ++ B).getD i 0 = A.getD i 0 := by
  simp [List.getD, List.getElem?_append_left h]
theorem getD_right {A B : List Int} {i : Nat} (h : A.length ≤ i) : (A ++ B).getD i 0 = B.getD (i - A.length) 0 := by
  simp [List.getD, List.getElem?_append_right h]

theorem bitsN_getD (x : Int) (n i : Nat) : (bitsN x n).getD i 0 = if i < n then x / 2 ^ i % 2 else 0 := by
  induction n with
  | zero => simp [bitsN]
  | succ n ih =>
    rw [bitsN]
    by_cases h : i < n
    · rw [getD_left (by rw [bitsN_length]; exact h), ih, if_pos h, if_pos (by omega)]
    · rw [getD_right (by rw [bitsN_length]; omega), bitsN_length]
      by_cases e : i = n
      · subst e; simp
      · rw [if_neg (by omega)]
        have : i - n ≠ 0 := by omega
        simp [List.getD, this]

theorem rowOf_getD (bs : List Int) (i : Nat) : (rowOf bs).getD i 0 = if i < 8 * bs.length then bs.getD (i / 8) 0 / 2 ^ (i % 8) % 2 else 0 := by
  induction bs generalizing i with
  | nil => simp [rowOf]
  | cons x r ih =>
    have e : rowOf (x :: r) = bitsN x 8 ++ rowOf r := by simp [rowOf]
    rw [e]
    by_cases h : i < 8
    · rw [getD_left (by rw [bitsN_length]; exact h), bitsN_getD, if_pos h, if_pos (by simp; omega), show i / 8 = 0 by omega, show i % 8 = i by omega]
      rfl
    · rw [getD_right (by rw [bitsN_length]; omega), bitsN_length, ih]
      have e1 : i / 8 = (i - 8) / 8 + 1 := by omega
      have e2 : i % 8 = (i - 8) % 8 := by omega
      rw [e1, e2, List.getD_cons_succ]
      by_cases hb : i - 8 < 8 * r.length
      · rw [if_pos hb, if_pos (by simp; omega)]
      · rw [if_neg hb, if_neg (by simp; omega)]

theorem bit01 (x : Int) : 0 ≤ x % 2 ∧ x % 2 ≤ 1 := by omega

theorem bin_append {A B : List Int} (ha : Bin A) (hb : Bin B) : Bin (A ++ B) := by
  intro i
  by_cases h : i < A.length
  · rw [getD_left h]; exact ha i
  · rw [getD_right (by omega)]; exact hb _
theorem bin_bitsN (x : Int) (n : Nat) : Bin (bitsN x n) := by
  intro i
  rw [bitsN_getD]
  split
  · exact bit01 _
  · decide
theorem bin_rowOf (bs : List Int) : Bin (rowOf bs) := by
  intro i
  rw [rowOf_getD]
  split
  · exact bit01 _
  · decide

theorem packB_congr (L L' : List Int) (i i' j : Nat) (h : ∀ k, k < j → L.getD (i + k) 0 = L'.getD (i' + k) 0) : packB L i j = packB L' i' j := by
  induction j with
  | zero => rfl
  | succ j ih => rw [packB, packB, ih (fun k hk => h k (by omega)), h j (by omega)]

theorem packB_num (x : Int) (n j : Nat) (hj : n ≤ j) : packB (bitsN x n) 0 j = x % 2 ^ n := by
  have base : ∀ k, k ≤ n → packB (bitsN x n) 0 k = x % 2 ^ k := by
    intro k
    induction k with
    | zero => intro _; simp [packB]
    | succ k ih =>
      intro hk
      rw [packB, ih (by omega), Nat.zero_add, bitsN_getD, if_pos (by omega), mod_pow_succ, Int.mul_comm]
  have up : ∀ d, packB (bitsN x n) 0 (n + d) = x % 2 ^ n := by
    intro d
    induction d with
    | zero => exact base n (Nat.le_refl _)
    | succ d ih => rw [← Nat.add_assoc, packB, ih, Nat.zero_add, bitsN_getD, if_neg (by omega), Int.mul_zero, Int.add_zero]
  have := up (j - n)
  rwa [show n + (j - n) = j by omega] at this

theorem dataL_row (bs : List Int) (t : Int) (m : Nat) (hb : ∀ x ∈ bs, 0 ≤ x ∧ x ≤ 255) (h0 : 0 ≤ t) (h1 : t < 2 ^ m) (hm : m ≤ 7) : dataL (rowOf bs ++ bitsN t m) = dataOf bs t m := by
  have hlen : (rowOf bs ++ bitsN t m).length = 8 * bs.length + m := by simp [rowOf_length, bitsN_length]
  have one : ∀ r, r < bs.length → packB (rowOf bs ++ bitsN t m) (8 * r) 8 = bs.getD r 0 := by
    intro r hr
    have hx : 0 ≤ bs.getD r 0 ∧ bs.getD r 0 ≤ 255 := by
      have := hb bs[r] (List.getElem_mem hr)
      simpa [List.getD, hr] using this
    rw [packB_congr _ (bitsN (bs.getD r 0) 8) _ 0 8 (fun k hk => ?_), packB_num _ 8 8 (Nat.le_refl _)]
    · have : (2 : Int) ^ 8 = 256 := by decide
      rw [this]; omega
    · rw [getD_left (by rw [rowOf_length]; omega), rowOf_getD, if_pos (by omega), Nat.zero_add, bitsN_getD, if_pos hk, show (8 * r + k) / 8 = r by omega, show (8 * r + k) % 8 = k by omega]
  have last : packB (rowOf bs ++ bitsN t m) (8 * bs.length) 8 = t := by
    rw [packB_congr _ (bitsN t m) _ 0 8 (fun k hk => ?_), packB_num _ m 8 (by omega), Int.emod_eq_of_lt h0 h1]
    rw [getD_right (by rw [rowOf_length]; omega), rowOf_length]
    congr 1; omega
  unfold dataL dataOf bytesL
  rw [hlen]
  by_cases hm0 : 0 < m
  · rw [if_pos hm0, show (8 * bs.length + m + 7) / 8 = bs.length + 1 by omega, List.range_succ, List.map_append]
    congr 1
    · apply List.ext_getElem
      · simp
      · intro i hi hi'
        have := one i (by simpa using hi)
        simp only [List.getElem_map, List.getElem_range, this]
        simp [List.getD, show i < bs.length by simpa using hi]
    · simp [last]
  · rw [if_neg hm0, show (8 * bs.length + m + 7) / 8 = bs.length by omega]
    apply List.ext_getElem
    · simp
    · intro i hi hi'
      have := one i (by simpa using hi)
      simp only [List.getElem_map, List.getElem_range, this]
      simp [List.getD, show i < bs.length by simpa using hi]

theorem conv_own {w : World} {base : Nat} {v : Value} {D : List Int} (h : OwnsB w base v D) : (convert 22 9 v).run Try.prog w = .ok (.string (strOfNums D)) w := by
  rcases h.2 with ⟨rfl, h2⟩ | ⟨g, cap, cur, rfl, hg, hh, hr⟩
  · have : D = [] := List.eq_nil_of_length_eq_zero h2
    subst this
    exact run_convert_bytes_nil w 22 5 Try.underlying22 Try.underlying5 0 0 9 Try.underlying9
  · refine run_convert_bytes_arg w 22 5 Try.underlying22 Try.underlying5 g 0 D.length cap D rfl (fun i hi => ?_) 9 Try.underlying9
    have := World.ownsRow.cellAt h i (by omega)
    rw [Nat.zero_add, this]
    simp [List.getD, hi]

theorem OwnsB.below {w w' : World} {base : Nat} {v : Value} {D : List Int} (h : OwnsB w base v D) (b : Below w.heap.size w w') : OwnsB w' base v D :=
  ownsRow_kept h (Kept.of_below b) (fun g hg e => by have := (ownsRow_lt h hg).2; omega)

theorem Ld.bin {H : Nat} {w0 w : World} {vl : Value} {Lw Ll : List Int} (s : Ld H w0 w vl Lw Ll) : Bin Lw := by
  obtain ⟨⟨v, bs, t, m, _, hr⟩, _⟩ := s
  rw [← hr]
  exact bin_append (bin_rowOf _) (bin_bitsN _ _)

theorem ld_Len {H : Nat} {w0 w : World} {vl : Value} {Lw Ll : List Int} (s : Ld H w0 w vl Lw Ll) (hl : Lw.length ≤ 1000000) :
    Calls Try.prog 22 #[.pointer (some ⟨H, 0, none⟩)] w fun e w' => e = .returned (.int .i64 (Lw.length : Int)) ∧ Ld H w0 w' vl Lw Ll := by
  obtain ⟨v, bs, t, m, hw, hr⟩ := s.ex
  have hll := ld_len hr
  refine (len_any H H v bs t m w hw (by omega)).mono ?_
  rintro e w' ⟨rfl, q, rfl⟩
  refine ⟨by rw [hll, Nat.mul_comm], s.below ?_⟩
  exact ⟨rfl, rfl, rfl, Nat.le_refl _, fun _ _ => rfl⟩

theorem ld_Data {H : Nat} {w0 w : World} {vl : Value} {Lw Ll : List Int} (s : Ld H w0 w vl Lw Ll) (hl : Lw.length ≤ 1000000) :
    Calls Try.prog 23 #[.pointer (some ⟨H, 0, none⟩)] w fun e w' => ∃ g cap, e = .returned (.slice (some ⟨g, 0, none⟩) (dataL Lw).length cap) ∧ OwnsB w' w.heap.size (.slice (some ⟨g, 0, none⟩) (dataL Lw).length cap) (dataL Lw) ∧ Below w.heap.size w w' := by
  obtain ⟨v, bs, t, m, hw, hr⟩ := s.ex
  have hll := ld_len hr
  have hd := dataL_row bs t m hw.bytes hw.t0 hw.t1 hw.m1
  rw [hr] at hd
  refine (data_any H H v bs t m w hw (by omega)).mono ?_
  rintro e w' ⟨g, cap, rfl, ho, hb⟩
  rw [hd]
  exact ⟨g, cap, rfl, ho, hb⟩

theorem ld_Bytes {H : Nat} {w0 w : World} {a : Option Addr} {cap : Nat} {Lw Ll : List Int} (s : Ld H w0 w (.slice a Ll.length cap) Lw Ll) (hb : Bin Ll) (hl : Ll.length ≤ 1000000) :
    Calls Try.prog 24 #[.slice a Ll.length cap] w fun e w' => ∃ v, e = .returned v ∧ OwnsB w' w.heap.size v (dataL Ll) ∧ Below w.heap.size w w' := by
  refine bytes_any a cap Ll w ?_ hb (by omega)
  obtain ⟨a', cap', hv, hc⟩ := s.ow.form
  simp at hv
  obtain ⟨rfl, rfl⟩ := hv
  by_cases h0 : Ll.length = 0
  · exact .inl h0
  · obtain ⟨g, _, _, hlt, ha, hcell⟩ := hc (by omega)
    exact .inr ⟨g, 0, hlt, ha, fun i hi => by rw [Nat.zero_add]; exact hcell i hi⟩
theorem ld_Data_m {H : Nat} {w0 w : World} {vl : Value} {Lw Ll : List Int} (s : Ld H w0 w vl Lw Ll) (hl : Lw.length ≤ 1000000) (D : List Int) (hD : D = dataL Lw) :
    Calls Try.prog 23 #[.pointer (some ⟨H, 0, none⟩)] w fun e w' => ∃ g cap, e = .returned (.slice (some ⟨g, 0, none⟩) D.length cap) ∧ OwnsB w' w.heap.size (.slice (some ⟨g, 0, none⟩) D.length cap) D ∧ Below w.heap.size w w' := by
  subst hD
  exact ld_Data s hl

theorem ld_Bytes_m {H : Nat} {w0 w : World} {a : Option Addr} {cap : Nat} {Lw Ll : List Int} (s : Ld H w0 w (.slice a Ll.length cap) Lw Ll) (hb : Bin Ll) (hl : Ll.length ≤ 1000000) (D : List Int) (hD : D = dataL Ll) :
    Calls Try.prog 24 #[.slice a Ll.length cap] w fun e w' => ∃ v, e = .returned v ∧ OwnsB w' w.heap.size v D ∧ Below w.heap.size w w' := by
  subst hD
  exact ld_Bytes s hb hl

theorem Text.up {B B' : Nat} {w : World} {a : Option Addr} {len : Nat} {zs : List Int} (h : Text B w a len zs) (hb : B ≤ B') : Text B' w a len zs := by
  obtain ⟨h1, h2, h3⟩ := h
  refine ⟨h1, h2, ?_⟩
  rcases h3 with h3 | ⟨b, off, hlt, r⟩
  · exact .inl h3
  · exact .inr ⟨b, off, by omega, r⟩

theorem Ops.up {B B' : Nat} {w : World} {a : Option Addr} {len : Nat} {os : Nat → OpD} (h : Ops B w a len os) (hb : B ≤ B') : Ops B' w a len os := by
  obtain ⟨h1, h2⟩ := h
  refine ⟨h1, ?_⟩
  rcases h2 with h2 | ⟨b, off, hlt, ha, hc⟩
  · exact .inl h2
  · exact .inr ⟨b, off, by omega, ha, fun i hi => ⟨(hc i hi).ck, (hc i hi).cv, (hc i hi).cn, (hc i hi).cs, (hc i hi).tx.up hb, (hc i hi).nl, (hc i hi).ml⟩⟩
#print axioms ld_Bytes
end Go.Proofs.Ytamkjlihlnejoaa
