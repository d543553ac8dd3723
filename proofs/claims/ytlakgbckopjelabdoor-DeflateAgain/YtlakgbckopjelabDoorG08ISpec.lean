/- Several texts, laid together: HBits, HPut, WriteMore, ISpec. -/
import Derived.Test.YtlakgbckopjelabDoorG04HMath
import Derived.Test.YtlakgbckopjelabDoorG07HAlive
import Derived.Laws.BytesArg
import Derived.Test.YtlakgbckopjelabDoorWrite
import Derived.Test.YtlakgbckopjelabDoorG06HRef2
/- Bits and bytes: the bits of bytes, the bytes of bits; what is laid is read. Out of stage 1's texts. -/
namespace Go.Proofs.YtlakgbckopjelabDoor
set_option maxRecDepth 100000
open Go.RowKit

/-- The bytes of which the bits L are the first ones. -/
def dataL (L : List Int) : List Int := bytesL L ((L.length + 7) / 8)

theorem getD_left {A B : List Int} {i : Nat} (h : i < A.length) : (A ++ B).getD i 0 = A.getD i 0 := by
  simp [List.getD, List.getElem?_append_left h]
theorem getD_right {A B : List Int} {i : Nat} (h : A.length ≤ i) : (A ++ B).getD i 0 = B.getD (i - A.length) 0 := by
  simp [List.getD, List.getElem?_append_right h]

theorem bitsN_getD (x : Int) (n i : Nat) : (bitsN x n).getD i 0 = if i < n then x / 2 ^ i % 2 else 0 := by
  induction n with
  | zero => simp [bitsN]
  | succ n ih =>
    rw [bitsN]
    by_cases h : i < n
    · rw [getD_left (by rw [bitsN_length]; exact h), ih, if_pos h, if_pos (by omega)]
    · rw [getD_right (by rw [bitsN_length]; omega), bitsN_length]
      by_cases e : i = n
      · subst e; simp
      · rw [if_neg (by omega)]
        have : i - n ≠ 0 := by omega
        simp [List.getD, this]

theorem rowOf_getD (bs : List Int) (i : Nat) : (rowOf bs).getD i 0 = if i < 8 * bs.length then bs.getD (i / 8) 0 / 2 ^ (i % 8) % 2 else 0 := by
  induction bs generalizing i with
  | nil => simp [rowOf]
  | cons x r ih =>
    have e : rowOf (x :: r) = bitsN x 8 ++ rowOf r := by simp [rowOf]
    rw [e]
    by_cases h : i < 8
    · rw [getD_left (by rw [bitsN_length]; exact h), bitsN_getD, if_pos h, if_pos (by simp; omega), show i / 8 = 0 by omega, show i % 8 = i by omega]
      rfl
    · rw [getD_right (by rw [bitsN_length]; omega), bitsN_length, ih]
      have e1 : i / 8 = (i - 8) / 8 + 1 := by omega
      have e2 : i % 8 = (i - 8) % 8 := by omega
      rw [e1, e2, List.getD_cons_succ]
      by_cases hb : i - 8 < 8 * r.length
      · rw [if_pos hb, if_pos (by simp; omega)]
      · rw [if_neg hb, if_neg (by simp; omega)]

theorem packB_congr (L L' : List Int) (i i' j : Nat) (h : ∀ k, k < j → L.getD (i + k) 0 = L'.getD (i' + k) 0) : packB L i j = packB L' i' j := by
  induction j with
  | zero => rfl
  | succ j ih => rw [packB, packB, ih (fun k hk => h k (by omega)), h j (by omega)]

theorem packB_num (x : Int) (n j : Nat) (hj : n ≤ j) : packB (bitsN x n) 0 j = x % 2 ^ n := by
  have base : ∀ k, k ≤ n → packB (bitsN x n) 0 k = x % 2 ^ k := by
    intro k
    induction k with
    | zero => intro _; simp [packB]
    | succ k ih =>
      intro hk
      rw [packB, ih (by omega), Nat.zero_add, bitsN_getD, if_pos (by omega), mod_pow_succ, Int.mul_comm]
  have up : ∀ d, packB (bitsN x n) 0 (n + d) = x % 2 ^ n := by
    intro d
    induction d with
    | zero => exact base n (Nat.le_refl _)
    | succ d ih => rw [← Nat.add_assoc, packB, ih, Nat.zero_add, bitsN_getD, if_neg (by omega), Int.mul_zero, Int.add_zero]
  have := up (j - n)
  rwa [show n + (j - n) = j by omega] at this

theorem dataL_row (bs : List Int) (t : Int) (m : Nat) (hb : ∀ x ∈ bs, 0 ≤ x ∧ x ≤ 255) (h0 : 0 ≤ t) (h1 : t < 2 ^ m) (hm : m ≤ 7) : dataL (rowOf bs ++ bitsN t m) = dataOf bs t m := by
  have hlen : (rowOf bs ++ bitsN t m).length = 8 * bs.length + m := by simp [rowOf_length, bitsN_length]
  have one : ∀ r, r < bs.length → packB (rowOf bs ++ bitsN t m) (8 * r) 8 = bs.getD r 0 := by
    intro r hr
    have hx : 0 ≤ bs.getD r 0 ∧ bs.getD r 0 ≤ 255 := by
      have := hb bs[r] (List.getElem_mem hr)
      simpa [List.getD, hr] using this
    rw [packB_congr _ (bitsN (bs.getD r 0) 8) _ 0 8 (fun k hk => ?_), packB_num _ 8 8 (Nat.le_refl _)]
    · have : (2 : Int) ^ 8 = 256 := by decide
      rw [this]; omega
    · rw [getD_left (by rw [rowOf_length]; omega), rowOf_getD, if_pos (by omega), Nat.zero_add, bitsN_getD, if_pos hk, show (8 * r + k) / 8 = r by omega, show (8 * r + k) % 8 = k by omega]
  have last : packB (rowOf bs ++ bitsN t m) (8 * bs.length) 8 = t := by
    rw [packB_congr _ (bitsN t m) _ 0 8 (fun k hk => ?_), packB_num _ m 8 (by omega), Int.emod_eq_of_lt h0 h1]
    rw [getD_right (by rw [rowOf_length]; omega), rowOf_length]
    congr 1; omega
  unfold dataL dataOf bytesL
  rw [hlen]
  by_cases hm0 : 0 < m
  · rw [if_pos hm0, show (8 * bs.length + m + 7) / 8 = bs.length + 1 by omega, List.range_succ, List.map_append]
    congr 1
    · apply List.ext_getElem
      · simp
      · intro i hi hi'
        have := one i (by simpa using hi)
        simp only [List.getElem_map, List.getElem_range, this]
        simp [List.getD, show i < bs.length by simpa using hi]
    · simp [last]
  · rw [if_neg hm0, show (8 * bs.length + m + 7) / 8 = bs.length by omega]
    apply List.ext_getElem
    · simp
    · intro i hi hi'
      have := one i (by simpa using hi)
      simp only [List.getElem_map, List.getElem_range, this]
      simp [List.getD, show i < bs.length by simpa using hi]

theorem conv_own {w : World} {base : Nat} {v : Value} {D : List Int} (h : OwnsB w base v D) : (convert 22 9 v).run Tryd.prog w = .ok (.string (strOfNums D)) w := by
  rcases h.2 with ⟨rfl, h2⟩ | ⟨g, cap, cur, rfl, hg, hh, hr⟩
  · have : D = [] := List.eq_nil_of_length_eq_zero h2
    subst this
    exact run_convert_bytes_nil w 22 5 Tryd.underlying22 Tryd.underlying5 0 0 9 Tryd.underlying9
  · refine run_convert_bytes_arg w 22 5 Tryd.underlying22 Tryd.underlying5 g 0 D.length cap D rfl (fun i hi => ?_) 9 Tryd.underlying9
    have := World.ownsRow.cellAt h i (by omega)
    rw [Nat.zero_add, this]
    simp [List.getD, hi]

theorem OwnsB.below {w w' : World} {base : Nat} {v : Value} {D : List Int} (h : OwnsB w base v D) (b : Below w.heap.size w w') : OwnsB w' base v D :=
  ownsRow_kept h (Kept.of_below b) (fun g hg e => by have := (ownsRow_lt h hg).2; omega)

theorem pack_bit (L : List Int) (h : Bin L) (i n j : Nat) (hj : j < n) : packB L i n / 2 ^ j % 2 = L.getD (i + j) 0 := by
  induction n with
  | zero => omega
  | succ n ih =>
    have hb := packB_bd L h i n
    have hp := pow_pos' n
    have hbit := h (i + n)
    by_cases e : j = n
    · subst e
      rw [packB, Int.add_mul_ediv_left _ _ (by omega), Int.ediv_eq_zero_of_lt hb.1 hb.2]
      omega
    · have hm : packB L i (n + 1) % 2 ^ n = packB L i n := by
        rw [packB, Int.add_mul_emod_self_left, Int.emod_eq_of_lt hb.1 hb.2]
      rw [← bit_mod _ n j (by omega), hm]
      exact ih (by omega)

theorem bytesL_getD (L : List Int) (q r : Nat) (h : r < q) : (bytesL L q).getD r 0 = packB L (8 * r) 8 := by
  simp [bytesL, List.getD, h]

theorem bytesL_length (L : List Int) (q : Nat) : (bytesL L q).length = q := by simp [bytesL]

theorem dataL_length (L : List Int) : (dataL L).length = (L.length + 7) / 8 := bytesL_length _ _

theorem dataL_bytes (L : List Int) (h : Bin L) (i : Nat) : 0 ≤ (dataL L).getD i 0 ∧ (dataL L).getD i 0 ≤ 255 := by
  by_cases hi : i < (L.length + 7) / 8
  · unfold dataL
    rw [bytesL_getD L _ i hi]
    have := packB_bd L h (8 * i) 8
    have e : (2 : Int) ^ 8 = 256 := by decide
    omega
  · simp [List.getD, List.getElem?_eq_none (show (dataL L).length ≤ i by rw [dataL_length]; omega)]

theorem data_bitAt (L : List Int) (h : Bin L) (i : Nat) (hi : i < L.length) : bitAt (dataL L) i = L.getD i 0 := by
  unfold bitAt dataL
  rw [bytesL_getD L _ (i / 8) (by omega), pack_bit L h (8 * (i / 8)) 8 (i % 8) (by omega)]
  congr 1; omega


end Go.Proofs.YtlakgbckopjelabDoor

/- huff's lay and Put: contracts. -/
namespace Go.Proofs.YtlakgbckopjelabDoor
set_option maxRecDepth 100000
open Go Go.RowKit

/-- A code, turned round, has its own bits, the highest first. -/
theorem turn_row (c n : Nat) : bitsN (turnI (c : Int) n) n = rowL c n := by
  apply List.ext_getElem?
  intro j
  by_cases h : j < n
  · have h1 : j < (bitsN (turnI (c : Int) n) n).length := by rw [bitsN_length]; exact h
    have h2 : j < (rowL c n).length := by rw [rowL_length]; exact h
    have e1 := bitsN_getD (turnI (c : Int) n) n j
    have e2 := rowL_at c n h
    rw [if_pos h, turn_bit _ n j h] at e1
    unfold ln at e2
    rw [List.getElem?_eq_getElem h1, List.getElem?_eq_getElem h2]
    simp only [List.getD, List.getElem?_eq_getElem h1, Option.getD_some] at e1
    simp only [List.getD, List.getElem?_eq_getElem h2, Option.getD_some] at e2
    rw [e1, e2]
    unfold bitC
    push_cast; rfl
  · rw [List.getElem?_eq_none (by rw [bitsN_length]; omega), List.getElem?_eq_none (by rw [rowL_length]; omega)]

theorem lay_c (base bw : Nat) (v : Value) (bs : List Int) (t : Int) (m c n : Nat) (w : World) (h : Wr base bw w v bs t m) (hn : n ≤ 15) (hb : bs.length ≤ 1000000000) (hbase : base ≤ w.heap.size) :
    Calls Tryd.prog 69 #[.func (.func 29) #[.pointer (some ⟨bw, 0, none⟩)] #[], .int .i64 (c : Int), .int .i64 (n : Int)] w fun e w' => e = .returned (.tuple #[]) ∧ ∃ v' bs' t' m', Wr base bw w' v' bs' t' m' ∧ rowOf bs' ++ bitsN t' m' = rowOf bs ++ bitsN t m ++ rowL c n ∧ Kept (fun k => k = bw ∨ v.ownBlock = some k) w w' ∧ (v'.ownBlock = v.ownBlock ∨ ∀ g, v'.ownBlock = some g → w.heap.size ≤ g) := by
  have HW : Hid (Wr base bw w v bs t m) := h
  have HT := turn_yes (c : Int) (n : Int) w (by omega) (by omega)
  rw [Int.toNat_natCast] at HT
  have HB := wbits_yes base bw v bs t m (turnI (c : Int) n) n w h (by omega) (by omega) hbase
  rw [turn_row] at HB
  generalize turnI (c : Int) n = X at HT HB
  have HTT : Hid (Calls Tryd.prog 78 #[.int .i64 (c : Int), .int .i64 (n : Int)] w fun e w' => e = .returned (.int .i64 X) ∧ w' = w) := HT
  have HBB : Hid (Calls Tryd.prog 29 #[.pointer (some ⟨bw, 0, none⟩), .int .i64 X, .int .i64 (n : Int)] w fun e w' => e = .returned (.tuple #[]) ∧ ∃ v' bs' t' m', Wr base bw w' v' bs' t' m' ∧ rowOf bs' ++ bitsN t' m' = rowOf bs ++ bitsN t m ++ rowL c n ∧ Kept (fun k => k = bw ∨ v.ownBlock = some k) w w' ∧ (v'.ownBlock = v.ownBlock ∨ ∀ g, v'.ownBlock = some g → w.heap.size ≤ g)) := HB
  clear h HT HB
  go_enter Tryd.func69, Tryd.ntmps69
  go_wp2_with (first
    | (go_at_call 78; refine HTT.out.mono ?_; rintro e w1 ⟨rfl, hw1⟩; obtain rfl : w = w1 := hw1.symm)
    | (go_at_call 29; refine HBB.out.mono ?_; rintro e w2 ⟨rfl, h2⟩; have H2 : Hid (∃ v' bs' t' m', Wr base bw w2 v' bs' t' m' ∧ rowOf bs' ++ bitsN t' m' = rowOf bs ++ bitsN t m ++ rowL c n ∧ Kept (fun k => k = bw ∨ v.ownBlock = some k) w w2 ∧ (v'.ownBlock = v.ownBlock ∨ ∀ g, v'.ownBlock = some g → w.heap.size ≤ g)) := h2; clear h2))
  go_end0
  exact ⟨rfl, H2.out⟩

end Go.Proofs.YtlakgbckopjelabDoor

/- The writer's Align and Bytes; and a Bits that lays nothing. -/
namespace Go.Proofs.YtlakgbckopjelabDoor
set_option maxRecDepth 100000
open Go.RowKit

theorem pad_zero {n : Nat} (h : n % 8 = 0) : pad n = 0 := by unfold pad; omega
theorem pad_pos {b m : Nat} (h0 : 0 < m) (h1 : m ≤ 7) : pad (8 * b + m) = 8 - m := by unfold pad; omega

theorem wbits_arg (base bw : Nat) (v0 : Value) (bs : List Int) (t : Int) (m : Nat) (x : Int) (n : Nat) (ni : Int) (hni : ni = n) (w : World) (h : Wr base bw w v0 bs t m) (hn : n ≤ 24) (hb : bs.length ≤ 1000000000000) (hbase : base ≤ w.heap.size) :
    Calls Tryd.prog 29 #[.pointer (some ⟨bw, 0, none⟩), .int .i64 x, .int .i64 ni] w fun e w' => e = .returned (.tuple #[]) ∧ ∃ v' bs' t' m', Wr base bw w' v' bs' t' m' ∧ rowOf bs' ++ bitsN t' m' = rowOf bs ++ bitsN t m ++ bitsN x n ∧ Kept (fun k => k = bw ∨ v0.ownBlock = some k) w w' ∧ (v'.ownBlock = v0.ownBlock ∨ ∀ g, v'.ownBlock = some g → w.heap.size ≤ g) := by
  subst hni
  exact wbits_yes base bw v0 bs t m x n w h hn hb hbase

theorem walign_any (base bw : Nat) (v : Value) (bs : List Int) (t : Int) (m : Nat) (w : World) (h : Wr base bw w v bs t m) (hb : bs.length ≤ 1000000000000) (hbase : base ≤ w.heap.size) :
    Calls Tryd.prog 28 #[.pointer (some ⟨bw, 0, none⟩)] w fun e w' => e = .returned (.tuple #[]) ∧ ∃ v' bs', Wr base bw w' v' bs' 0 0 ∧ rowOf bs' = rowOf bs ++ bitsN t m ++ bitsN 0 (pad (8 * bs.length + m)) ∧ Kept (fun k => k = bw ∨ v.ownBlock = some k) w w' ∧ (v'.ownBlock = v.ownBlock ∨ ∀ g, v'.ownBlock = some g → w.heap.size ≤ g) := by
  have c2 := cells_of h.block 2
  simp at c2
  have hm := h.m1
  by_cases hm0 : 0 < m
  · have HW : Hid (Wr base bw w v bs t m) := h
    clear h
    go_enter Tryd.func28, Tryd.ntmps28
    go_wp2_with fail
    refine (wbits_arg base bw v bs t m 0 (8 - m) _ (by omega) w HW.out (by omega) hb hbase).mono ?_
    rintro e w1 ⟨rfl, v1, bs1, t1, m1, h1, r1, k1, o1⟩
    have hl := congrArg List.length r1
    simp only [List.length_append, rowOf_length, bitsN_length] at hl
    have e0 : m1 = 0 := by have := h1.m1; omega
    subst e0
    have ht : t1 = 0 := by have a0 := h1.t0; have a1 := h1.t1; simp at a1; omega
    subst ht
    go_wp2
    go_end0
    refine ⟨rfl, v1, bs1, h1, ?_, k1, o1⟩
    rw [pad_pos hm0 hm]
    simpa [bitsN] using r1
  · have e0 : m = 0 := by omega
    subst e0
    go_enter Tryd.func28, Tryd.ntmps28
    go_wp2
    go_end0
    have ht0 := h.t0
    have ht1 := h.t1
    have ht : t = 0 := by simp at ht1; omega
    subst ht
    refine ⟨rfl, v, bs, h, ?_, Kept.refl _ _, .inl rfl⟩
    rw [pad_zero (by omega)]; simp [bitsN]

theorem Text.src {B : Nat} {w : World} {ad : Addr} {len : Nat} {zs : List Int} (h : Text B w (some ad) len zs) : ∀ j u, (zs.map (Value.int .u8))[j]? = some u → w.cell? (ad.add j) = some u := by
  intro j u hu
  obtain ⟨h1, h2, h3⟩ := h
  have hj : j < zs.length := by
    rcases Nat.lt_or_ge j zs.length with h' | h'
    · exact h'
    · simp [List.getElem?_eq_none (show (zs.map (Value.int .u8)).length ≤ j by simpa using h')] at hu
  obtain ⟨b, off, _, ha, hc⟩ := h3.resolve_left (by omega)
  simp at ha
  subst ha
  have e : ((⟨b, off, none⟩ : Addr).add j) = ⟨b, off + j, none⟩ := by unfold Addr.add; split <;> simp_all
  rw [e, hc j (by omega)]
  simp [hj] at hu
  rw [← hu]
  simp [List.getD, hj]

theorem bytes_one (L : List Int) : ∀ u ∈ L.map (Value.int .u8), u.oneCell' = true := by
  intro u hu; simp at hu; obtain ⟨x, _, rfl⟩ := hu; rfl

theorem Text.mem {B : Nat} {w : World} {a : Option Addr} {len : Nat} {zs : List Int} (h : Text B w a len zs) : ∀ x ∈ zs, 0 ≤ x ∧ x ≤ 255 := by
  intro x hx
  obtain ⟨i, hi, rfl⟩ := List.getElem_of_mem hx
  have := h.2.1 i
  simpa [List.getD, hi] using this

/-- What stands behind the store of the appended slice. -/
theorem bytes_end {base bw : Nat} {v v1 v2 : Value} {bs1 zs R : List Int} {w w1 w2 : World} (h1 : Wr base bw w1 v1 bs1 0 0) (hrow : rowOf bs1 = R) (k1 : Kept (fun k => k = bw ∨ v.ownBlock = some k) w w1) (o1 : v1.ownBlock = v.ownBlock ∨ ∀ g, v1.ownBlock = some g → w.heap.size ≤ g)
    (hz : ∀ x ∈ zs, 0 ≤ x ∧ x ≤ 255) (hown : w2.ownsRow base 5 1 v2 (bs1.length + zs.length) (bs1.map (Value.int .u8) ++ zs.map (Value.int .u8))) (k2 : Kept (fun k => v1.ownBlock = some k) w1 w2) (o2 : v2.ownBlock = v1.ownBlock ∨ ∀ g, v2.ownBlock = some g → w1.heap.size ≤ g) :
    ∃ v' bs', Wr base bw (w2.setCell ⟨bw, 0, none⟩ v2) v' bs' 0 0 ∧ rowOf bs' = R ++ rowOf zs ∧ Kept (fun k => k = bw ∨ v.ownBlock = some k) w (w2.setCell ⟨bw, 0, none⟩ v2) ∧ (v'.ownBlock = v.ownBlock ∨ ∀ g, v'.ownBlock = some g → w.heap.size ≤ g) := by
  have hb2 := k2.heap h1.block (fun e => ownsRow_apart h1.owns h1.block (by decide) e)
  refine ⟨v2, bs1 ++ zs, ⟨?_, ?_, by decide, by decide, by decide, ?_⟩, ?_, ?_, ?_⟩
  · rw [set_of hb2]; rfl
  · have e1 : (bs1 ++ zs).length = bs1.length + zs.length := by simp
    have e2 : (bs1 ++ zs).map (Value.int .u8) = bs1.map (Value.int .u8) ++ zs.map (Value.int .u8) := by simp
    rw [e1, e2]
    exact ownsRow_setCell_other hown (ownsRow_apart hown hb2 (by decide)) _
  · intro x hx
    rcases List.mem_append.1 hx with hx | hx
    · exact h1.bytes x hx
    · exact hz x hx
  · rw [rowOf_append, hrow]
  · have k : Kept (fun k => k = bw ∨ v.ownBlock = some k) w w2 := k1.trans k2 (fun i hi e => by
      rcases o1 with r | r
      · exact .inr (by rw [← r]; exact e)
      · have := r i e; omega)
    exact k.setCell (fun _ => .inl rfl) _
  · rcases o2 with c | c
    · rcases o1 with r | r
      · exact .inl (c.trans r)
      · exact .inr (fun g e => r g (by rw [← c]; exact e))
    · exact .inr (fun g e => by have := c g e; have := k1.size; omega)

theorem own_after {w : World} {v v' : Value} (hv : v'.ownBlock = v.ownBlock ∨ v'.ownBlock = some w.heap.size) : v'.ownBlock = v.ownBlock ∨ ∀ g, v'.ownBlock = some g → w.heap.size ≤ g := by
  rcases hv with h | h
  · exact .inl h
  · exact .inr (fun g e => by rw [h] at e; simp at e; omega)

set_option maxHeartbeats 1000000 in
theorem wbytes_any (base bw B : Nat) (v : Value) (bs : List Int) (t : Int) (m : Nat) (a : Option Addr) (len cap : Nat) (zs : List Int) (w : World) (h : Wr base bw w v bs t m) (ht : Text B w a len zs) (hnil : a = none → len = 0 ∧ cap = 0) (hB : B ≤ base) (hBw : B ≤ bw)
    (hb : bs.length ≤ 100000000000) (hlen : len ≤ 100000000000) (hbase : base ≤ w.heap.size) :
    Calls Tryd.prog 30 #[.pointer (some ⟨bw, 0, none⟩), .slice a len cap] w fun e w' => e = .returned (.tuple #[]) ∧ ∃ v' bs', Wr base bw w' v' bs' 0 0 ∧ rowOf bs' = rowOf bs ++ bitsN t m ++ bitsN 0 (pad (8 * bs.length + m)) ++ rowOf zs ∧ Kept (fun k => k = bw ∨ v.ownBlock = some k) w w' ∧ (v'.ownBlock = v.ownBlock ∨ ∀ g, v'.ownBlock = some g → w.heap.size ≤ g) := by
  obtain ⟨i0, hi, hz0, hz1, hz2⟩ := info_parts Tryd.info5
  have HW : Hid (Wr base bw w v bs t m) := h
  have HT : Hid (Text B w a len zs) := ht
  have hm := h.m1
  clear h ht
  go_enter Tryd.func30, Tryd.ntmps30
  go_wp2_with fail
  refine (walign_any base bw v bs t m w HW.out (by omega) hbase).mono ?_
  rintro e w1 ⟨rfl, v1, bs1, h1, r1, k1, o1⟩
  have ht1 : Text B w1 a len zs := HT.out.kept k1 (fun b hb e => by
    rcases e with e | e
    · omega
    · have := (ownsRow_lt HW.out.owns e).1; omega)
  have hl := congrArg List.length r1
  simp only [List.length_append, rowOf_length, bitsN_length] at hl
  have hp7 : pad (8 * bs.length + m) ≤ 7 := by unfold pad; omega
  have hbs1 : bs1.length ≤ 200000000000 := by omega
  have hzl : zs.length = len := ht1.1
  have c0 := cells_of h1.block 0
  have f0 := free_of h1.block 0
  simp at c0
  have hbw1 := lt_of_block h1.block
  have hap : v1.ownBlock ≠ some bw := ownsRow_apart h1.owns h1.block (by decide)
  have HF : Hid (Wr base bw w1 v1 bs1 0 0) := h1
  have HZ : Hid (zs.length = len) := hzl
  have hsz1 : base ≤ w1.heap.size := by have := k1.size; omega
  obtain ⟨a1, cp1, rfl⟩ := own_form h1.owns
  clear h1 hl hzl
  cases a with
  | none =>
    obtain ⟨rfl, rfl⟩ := hnil rfl
    have hz0' : zs = [] := List.eq_nil_of_length_eq_zero HZ.out
    subst hz0'
    go_wp2_with (at_builtin; refine wpList_append_own_none rfl (.tmp 10) (.tmp 11) 22 rfl base 5 i0 1 Tryd.underlying22 hi (.slice a1 bs1.length cp1) _ _ rfl HF.out.owns rfl ?_)
    go_end0
    exact ⟨rfl, bytes_end (zs := []) HF.out r1 k1 o1 (by simp) (by simpa using HF.out.owns) (Kept.refl _ _) (.inl rfl)⟩
  | some ad =>
    obtain ⟨ZZ, hZZ⟩ : ∃ ZZ, ZZ = zs.map (Value.int .u8) := ⟨_, rfl⟩
    have HS : Hid (∀ j u, ZZ[j]? = some u → w1.cell? (ad.add j) = some u) := by rw [hZZ]; exact ht1.src
    have HI : Hid (∀ u ∈ ZZ, u.oneCell' = true) := by rw [hZZ]; exact bytes_one zs
    have hll : ZZ.length = len * 1 := by rw [hZZ]; simp; exact HZ.out
    have HL : Hid (ZZ = zs.map (Value.int .u8)) := hZZ
    have HM : Hid (∀ x ∈ zs, 0 ≤ x ∧ x ≤ 255) := ht1.mem
    clear hZZ ht1
    go_wp2_with (at_builtin; refine wpList_append_own_at _ rfl (.tmp 10) (.tmp 11) 22 rfl base 5 i0 (.int .u8 0) 1 1 Tryd.underlying22 hi hz0 hz1 hz2 rfl (by decide) (.slice a1 bs1.length cp1) _ _ rfl HF.out.owns ad len cap ZZ rfl hll HS.out HI.out (by unfold maxLen; omega) (by omega) hsz1 ?_; intro v2 w2 hown2 hgrow2 hx2 hat2; obtain ⟨a2, cp2, rfl⟩ := own_form hown2; have kb2 := (Kept.of_grown hgrow2).heap HF.out.block (fun e => hap e.symm); have c2 := cells_of kb2 0; have f2 := free_of kb2 0; simp at c2)
    go_end0
    have hown3 := hown2
    rw [HL.out, ← HZ.out] at hown3
    refine ⟨rfl, ?_⟩
    rw [← HZ.out]
    exact bytes_end HF.out r1 k1 o1 HM.out hown3 ((Kept.of_grown hgrow2).mono (fun _ _ e => e.symm)) (own_after (by rw [HZ.out]; exact hat2))
#print axioms wbytes_any
end Go.Proofs.YtlakgbckopjelabDoor

/- What Inflate is, as plain functions of bits: no Go text in sight. Each answers an error, or the place behind what was read and what it is. -/
namespace Go.Proofs.YtlakgbckopjelabDoor
set_option maxRecDepth 100000

/-- One behind the other. -/
def iThen {α γ : Type} (m : Except Int (Nat × α)) (f : Nat → α → Except Int (Nat × γ)) : Except Int (Nat × γ) :=
  match m with
  | .error e => .error e
  | .ok x => f x.1 x.2
/-- Again and again, while a step says so. -/
def iLoop {σ : Type} (T : Nat) (f : Nat → σ → Except Int (Nat × (Bool × σ))) (p : Nat) (s : σ) : Except Int (Nat × σ) :=
  match f p s with
  | .error e => .error e
  | .ok x => if x.2.1 = true then (if _h : p < x.1 ∧ x.1 ≤ T then iLoop T f x.1 x.2.2 else .error 0) else .ok (x.1, x.2.2)
termination_by T - p
decreasing_by omega

/-- n bits from p on as a number, the first one the least. -/
def iNum (b : Nat → Nat) (p : Nat) : Nat → Nat
  | 0 => 0
  | n + 1 => iNum b p n + b (p + n) * 2 ^ n
def iTk (b : Nat → Nat) (T p n : Nat) : Except Int (Nat × Nat) := if T < p + n then .error 60 else .ok (p + n, iNum b p n)

open Classical in
/-- The longest code. -/
noncomputable def iN (ls : List Int) : Nat := if h : ∃ N, Longest ls N then h.choose else 0
/-- At p the code of s stands, of n bits. -/
def iHas (ls : List Int) (b : Nat → Nat) (T p : Nat) (x : Nat × Nat) : Prop := x.2 ≤ T - p ∧ x.1 < ls.length ∧ 1 ≤ x.2 ∧ ln ls x.1 = (x.2 : Int) ∧ cd ls x.1 = vl (fun i => b (p + i)) x.2
open Classical in
/-- The next symbol. -/
noncomputable def iNx (ls : List Int) (b : Nat → Nat) (T p : Nat) : Except Int (Nat × Nat) :=
  if h : ∃ x : Nat × Nat, iHas ls b T p x then .ok (p + h.choose.2, h.choose.1) else if T - p < iN ls then .error 60 else .error 63

/-- A run's symbol: how many bits more, and its least length; likewise a distance's. -/
def iLx (v : Nat) : Nat := if v < 265 then 0 else if v = 285 then 0 else (v - 261) / 4
def iLb (v : Nat) : Nat := if v = 285 then 258 else 3 + ((List.range (v - 257)).map fun u => 2 ^ iLx (257 + u)).sum
def iDx (w : Nat) : Nat := if w < 4 then 0 else w / 2 - 1
def iDb (w : Nat) : Nat := 1 + ((List.range w).map fun u => 2 ^ iDx u).sum
/-- A run of n bytes from d ahead. -/
def iCpy (out : List Int) (d : Nat) : Nat → List Int
  | 0 => out
  | n + 1 => iCpy (out ++ [ln out (out.length - d)]) d n

/-- One symbol of the data, with what belongs to it. -/
noncomputable def iOne (S D : List Int) (b : Nat → Nat) (T most p : Nat) (out : List Int) : Except Int (Nat × (Bool × List Int)) :=
  iThen (iNx S b T p) fun q v =>
  if v < 256 then (if most ≤ out.length then .error 65 else .ok (q, (true, out ++ [(v : Int)])))
  else if v = 256 then .ok (q, (false, out))
  else if 285 < v then .error 63
  else iThen (iTk b T q (iLx v)) fun q more => iThen (iNx D b T q) fun q w =>
    if 29 < w then .error 63 else iThen (iTk b T q (iDx w)) fun q away =>
    if out.length < iDb w + away then .error 64 else if most < out.length + (iLb v + more) then .error 65
    else .ok (q, (true, iCpy out (iDb w + away) (iLb v + more)))
noncomputable def iDat (S D : List Int) (b : Nat → Nat) (T most p : Nat) (out : List Int) : Except Int (Nat × List Int) := iLoop T (iOne S D b T most) p out

def iBytes (b : Nat → Nat) (p n : Nat) : List Int := (List.range n).map fun i => (iNum b (p + 8 * i) 8 : Int)
/-- A stored block. -/
def iSto (b : Nat → Nat) (T most p : Nat) (out : List Int) : Except Int (Nat × List Int) :=
  iThen (iTk b T ((p + 7) / 8 * 8) 16) fun q n => iThen (iTk b T q 16) fun q m =>
  if ¬ n + m = 65535 then .error 62 else if most < out.length + n then .error 65 else if T < q + 8 * n then .error 60
  else .ok (q + 8 * n, out ++ iBytes b q n)

def iOrd : List Nat := [16, 17, 18, 0, 8, 7, 9, 6, 10, 5, 11, 4, 12, 3, 13, 2, 14, 1, 15]
/-- n lengths of three bits, from the i-th of the order on. -/
def iRd3 (b : Nat → Nat) (T : Nat) : Nat → Nat → Nat → List Int → Except Int (Nat × List Int)
  | 0, p, _, first => .ok (p, first)
  | n + 1, p, i, first => iThen (iTk b T p 3) fun q v => iRd3 b T n q (i + 1) (first.set (iOrd.getD i 0) (v : Int))
/-- One number of those that tell lengths. -/
noncomputable def iLen (first : List Int) (many : Nat) (b : Nat → Nat) (T p : Nat) (all : List Int) : Except Int (Nat × (Bool × List Int)) :=
  iThen (iNx first b T p) fun q v =>
  if v < 16 then .ok (q, (decide (all.length + 1 < many), all ++ [(v : Int)]))
  else if v = 16 ∧ all.length = 0 then .error 63
  else iThen (iTk b T q (if v = 16 then 2 else if v = 17 then 3 else 7)) fun q x =>
    if many < all.length + (x + if v = 18 then 11 else 3) then .error 63
    else .ok (q, (decide (all.length + (x + if v = 18 then 11 else 3) < many), all ++ List.replicate (x + if v = 18 then 11 else 3) (if v = 16 then ln all (all.length - 1) else 0)))
/-- What a dynamic block says of its codes. -/
noncomputable def iHdr (b : Nat → Nat) (T p : Nat) : Except Int (Nat × (List Int × List Int)) :=
  iThen (iTk b T p 5) fun q x => iThen (iTk b T q 5) fun q y => iThen (iTk b T q 4) fun q z =>
  if 286 < x + 257 ∨ 30 < y + 1 then .error 63 else iThen (iRd3 b T (z + 4) q 0 (List.replicate 19 0)) fun q first =>
  if ¬ check first false = 0 then .error 63 else iThen (iLoop T (iLen first (x + 258 + y) b T) q []) fun q all =>
  if ln all 256 = 0 ∨ ¬ check (all.take (x + 257)) true = 0 ∨ ¬ check (all.drop (x + 257)) true = 0 then .error 63
  else .ok (q, (all.take (x + 257), all.drop (x + 257)))

def iFix : List Int := List.replicate 144 8 ++ List.replicate 112 9 ++ List.replicate 24 7 ++ List.replicate 8 8
def iFive : List Int := List.replicate 32 5
/-- What a block's kind asks for. -/
noncomputable def iKind (b : Nat → Nat) (T most kind p : Nat) (out : List Int) : Except Int (Nat × List Int) :=
  if kind = 0 then iSto b T most p out else if kind = 1 then iDat iFix iFive b T most p out
  else if kind = 2 then iThen (iHdr b T p) (fun q sd => iDat sd.1 sd.2 b T most q out) else .error 61
/-- A block. -/
noncomputable def iBlk (b : Nat → Nat) (T most p : Nat) (out : List Int) : Except Int (Nat × (Bool × List Int)) :=
  iThen (iTk b T p 1) fun q l => iThen (iTk b T q 2) fun q kind => iThen (iKind b T most kind q out) fun q o => .ok (q, (decide (l = 0), o))
/-- The whole. -/
noncomputable def iInf (b : Nat → Nat) (T most : Nat) : Except Int (Nat × List Int) := iLoop T (iBlk b T most) 0 []

/-! What the small ones say. -/
theorem iThen_ok {α γ : Type} {m : Except Int (Nat × α)} {f : Nat → α → Except Int (Nat × γ)} {q : Nat} {c : γ} (h : iThen m f = .ok (q, c)) : ∃ p a, m = .ok (p, a) ∧ f p a = .ok (q, c) := by
  unfold iThen at h
  split at h
  · cases h
  · exact ⟨_, _, rfl, h⟩
theorem iThen_of_ok {α γ : Type} {m : Except Int (Nat × α)} {f : Nat → α → Except Int (Nat × γ)} {p : Nat} {a : α} (h : m = .ok (p, a)) : iThen m f = f p a := by rw [h]; rfl
theorem iTk_ok {b : Nat → Nat} {T p n : Nat} (h : p + n ≤ T) : iTk b T p n = .ok (p + n, iNum b p n) := if_neg (by omega)
theorem iTk_err {b : Nat → Nat} {T p n : Nat} (h : T < p + n) : iTk b T p n = .error 60 := if_pos h
theorem iTk_got {b : Nat → Nat} {T p n q v : Nat} (h : iTk b T p n = .ok (q, v)) : q = p + n ∧ p + n ≤ T ∧ v = iNum b p n := by
  by_cases hl : T < p + n
  · rw [iTk_err hl] at h; cases h
  · rw [iTk_ok (by omega)] at h
    cases h
    exact ⟨rfl, by omega, rfl⟩
theorem iNum_congr {b c : Nat → Nat} {p k n : Nat} (h : ∀ i, i < n → c (p + k + i) = b (p + i)) : iNum c (p + k) n = iNum b p n := by
  induction n with
  | zero => rfl
  | succ n ih => rw [iNum, iNum, ih (fun i hi => h i (by omega)), h n (by omega)]

theorem longest_one {ls : List Int} {N M : Nat} (h : Longest ls N) (k : Longest ls M) : N = M := by
  rcases h.at_ with h0 | ⟨s, hs, e⟩ <;> rcases k.at_ with k0 | ⟨t, ht, f⟩
  · omega
  · have := h.up t ht; omega
  · have := k.up s hs; omega
  · have := k.up s hs; have := h.up t ht; omega
theorem longest_ex {ls : List Int} (h : Fit ls) : ∃ N, Longest ls N := by
  have key : ∀ k, k ≤ ls.length → ∃ N : Nat, N ≤ 15 ∧ (∀ s, s < k → ln ls s ≤ (N : Int)) ∧ (N = 0 ∨ ∃ s, s < k ∧ ln ls s = (N : Int)) := by
    intro k hk
    induction k with
    | zero => exact ⟨0, by omega, fun s hs => absurd hs (by omega), .inl rfl⟩
    | succ k ih =>
      obtain ⟨N, h1, h2, h3⟩ := ih (by omega)
      have hf := ln_fit h k
      by_cases hl : ln ls k ≤ (N : Int)
      · refine ⟨N, h1, fun s hs => ?_, ?_⟩
        · by_cases e : s = k
          · subst e; exact hl
          · exact h2 s (by omega)
        · rcases h3 with h3 | ⟨s, h3, h4⟩
          · exact .inl h3
          · exact .inr ⟨s, by omega, h4⟩
      · refine ⟨(ln ls k).toNat, by omega, fun s hs => ?_, .inr ⟨k, by omega, by omega⟩⟩
        by_cases e : s = k
        · subst e; omega
        · have := h2 s (by omega); omega
  obtain ⟨N, h1, h2, h3⟩ := key ls.length (Nat.le_refl _)
  exact ⟨N, h1, h2, h3⟩
theorem iN_eq {ls : List Int} {N : Nat} (h : Longest ls N) : iN ls = N := by
  unfold iN
  have hx : ∃ N, Longest ls N := ⟨N, h⟩
  rw [dif_pos hx]
  exact longest_one hx.choose_spec h

theorem iHas_one {ls : List Int} {b : Nat → Nat} (hb : ∀ i, b i ≤ 1) {T p : Nat} {x y : Nat × Nat} (h : iHas ls b T p x) (k : iHas ls b T p y) : x = y := by
  obtain ⟨h1, h2, h3, h4, h5⟩ := h
  obtain ⟨k1, k2, k3, k4, k5⟩ := k
  have := NextIs.one (ls := ls) (b := fun i => b (p + i)) (fun i => hb _) (av := T - p) (N := 0) (.inl ⟨rfl, h1, h2, h3, h4, h5⟩) (.inl ⟨rfl, k1, k2, k3, k4, k5⟩)
  exact Prod.ext this.1 this.2.1
theorem iNx_ok {ls : List Int} {b : Nat → Nat} (hb : ∀ i, b i ≤ 1) {T p s n : Nat} (h : iHas ls b T p (s, n)) : iNx ls b T p = .ok (p + n, s) := by
  have hx : ∃ x : Nat × Nat, iHas ls b T p x := ⟨_, h⟩
  have e := iHas_one hb hx.choose_spec h
  unfold iNx
  rw [dif_pos hx, e]
theorem iNx_no {ls : List Int} {b : Nat → Nat} {T p : Nat} (h : ¬ ∃ x : Nat × Nat, iHas ls b T p x) : iNx ls b T p = if T - p < iN ls then .error 60 else .error 63 := by
  unfold iNx
  rw [dif_neg h]
theorem iNx_got {ls : List Int} {b : Nat → Nat} {T p q s : Nat} (h : iNx ls b T p = .ok (q, s)) : ∃ n, q = p + n ∧ iHas ls b T p (s, n) := by
  unfold iNx at h
  split at h
  · rename_i hx
    cases h
    exact ⟨_, rfl, hx.choose_spec⟩
  · split at h <;> cases h
theorem iNx_failed {ls : List Int} {b : Nat → Nat} {T p : Nat} {e : Int} (h : iNx ls b T p = .error e) : (¬ ∃ x : Nat × Nat, iHas ls b T p x) ∧ ((T - p < iN ls ∧ e = 60) ∨ (iN ls ≤ T - p ∧ e = 63)) := by
  unfold iNx at h
  split at h
  · cases h
  · rename_i hx
    refine ⟨hx, ?_⟩
    split at h
    · cases h; exact .inl ⟨by assumption, rfl⟩
    · cases h; exact .inr ⟨by omega, rfl⟩
end Go.Proofs.YtlakgbckopjelabDoor
