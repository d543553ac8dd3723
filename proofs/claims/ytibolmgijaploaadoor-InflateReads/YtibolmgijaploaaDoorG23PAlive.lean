/- Several texts, laid together: HBits, PAlive. -/
import Derived.Test.YtibolmgijaploaaDoorG07RefBytes
import Derived.Test.YtibolmgijaploaaDoorG22HAlive
import Derived.Laws.BytesArg
/- Bits and bytes: the bits of bytes, the bytes of bits; what is laid is read. Out of stage 1's texts. -/
namespace Go.Proofs.YtibolmgijaploaaDoor
set_option maxRecDepth 100000
open Go.RowKit

/-- The bytes of which the bits L are the first ones. -/
def dataL (L : List Int) : List Int := bytesL L ((L.length + 7) / 8)

theorem getD_left {A B : List Int} {i : Nat} (h : i < A.length) : (A ++ B).getD i 0 = A.getD i 0 := by
  simp [List.getD, List.getElem?_append_left h]
theorem getD_right {A B : List Int} {i : Nat} (h : A.length ≤ i) : (A ++ B).getD i 0 = B.getD (i - A.length) 0 := by
  simp [List.getD, List.getElem?_append_right h]

theorem bitsN_getD (x : Int) (n i : Nat) : (bitsN x n).getD i 0 = if i < n then x / 2 ^ i % 2 else 0 := by
  induction n with
  | zero => simp [bitsN]
  | succ n ih =>
    rw [bitsN]
    by_cases h : i < n
    · rw [getD_left (by rw [bitsN_length]; exact h), ih, if_pos h, if_pos (by omega)]
    · rw [getD_right (by rw [bitsN_length]; omega), bitsN_length]
      by_cases e : i = n
      · subst e; simp
      · rw [if_neg (by omega)]
        have : i - n ≠ 0 := by omega
        simp [List.getD, this]

theorem rowOf_getD (bs : List Int) (i : Nat) : (rowOf bs).getD i 0 = if i < 8 * bs.length then bs.getD (i / 8) 0 / 2 ^ (i % 8) % 2 else 0 := by
  induction bs generalizing i with
  | nil => simp [rowOf]
  | cons x r ih =>
    have e : rowOf (x :: r) = bitsN x 8 ++ rowOf r := by simp [rowOf]
    rw [e]
    by_cases h : i < 8
    · rw [getD_left (by rw [bitsN_length]; exact h), bitsN_getD, if_pos h, if_pos (by simp; omega), show i / 8 = 0 by omega, show i % 8 = i by omega]
      rfl
    · rw [getD_right (by rw [bitsN_length]; omega), bitsN_length, ih]
      have e1 : i / 8 = (i - 8) / 8 + 1 := by omega
      have e2 : i % 8 = (i - 8) % 8 := by omega
      rw [e1, e2, List.getD_cons_succ]
      by_cases hb : i - 8 < 8 * r.length
      · rw [if_pos hb, if_pos (by simp; omega)]
      · rw [if_neg hb, if_neg (by simp; omega)]

theorem bit01 (x : Int) : 0 ≤ x % 2 ∧ x % 2 ≤ 1 := by omega

theorem bin_append {A B : List Int} (ha : Bin A) (hb : Bin B) : Bin (A ++ B) := by
  intro i
  by_cases h : i < A.length
  · rw [getD_left h]; exact ha i
  · rw [getD_right (by omega)]; exact hb _
theorem bin_bitsN (x : Int) (n : Nat) : Bin (bitsN x n) := by
  intro i
  rw [bitsN_getD]
  split
  · exact bit01 _
  · decide
theorem bin_rowOf (bs : List Int) : Bin (rowOf bs) := by
  intro i
  rw [rowOf_getD]
  split
  · exact bit01 _
  · decide

theorem packB_congr (L L' : List Int) (i i' j : Nat) (h : ∀ k, k < j → L.getD (i + k) 0 = L'.getD (i' + k) 0) : packB L i j = packB L' i' j := by
  induction j with
  | zero => rfl
  | succ j ih => rw [packB, packB, ih (fun k hk => h k (by omega)), h j (by omega)]

theorem packB_num (x : Int) (n j : Nat) (hj : n ≤ j) : packB (bitsN x n) 0 j = x % 2 ^ n := by
  have base : ∀ k, k ≤ n → packB (bitsN x n) 0 k = x % 2 ^ k := by
    intro k
    induction k with
    | zero => intro _; simp [packB]
    | succ k ih =>
      intro hk
      rw [packB, ih (by omega), Nat.zero_add, bitsN_getD, if_pos (by omega), mod_pow_succ, Int.mul_comm]
  have up : ∀ d, packB (bitsN x n) 0 (n + d) = x % 2 ^ n := by
    intro d
    induction d with
    | zero => exact base n (Nat.le_refl _)
    | succ d ih => rw [← Nat.add_assoc, packB, ih, Nat.zero_add, bitsN_getD, if_neg (by omega), Int.mul_zero, Int.add_zero]
  have := up (j - n)
  rwa [show n + (j - n) = j by omega] at this

theorem dataL_row (bs : List Int) (t : Int) (m : Nat) (hb : ∀ x ∈ bs, 0 ≤ x ∧ x ≤ 255) (h0 : 0 ≤ t) (h1 : t < 2 ^ m) (hm : m ≤ 7) : dataL (rowOf bs ++ bitsN t m) = dataOf bs t m := by
  have hlen : (rowOf bs ++ bitsN t m).length = 8 * bs.length + m := by simp [rowOf_length, bitsN_length]
  have one : ∀ r, r < bs.length → packB (rowOf bs ++ bitsN t m) (8 * r) 8 = bs.getD r 0 := by
    intro r hr
    have hx : 0 ≤ bs.getD r 0 ∧ bs.getD r 0 ≤ 255 := by
      have := hb bs[r] (List.getElem_mem hr)
      simpa [List.getD, hr] using this
    rw [packB_congr _ (bitsN (bs.getD r 0) 8) _ 0 8 (fun k hk => ?_), packB_num _ 8 8 (Nat.le_refl _)]
    · have : (2 : Int) ^ 8 = 256 := by decide
      rw [this]; omega
    · rw [getD_left (by rw [rowOf_length]; omega), rowOf_getD, if_pos (by omega), Nat.zero_add, bitsN_getD, if_pos hk, show (8 * r + k) / 8 = r by omega, show (8 * r + k) % 8 = k by omega]
  have last : packB (rowOf bs ++ bitsN t m) (8 * bs.length) 8 = t := by
    rw [packB_congr _ (bitsN t m) _ 0 8 (fun k hk => ?_), packB_num _ m 8 (by omega), Int.emod_eq_of_lt h0 h1]
    rw [getD_right (by rw [rowOf_length]; omega), rowOf_length]
    congr 1; omega
  unfold dataL dataOf bytesL
  rw [hlen]
  by_cases hm0 : 0 < m
  · rw [if_pos hm0, show (8 * bs.length + m + 7) / 8 = bs.length + 1 by omega, List.range_succ, List.map_append]
    congr 1
    · apply List.ext_getElem
      · simp
      · intro i hi hi'
        have := one i (by simpa using hi)
        simp only [List.getElem_map, List.getElem_range, this]
        simp [List.getD, show i < bs.length by simpa using hi]
    · simp [last]
  · rw [if_neg hm0, show (8 * bs.length + m + 7) / 8 = bs.length by omega]
    apply List.ext_getElem
    · simp
    · intro i hi hi'
      have := one i (by simpa using hi)
      simp only [List.getElem_map, List.getElem_range, this]
      simp [List.getD, show i < bs.length by simpa using hi]

theorem conv_own {w : World} {base : Nat} {v : Value} {D : List Int} (h : OwnsB w base v D) : (convert 22 9 v).run Tryd.prog w = .ok (.string (strOfNums D)) w := by
  rcases h.2 with ⟨rfl, h2⟩ | ⟨g, cap, cur, rfl, hg, hh, hr⟩
  · have : D = [] := List.eq_nil_of_length_eq_zero h2
    subst this
    exact run_convert_bytes_nil w 22 5 Tryd.underlying22 Tryd.underlying5 0 0 9 Tryd.underlying9
  · refine run_convert_bytes_arg w 22 5 Tryd.underlying22 Tryd.underlying5 g 0 D.length cap D rfl (fun i hi => ?_) 9 Tryd.underlying9
    have := World.ownsRow.cellAt h i (by omega)
    rw [Nat.zero_add, this]
    simp [List.getD, hi]

theorem OwnsB.below {w w' : World} {base : Nat} {v : Value} {D : List Int} (h : OwnsB w base v D) (b : Below w.heap.size w w') : OwnsB w' base v D :=
  ownsRow_kept h (Kept.of_below b) (fun g hg e => by have := (ownsRow_lt h hg).2; omega)

theorem pack_bit (L : List Int) (h : Bin L) (i n j : Nat) (hj : j < n) : packB L i n / 2 ^ j % 2 = L.getD (i + j) 0 := by
  induction n with
  | zero => omega
  | succ n ih =>
    have hb := packB_bd L h i n
    have hp := pow_pos' n
    have hbit := h (i + n)
    by_cases e : j = n
    · subst e
      rw [packB, Int.add_mul_ediv_left _ _ (by omega), Int.ediv_eq_zero_of_lt hb.1 hb.2]
      omega
    · have hm : packB L i (n + 1) % 2 ^ n = packB L i n := by
        rw [packB, Int.add_mul_emod_self_left, Int.emod_eq_of_lt hb.1 hb.2]
      rw [← bit_mod _ n j (by omega), hm]
      exact ih (by omega)

theorem bytesL_getD (L : List Int) (q r : Nat) (h : r < q) : (bytesL L q).getD r 0 = packB L (8 * r) 8 := by
  simp [bytesL, List.getD, h]

theorem bytesL_length (L : List Int) (q : Nat) : (bytesL L q).length = q := by simp [bytesL]

theorem dataL_length (L : List Int) : (dataL L).length = (L.length + 7) / 8 := bytesL_length _ _

theorem dataL_bytes (L : List Int) (h : Bin L) (i : Nat) : 0 ≤ (dataL L).getD i 0 ∧ (dataL L).getD i 0 ≤ 255 := by
  by_cases hi : i < (L.length + 7) / 8
  · unfold dataL
    rw [bytesL_getD L _ i hi]
    have := packB_bd L h (8 * i) 8
    have e : (2 : Int) ^ 8 = 256 := by decide
    omega
  · simp [List.getD, List.getElem?_eq_none (show (dataL L).length ≤ i by rw [dataL_length]; omega)]

theorem data_bitAt (L : List Int) (h : Bin L) (i : Nat) (hi : i < L.length) : bitAt (dataL L) i = L.getD i 0 := by
  unfold bitAt dataL
  rw [bytesL_getD L _ (i / 8) (by omega), pack_bit L h (8 * (i / 8)) 8 (i % 8) (by omega)]
  congr 1; omega


theorem row_bits (zs : List Int) (p : Nat) : bn (rowOf zs) p = bz zs p := by
  funext i
  unfold bn bz ln
  rw [rowOf_getD]
  split
  · rfl
  · have : zs.getD ((p + i) / 8) 0 = 0 := by simp [List.getD, List.getElem?_eq_none (show zs.length ≤ (p + i) / 8 by omega)]
    unfold bitAt
    rw [this]; simp
end Go.Proofs.YtibolmgijaploaaDoor

/- The laws' probe, 'alive': it answers true, and writes nothing that was there. -/
namespace Go.Proofs.YtibolmgijaploaaDoor
set_option maxRecDepth 100000
open Go Go.RowKit

theorem ans1 : iAns [1, 1, 0, 254, 255, 97] 9 = ([97], 6, 0) := by
  show iRes (iLoop 48 (iBlk (ib [1, 1, 0, 254, 255, 97]) 48 9) 0 []) = _
  have h : iBlk (ib [1, 1, 0, 254, 255, 97]) 48 9 0 [] = .ok (48, (false, [97])) := by
    unfold iBlk
    rw [iThen_of_ok (show iTk (ib [1, 1, 0, 254, 255, 97]) 48 0 1 = .ok (1, 1) from rfl), iThen_of_ok (show iTk (ib [1, 1, 0, 254, 255, 97]) 48 1 2 = .ok (3, 0) from rfl)]
    unfold iKind
    rw [if_pos rfl, iThen_of_ok (show iSto (ib [1, 1, 0, 254, 255, 97]) 48 9 3 [] = .ok (48, [97]) from rfl)]
    rfl
  rw [iLoop_end h]
  rfl
theorem nx2a : iNx iFix (ib [75, 4, 0, 9]) 32 3 = .ok (11, 97) := iNx_ok (ib_le _) (n := 8) ⟨by decide, by rw [iFix_length]; decide, by decide, by decide +kernel, by decide +kernel⟩
theorem nx2b : iNx iFix (ib [75, 4, 0, 9]) 32 11 = .ok (18, 256) := iNx_ok (ib_le _) (n := 7) ⟨by decide, by rw [iFix_length]; decide, by decide, by decide +kernel, by decide +kernel⟩
theorem ans2 : iAns [75, 4, 0, 9] 9 = ([97], 3, 0) := by
  show iRes (iLoop 32 (iBlk (ib [75, 4, 0, 9]) 32 9) 0 []) = _
  have hd : iDat iFix iFive (ib [75, 4, 0, 9]) 32 9 3 [] = .ok (18, [97]) := by
    unfold iDat
    rw [iLoop_on (iOne_byte nx2a (by decide) (by decide)) (by decide) (by decide), iLoop_end (iOne_end nx2b)]
    rfl
  have h : iBlk (ib [75, 4, 0, 9]) 32 9 0 [] = .ok (18, (false, [97])) := by
    unfold iBlk
    rw [iThen_of_ok (show iTk (ib [75, 4, 0, 9]) 32 0 1 = .ok (1, 1) from rfl), iThen_of_ok (show iTk (ib [75, 4, 0, 9]) 32 1 2 = .ok (3, 1) from rfl)]
    unfold iKind
    rw [if_neg (by decide), if_pos rfl, iThen_of_ok hd]
    rfl
  rw [iLoop_end h]
  rfl
theorem ans3 : iAns [7] 9 = ([], 0, 61) := by
  show iRes (iLoop 8 (iBlk (ib [7]) 8 9) 0 []) = _
  have h : iBlk (ib [7]) 8 9 0 [] = .error 61 := by
    unfold iBlk
    rw [iThen_of_ok (show iTk (ib [7]) 8 0 1 = .ok (1, 1) from rfl), iThen_of_ok (show iTk (ib [7]) 8 1 2 = .ok (3, 3) from rfl)]
    unfold iKind
    rw [if_neg (by decide), if_neg (by decide), if_neg (by decide)]
    rfl
  rw [iLoop_err h]
  rfl

/-- Bytes in a block of their own. -/
theorem text_of {w : World} {g : Nat} {L : List Int} {cs : Array Value} {t : TypeId} {fr : Nat × Nat} (h : w.heap[g]? = some (.cells cs t fr)) (hc : cs = (L.map (Value.int .u8)).toArray) (hb : ∀ x ∈ L, 0 ≤ x ∧ x ≤ 255) : Text w.heap.size w (some ⟨g, 0, none⟩) L.length L := by
  refine ⟨rfl, fun i => ?_, .inr ⟨g, 0, lt_of_block h, rfl, fun i hi => ?_⟩⟩
  · by_cases hi : i < L.length
    · simp only [List.getD, List.getElem?_eq_getElem hi, Option.getD_some]
      exact hb _ (List.getElem_mem hi)
    · simp [List.getD, List.getElem?_eq_none (show L.length ≤ i by omega)]
  · subst hc
    simp [World.cell?, h, List.getD, hi]
theorem inf_lit (L : List Int) (hb : ∀ x ∈ L, 0 ≤ x ∧ x ≤ 255) (hl : L.length ≤ 1000) {r : List Int × Nat × Int} (hr : iAns L 9 = r) (w : World) (hT : Tab w) (cs : Array Value) (hc : cs = (L.map (Value.int .u8)).toArray) (n : Nat) (hn : L.length = n) :
    Calls Tryd.prog 10 #[.slice (some ⟨w.heap.size, 0, none⟩) n n, .int .i64 9] (w.alloc (.cells cs 5)) fun x w' => InfOk (w.alloc (.cells cs 5)) r x w' ∧ Below w.heap.size w w' ∧ Tab w' := by
  subst hn
  have h0 : 0 < w.heap.size := lt_of_cell (hT 0 (by decide))
  have hb1 : Below w.heap.size w (w.alloc (.cells cs 5)) := (Below.refl _ w).alloc (Nat.le_refl _) _
  refine (inflate_c _ L.length L.length L 9 _ (text_of (heap_new w _) hc hb) (hT.below hb1 h0) (by omega) (Nat.le_refl _) (by decide)).mono ?_
  intro x w' h
  rw [show (9 : Int).toNat = 9 from rfl, hr] at h
  obtain ⟨o, oc, hx, ho, hbl⟩ := h
  have hbl2 : Below w.heap.size w w' := hb1.trans (hbl.mono hb1.size)
  exact ⟨⟨o, oc, hx, ho, hbl⟩, hbl2, hT.below hbl2 h0⟩

set_option maxHeartbeats 1000000 in
theorem alive_c (w : World) (hT : Tab w) : Calls Tryd.prog 9 #[] w fun e w' => e = .returned (.bool true) ∧ Below w.heap.size w w' := by
  have HT := hide hT
  clear hT
  go_enter Tryd.func9, Tryd.ntmps9
  go_wp2_with (first
    | (go_at_call 10; refine (inf_lit [1, 1, 0, 254, 255, 97] (by decide) (by decide) ans1 w HT.out #[.int .u8 1, .int .u8 1, .int .u8 0, .int .u8 254, .int .u8 255, .int .u8 97] rfl 6 rfl).mono ?_; rintro x w1 ⟨⟨o1, c1, rfl, ow1, _⟩, b1, t1⟩; have O1 := hide ow1; have B1 := hide b1; have T1 := hide t1; clear ow1 b1 t1 HT)
    | (go_at_call 10; refine (inf_lit [75, 4, 0, 9] (by decide) (by decide) ans2 w1 T1.out #[.int .u8 75, .int .u8 4, .int .u8 0, .int .u8 9] rfl 4 rfl).mono ?_; rintro x w2 ⟨⟨o2, c2, rfl, ow2, _⟩, b2, t2⟩; have O2 := hide ow2; have B2 := hide (B1.out.trans (b2.mono B1.out.size)); have O1' := hide (O1.out.below b2); have T2 := hide t2; clear ow2 b2 t2 T1)
    | (go_at_call 10; refine (inf_lit [7] (by decide) (by decide) ans3 w2 T2.out #[.int .u8 7] rfl 1 rfl).mono ?_; rintro x w3 ⟨⟨o3, c3, rfl, ow3, _⟩, b3, t3⟩; have hc1 : (convert 22 9 (.slice o1 1 c1)).run Tryd.prog w3 = .ok (.string ⟨#[97]⟩) w3 := conv_own (O1'.out.below b3); have hc2 : (convert 22 9 (.slice o2 1 c2)).run Tryd.prog w3 = .ok (.string ⟨#[97]⟩) w3 := conv_own (O2.out.below b3); have B3 := hide (B2.out.trans (b3.mono B2.out.size)); clear ow3 b3 t3))
  go_ret
  exact ⟨rfl, B3.out⟩
#print axioms alive_c
end Go.Proofs.YtibolmgijaploaaDoor
