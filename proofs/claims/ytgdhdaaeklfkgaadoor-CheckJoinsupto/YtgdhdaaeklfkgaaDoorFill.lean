/- PROVED: plain laws for a row of bytes that is filled place by place; the xor of three texts, and its sum. -/
import Derived.Test.YtgdhdaaeklfkgaaDoorOpen
namespace Go.Proofs.YtgdhdaaeklfkgaaDoor
open Go Go.RowKit

/-- The first k bytes of X; the other places are 0. -/
def fil (X : List Nat) (k : Nat) : Array Value := ((List.range X.length).map fun i => Value.int .u8 ((if i < k then X.getD i 0 else 0 : Nat) : Int)).toArray
theorem fil_size (X : List Nat) (k : Nat) : (fil X k).size = X.length := by simp [fil]
theorem fil_zero (X : List Nat) : fil X 0 = (List.replicate X.length (Value.int .u8 0)).toArray := by
  apply Array.ext_getElem?
  intro i
  by_cases h : i < X.length
  · simp [fil, h]
  · simp [fil, h]
theorem fil_not {X : List Nat} {k : Nat} (h : k < X.length) : (fil X k)[k]? = some (.int .u8 0) := by
  simp [fil, h]
theorem fil_at {X : List Nat} {k i : Nat} (h : i < X.length) (hk : i < k) : (fil X k)[i]? = some (.int .u8 (X.getD i 0 : Nat)) := by
  simp [fil, h, hk]
theorem fil_set {X : List Nat} {k : Nat} (h : k < X.length) : (fil X k).setIfInBounds k (.int .u8 (X.getD k 0 : Nat)) = fil X (k + 1) := by
  apply Array.ext_getElem?
  intro i
  rw [Array.getElem?_setIfInBounds]
  by_cases hi : k = i
  · subst hi
    simp [fil, h]
  · by_cases h2 : i < X.length
    · have : (i < k) ↔ (i < k + 1) := by omega
      simp [fil, hi, h2, this]
    · simp [fil, hi, h2]
theorem fil_bytes {w : World} {b c : Nat} {X : List Nat} {t : TypeId} {fr : Nat × Nat} (h : w.heap[b]? = some (.cells (fil X X.length) t fr)) : BytesAt w (.slice (some ⟨b, 0, none⟩) X.length c) X :=
  Or.inr ⟨b, 0, c, rfl, fun i hi => by rw [Nat.zero_add, cells_of h, fil_at hi hi]⟩

/-- The xor of three texts. -/
def x3 : List Nat → List Nat → List Nat → List Nat
  | a :: la, b :: lb, c :: lc => (a ^^^ b ^^^ c) :: x3 la lb lc
  | _, _, _ => []
theorem x3_length : ∀ (n : Nat) {la lb lc : List Nat}, la.length = n → lb.length = n → lc.length = n → (x3 la lb lc).length = n
  | 0, [], [], [], _, _, _ => rfl
  | n + 1, a :: la, b :: lb, c :: lc, ha, hb, hc => by
    simp only [List.length_cons, Nat.add_right_cancel_iff] at ha hb hc
    simp [x3, x3_length n ha hb hc]
theorem x3_getD : ∀ (n : Nat) {la lb lc : List Nat}, la.length = n → lb.length = n → lc.length = n → ∀ k, k < n → (x3 la lb lc).getD k 0 = la.getD k 0 ^^^ lb.getD k 0 ^^^ lc.getD k 0
  | 0, [], [], [], _, _, _, k, h => absurd h (by omega)
  | n + 1, a :: la, b :: lb, c :: lc, ha, hb, hc, k, h => by
    simp only [List.length_cons, Nat.add_right_cancel_iff] at ha hb hc
    cases k with
    | zero => simp [x3]
    | succ k =>
      have := x3_getD n ha hb hc k (by omega)
      simpa [x3] using this
theorem x3_mem : ∀ (n : Nat) {la lb lc : List Nat}, la.length = n → lb.length = n → lc.length = n → (∀ x ∈ la, x < 256) → (∀ x ∈ lb, x < 256) → (∀ x ∈ lc, x < 256) → ∀ x ∈ x3 la lb lc, x < 256
  | 0, [], [], [], _, _, _, _, _, _ => by simp [x3]
  | n + 1, a :: la, b :: lb, c :: lc, ha, hb, hc, ma, mb, mc => by
    simp only [List.length_cons, Nat.add_right_cancel_iff] at ha hb hc
    intro x hx
    simp only [x3, List.mem_cons] at hx
    rcases hx with rfl | hx
    · exact xor8_lt (xor8_lt (ma a (by simp)) (mb b (by simp))) (mc c (by simp))
    · exact x3_mem n ha hb hc (fun y hy => ma y (by simp [hy])) (fun y hy => mb y (by simp [hy])) (fun y hy => mc y (by simp [hy])) x hx
theorem e8_xor (a b : Nat) : e8 (a ^^^ b) = e8 a ^^^ e8 b := stN_xor 8 a b
theorem nx_x3 (p q r a b c : Nat) : nx (p ^^^ q ^^^ r) (a ^^^ b ^^^ c) = nx p a ^^^ nx q b ^^^ nx r c := by
  unfold nx
  rw [← e8_xor, ← e8_xor]
  congr 1
  ac_rfl
theorem go_x3 : ∀ (n : Nat) {la lb lc : List Nat}, la.length = n → lb.length = n → lc.length = n → ∀ p q r, go (p ^^^ q ^^^ r) (x3 la lb lc) = go p la ^^^ go q lb ^^^ go r lc
  | 0, [], [], [], _, _, _, p, q, r => rfl
  | n + 1, a :: la, b :: lb, c :: lc, ha, hb, hc, p, q, r => by
    simp only [List.length_cons, Nat.add_right_cancel_iff] at ha hb hc
    show go (nx (p ^^^ q ^^^ r) (a ^^^ b ^^^ c)) (x3 la lb lc) = go (nx p a) la ^^^ go (nx q b) lb ^^^ go (nx r c) lc
    rw [nx_x3, go_x3 n ha hb hc]
theorem mr_x3 {n : Nat} {la lb lc : List Nat} (ha : la.length = n) (hb : lb.length = n) (hc : lc.length = n) (ma : ∀ x ∈ la, x < 256) (mb : ∀ x ∈ lb, x < 256) (mc : ∀ x ∈ lc, x < 256) :
    mr 0 la ^^^ mr 0 lb ^^^ mr 0 lc = mr 0 (x3 la lb lc) := by
  have hT : tn 0 = 4294967295 := rfl
  have h3 : (4294967295 : Nat) = 4294967295 ^^^ 4294967295 ^^^ 4294967295 := rfl
  unfold mr
  rw [hT, tn_xor (go_lt la (by omega) ma), tn_xor (go_lt lb (by omega) mb), tn_xor (go_lt lc (by omega) mc), tn_xor (go_lt _ (by omega) (x3_mem n ha hb hc ma mb mc))]
  have hg := go_x3 n ha hb hc 4294967295 4294967295 4294967295
  rw [← h3] at hg
  rw [hg]
  generalize go 4294967295 la = A
  generalize go 4294967295 lb = B
  generalize go 4294967295 lc = C
  have : A ^^^ 4294967295 ^^^ (B ^^^ 4294967295) ^^^ (C ^^^ 4294967295) = (A ^^^ B ^^^ C) ^^^ (4294967295 ^^^ 4294967295 ^^^ 4294967295) := by ac_rfl
  rw [this, ← h3]
theorem xor8_3 {a b c x : Nat} (ha : a < 256) (hb : b < 256) (hc : c < 256) (hx : x = a ^^^ b ^^^ c) : bits .xor .u8 (bits .xor .u8 (a : Int) (b : Int)) (c : Int) = (x : Nat) := by
  rw [xor8 a b ha hb, xor8 _ c (xor8_lt ha hb) hc, hx]
theorem xor32_3 {a b c x : Nat} (ha : a < 4294967296) (hb : b < 4294967296) (hc : c < 4294967296) (hx : a ^^^ b ^^^ c = x) : bits .xor .u32 (bits .xor .u32 (a : Int) (b : Int)) (c : Int) = (x : Nat) := by
  rw [xor32 a b ha hb, xor32 _ c (xor_lt ha hb) hc, hx]

/-- Bytes that lie there, with all that a sum asks. -/
def Ok (w : World) (v : Value) (xs : List Nat) : Prop := BytesAt w v xs ∧ (∀ x ∈ xs, x < 256) ∧ xs.length ≤ 9223372036854775807
theorem sum_ok (b : Nat) (v : Value) (xs : List Nat) (w : World) (ht : TabIn w b) (h : Ok w v xs) :
    Calls Tryd.prog 6 #[.pointer (some ⟨b, 0, none⟩), v] w fun e w' => e = .returned (.int .u32 (mr 0 xs : Nat)) ∧ w' = w := sum_c b v xs w ht h.1 h.2.1 h.2.2
theorem bytes_addr {w : World} {a : Option Addr} {l c : Nat} {xs : List Nat} (h : BytesAt w (.slice a l c) xs) (e : xs.length = l) (h0 : 0 < l) : ∃ b o, a = some ⟨b, o, none⟩ ∧ b < w.heap.size ∧ ∀ i, i < l → w.cell? ⟨b, o + i, none⟩ = some (.int .u8 (xs.getD i 0 : Nat)) := by
  rcases h with ⟨rfl, a', c', h⟩ | ⟨b, o, c', h, hc⟩
  · simp at e; omega
  · simp only [Value.slice.injEq] at h
    obtain ⟨rfl, _, _⟩ := h
    rw [e] at hc
    exact ⟨b, o, rfl, lt_of_cell (hc 0 h0), hc⟩
theorem bytes_take {w : World} {a : Option Addr} {l c n : Nat} {xs : List Nat} (h : BytesAt w (.slice a l c) xs) (e : xs.length = l) (hn : n ≤ l) : BytesAt w (.slice a n c) (xs.take n) := by
  rcases Nat.eq_zero_or_pos n with rfl | h0
  · exact Or.inl ⟨by simp, a, c, rfl⟩
  · obtain ⟨b, o, rfl, _, hc⟩ := bytes_addr h e (by omega)
    refine Or.inr ⟨b, o, c, by simp [Nat.min_eq_left (show n ≤ xs.length by omega)], fun i hi => ?_⟩
    have hi' : i < n := by simp at hi; omega
    rw [hc i (by omega)]
    simp [List.getD, hi']
theorem getD_take {xs : List Nat} {n k : Nat} (h : k < n) : (xs.take n).getD k 0 = xs.getD k 0 := by simp [List.getD, h]

theorem made5 (n : Nat) (i : TypeInfo) (hi : Tryd.prog.info? 5 = some i) (hz : i.zero = some (.int .u8 0)) (hs : i.size = 1) (hb : i.bytes = 1) (hn : n ≤ 140737488351232) (W : World) :
    (Instr.makeSlice 22 (.int .i64 (n : Int)) (.int .i64 (n : Int))).run Tryd.prog W = .ok (.slice (some ⟨W.heap.size, 0, none⟩) n n) (W.alloc (.cells (List.replicate n (Value.int .u8 0)).toArray 5)) := by
  have := run_make (P := Tryd.prog) W 22 5 i (.int .u8 0) Tryd.underlying22 hi hz .i64 .i64 n n (by omega) (by omega) (by rw [hb]; omega) (by omega)
  rw [this, hs]
  have e2 : madeCells (Value.int .u8 0).cells n = (List.replicate n (Value.int .u8 0)).toArray := by
    have := toList_madeCells_one (Value.int .u8 0) n
    rw [← Array.toList_inj]
    simpa [Value.cells] using this
  rw [Int.toNat_natCast, Nat.mul_one, e2]
theorem info5 : ∃ i, Tryd.prog.info? 5 = some i ∧ i.zero = some (.int .u8 0) ∧ i.size = 1 ∧ i.bytes = 1 := by
  have h : (Tryd.prog.info? 5).map (fun i => (i.zero, i.size, i.bytes)) = some (some (.int .u8 0), 1, 1) := by kernel_rfl
  cases hq : Tryd.prog.info? 5 with
  | none => simp [hq] at h
  | some i => simp [hq] at h; exact ⟨i, rfl, h.1, h.2.1, h.2.2⟩
end Go.Proofs.YtgdhdaaeklfkgaaDoor
