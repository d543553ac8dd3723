/- PROVED: plain laws for bits that are turned within thirty-two that stand in a row: the text's number changes by these bits, moved up; so its sum is another one, if one is turned. -/
import Derived.Test.YtddhegohecajcaaFill
namespace Go.Proofs.Ytddhegohecajcaa
open Go Go.RowKit

theorem mul_pow_xor (a b n : Nat) : (a ^^^ b) * 2 ^ n = a * 2 ^ n ^^^ b * 2 ^ n := by
  apply Nat.eq_of_testBit_eq
  intro i
  rw [Nat.testBit_xor, Nat.testBit_mul_two_pow, Nat.testBit_mul_two_pow, Nat.testBit_mul_two_pow]
  by_cases h : n ≤ i
  · simp [h]
  · simp [h]
theorem ms_set : ∀ (X : List Nat) (p y : Nat), p < X.length → ms (X.set p (X.getD p 0 ^^^ y)) = ms X ^^^ (y * 256 ^ p)
  | [], p, y, h => absurd h (by simp)
  | x :: r, 0, y, _ => by
    simp only [List.set_cons_zero, ms, List.getD_cons_zero, Nat.pow_zero, Nat.mul_one]
    ac_rfl
  | x :: r, p + 1, y, h => by
    have ih := ms_set r p y (by simpa using h)
    simp only [List.set_cons_succ, ms, List.getD_cons_succ]
    rw [ih]
    have hm : (ms r ^^^ y * 256 ^ p) * 256 = ms r * 256 ^^^ y * 256 ^ p * 256 := mul_pow_xor (ms r) (y * 256 ^ p) 8
    rw [hm, Nat.pow_succ, Nat.mul_assoc y]
    ac_rfl
theorem bit_place (k : Nat) : 2 ^ (k % 8) * 256 ^ (k / 8) = 2 ^ k := by
  have : (256 : Nat) = 2 ^ 8 := rfl
  rw [this, ← Nat.pow_mul, ← Nat.pow_add]
  congr 1
  omega
/-- A byte of which bit k is turned. -/
def tb (x k : Nat) : Nat := x ^^^ 2 ^ (k % 8)
/-- Bit k of the text is turned. -/
def tl (X : List Nat) (k : Nat) : List Nat := X.set (k / 8) (tb (X.getD (k / 8) 0) k)
theorem pow8_lt (k : Nat) : 2 ^ (k % 8) < 256 := by
  have : 2 ^ (k % 8) ≤ 2 ^ 7 := Nat.pow_le_pow_right (by omega) (by omega)
  omega
theorem tb_lt {x : Nat} (h : x < 256) (k : Nat) : tb x k < 256 := xor8_lt h (pow8_lt k)
theorem tl_length (X : List Nat) (k : Nat) : (tl X k).length = X.length := by simp [tl]
theorem tl_mem {X : List Nat} {k : Nat} (h : ∀ x ∈ X, x < 256) (hk : k / 8 < X.length) : ∀ x ∈ tl X k, x < 256 := by
  intro x hx
  rcases List.mem_or_eq_of_mem_set hx with hx | rfl
  · exact h x hx
  · exact tb_lt (getD_mem_lt h hk) k
theorem tl_ms {X : List Nat} {k : Nat} (hk : k / 8 < X.length) : ms (tl X k) = ms X ^^^ 2 ^ k := by
  unfold tl tb
  rw [ms_set X _ _ hk, bit_place]

/-- Where the loop is behind i rounds: X is the text by then; the bits W, moved up to 'a', were turned. -/
structure Bu (xs : List Nat) (a i W : Nat) (X : List Nat) : Prop where
  len : X.length = xs.length
  mem : ∀ x ∈ X, x < 256
  lt : W < 2 ^ i
  num : ms X = ms xs ^^^ W * 2 ^ a
theorem Bu.start {xs : List Nat} (a : Nat) (h : ∀ x ∈ xs, x < 256) : Bu xs a 0 0 xs := ⟨rfl, h, by simp, by simp⟩
theorem Bu.skip {xs X : List Nat} {a i W : Nat} (h : Bu xs a i W X) : Bu xs a (i + 1) W X := ⟨h.len, h.mem, by have := h.lt; rw [Nat.pow_succ]; omega, h.num⟩
theorem xor_top {W i : Nat} (h : W < 2 ^ i) : W ^^^ 2 ^ i = 2 ^ i + W := by
  apply Nat.eq_of_testBit_eq
  intro j
  rw [Nat.testBit_xor, Nat.testBit_two_pow]
  by_cases hj : i = j
  · subst hj
    rw [Nat.testBit_lt_two_pow h, Nat.testBit_two_pow_add_eq, Nat.testBit_lt_two_pow h]
    simp
  · rcases Nat.lt_or_gt_of_ne hj with hlt | hgt
    · have h1 : W.testBit j = false := Nat.testBit_lt_two_pow (Nat.lt_of_lt_of_le h (Nat.pow_le_pow_right (by omega) (by omega)))
      have h2 : (2 ^ i + W).testBit j = false := Nat.testBit_lt_two_pow (by
        have : 2 ^ (i + 1) ≤ 2 ^ j := Nat.pow_le_pow_right (by omega) (by omega)
        rw [Nat.pow_succ] at this
        omega)
      rw [h1, h2]
      simp [hj]
    · rw [Nat.testBit_two_pow_add_gt hgt]
      simp [hj]
theorem Bu.turn {xs X : List Nat} {a i W : Nat} (h : Bu xs a i W X) (hk : (a + i) / 8 < xs.length) : Bu xs a (i + 1) (W ^^^ 2 ^ i) (tl X (a + i)) ∧ (W ^^^ 2 ^ i) ≠ 0 := by
  have hx := xor_top h.lt
  have hp := Nat.two_pow_pos i
  have hl := h.lt
  refine ⟨⟨by rw [tl_length]; exact h.len, tl_mem h.mem (by rw [h.len]; exact hk), by rw [hx, Nat.pow_succ]; omega, ?_⟩, by rw [hx]; omega⟩
  rw [tl_ms (by rw [h.len]; exact hk), h.num, mul_pow_xor, ← Nat.pow_add, Nat.xor_assoc, Nat.add_comm i a]
theorem tn_inj {a b : Nat} (ha : a < 4294967296) (hb : b < 4294967296) (h : tn a = tn b) : a = b := by unfold tn at h; omega
theorem xor_eq_zero {a b : Nat} (h : a = b) : a ^^^ b = 0 := by rw [h, Nat.xor_self]
theorem Bu.other {xs X : List Nat} {a W : Nat} (h : Bu xs a 32 W X) (hm : ∀ x ∈ xs, x < 256) (hW : W ≠ 0) (ha : a < 8 * xs.length) : mr 0 X ≠ mr 0 xs := by
  intro he
  unfold mr at he
  have hg := tn_inj (go_lt X (tn_lt 0) h.mem) (go_lt xs (tn_lt 0) hm) he
  rw [go_ms, go_ms, h.len, h.num] at hg
  have hz := xor_eq_zero hg
  rw [← stN_xor] at hz
  have hc : (tn 0 ^^^ (ms xs ^^^ W * 2 ^ a)) ^^^ (tn 0 ^^^ ms xs) = W * 2 ^ a := by
    have : (tn 0 ^^^ (ms xs ^^^ W * 2 ^ a)) ^^^ (tn 0 ^^^ ms xs) = (tn 0 ^^^ tn 0) ^^^ ((ms xs ^^^ ms xs) ^^^ W * 2 ^ a) := by ac_rfl
    rw [this, Nat.xor_self, Nat.xor_self, Nat.zero_xor, Nat.zero_xor]
  rw [hc, show 8 * xs.length = a + (8 * xs.length - a) by omega, stN_add, stN_up] at hz
  exact stN_ne _ (by have := h.lt; omega) hW hz

/-- A row of bytes in a block of its own, perhaps with more behind them. -/
def InRow (w : World) (g : Nat) (X : List Nat) : Prop := ∃ cs : Array Value, w.heap[g]? = some (.cells cs 5 (0, 0)) ∧ ∀ i, i < X.length → cs[i]? = some (.int .u8 (X.getD i 0 : Nat))
theorem InRow.cell {w : World} {g : Nat} {X : List Nat} (h : InRow w g X) {i : Nat} (hi : i < X.length) : w.cell? ⟨g, i, none⟩ = some (.int .u8 (X.getD i 0 : Nat)) := by
  obtain ⟨cs, hb, hc⟩ := h
  rw [cells_of hb, hc i hi]
theorem InRow.free {w : World} {g : Nat} {X : List Nat} (h : InRow w g X) (i : Nat) : w.frozen? ⟨g, i, none⟩ = false := by
  obtain ⟨cs, hb, hc⟩ := h
  exact free_of hb i
theorem InRow.set {w : World} {g : Nat} {X : List Nat} (h : InRow w g X) {p : Nat} (hp : p < X.length) (y : Nat) : InRow (w.setCell ⟨g, p, none⟩ (.int .u8 (y : Int))) g (X.set p y) := by
  obtain ⟨cs, hb, hc⟩ := h
  refine ⟨_, set_of hb p _, fun i hi => ?_⟩
  rw [List.length_set] at hi
  rw [Array.getElem?_setIfInBounds]
  by_cases hpi : p = i
  · subst hpi
    have hs : p < cs.size := by
      rcases Nat.lt_or_ge p cs.size with h' | h'
      · exact h'
      · have := hc p hp; rw [Array.getElem?_eq_none h'] at this; simp at this
    simp [hs, List.getD, hi]
  · simp [hpi, List.getD]
    have := hc i hi
    simpa [List.getD, hi] using this
theorem InRow.bytes {w : World} {g c : Nat} {X : List Nat} (h : InRow w g X) : BytesAt w (.slice (some ⟨g, 0, none⟩) X.length c) X :=
  Or.inr ⟨g, 0, c, rfl, fun i hi => by rw [Nat.zero_add]; exact h.cell hi⟩
theorem InRow.drew {w : World} {g : Nat} {X : List Nat} (h : InRow w g X) : InRow w.drew g X := h
theorem inRow_of_owns {w : World} {B : Nat} {v : Value} {X : List Nat} (h : w.ownsRow B 5 1 v X.length (X.map fun x => Value.int .u8 ((x : Nat) : Int))) (h0 : 0 < X.length) : ∃ g cap, v = .slice (some ⟨g, 0, none⟩) X.length cap ∧ B ≤ g ∧ g < w.heap.size ∧ InRow w g X := by
  obtain ⟨h1, h2⟩ := h
  rcases h2 with ⟨_, h2⟩ | ⟨g, cap, cur, rfl, hg, hh, hn, hm, hs, ht⟩
  · omega
  · refine ⟨g, cap, rfl, hg, lt_of_block' hh, cur, hh, fun i hi => ?_⟩
    have := congrArg (fun l : List Value => l[i]?) ht
    simp only [Nat.mul_one] at this
    rw [List.getElem?_take_of_lt hi, Array.getElem?_toList] at this
    rw [this]
    simp [List.getD, hi]
end Go.Proofs.Ytddhegohecajcaa
