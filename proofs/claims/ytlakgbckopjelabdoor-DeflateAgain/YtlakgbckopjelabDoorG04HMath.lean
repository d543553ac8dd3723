/- Several texts, laid together: RefBytes, HMath. -/
import Derived.Test.YtlakgbckopjelabDoorG03RefLay
import Derived.Test.YtlakgbckopjelabDoorG00Read
/- The reference's Bytes: bits become bytes. -/
namespace Go.Proofs.YtlakgbckopjelabDoor
set_option maxRecDepth 100000
open Go.RowKit

/-- A slice value that owns the bytes D. -/
def OwnsB (w : World) (base : Nat) (v : Value) (D : List Int) : Prop := w.ownsRow base 5 1 v D.length (D.map (Value.int .u8))
theorem OwnsB.nil (w : World) (base : Nat) : OwnsB w base (.slice none 0 0) [] := World.ownsRow_nil _ _ _ _
theorem OwnsB.push {w : World} {base : Nat} {v : Value} {L : List Int} {x : Int} (h : w.ownsRow base 5 1 v (L.length + 1) (L.map (Value.int .u8) ++ [.int .u8 x])) : OwnsB w base v (L ++ [x]) := by
  unfold OwnsB
  simpa using h
theorem one_byte (w : World) (x : Value) : ∀ j u, [x][j]? = some u → (w.alloc (.cells #[x] 5)).cell? ((⟨w.heap.size, 0, none⟩ : Addr).add j) = some u := World.news_of_block (heap_new w (.cells #[x] 5))

/-- The numbers L lie in memory, where a slice leads. -/
def Nums (w : World) (a : Option Addr) (L : List Int) : Prop := L.length = 0 ∨ ∃ b off, b < w.heap.size ∧ a = some ⟨b, off, none⟩ ∧ ∀ i, i < L.length → w.cell? ⟨b, off + i, none⟩ = some (.int .i64 (L.getD i 0))

def Bin (L : List Int) : Prop := ∀ i, 0 ≤ L.getD i 0 ∧ L.getD i 0 ≤ 1

/-- The first j bits from place i on, as a number (0 where there are none). -/
def packB (L : List Int) (i : Nat) : Nat → Int
  | 0 => 0
  | j + 1 => packB L i j + 2 ^ j * L.getD (i + j) 0

def bytesL (L : List Int) (q : Nat) : List Int := (List.range q).map fun r => packB L (8 * r) 8

theorem packB_bd (L : List Int) (h : Bin L) (i j : Nat) : 0 ≤ packB L i j ∧ packB L i j < 2 ^ j := by
  induction j with
  | zero => simp [packB]
  | succ j ih =>
    have hb := h (i + j)
    have hp := pow_pos' j
    rw [packB, Int.pow_succ]
    have : L.getD (i + j) 0 = 0 ∨ L.getD (i + j) 0 = 1 := by omega
    rcases this with e | e <;> rw [e] <;> omega

theorem pack_step (P X l : Int) (h0 : 0 ≤ l) (h1 : l ≤ 1) (hp0 : 0 ≤ P) (hp1 : P ≤ 256) (hx0 : 0 ≤ X) (hx1 : X ≤ 256) : wrap64 (X + wrap64 (P * l)) = X + P * l := by
  have : l = 0 ∨ l = 1 := by omega
  rcases this with e | e
  · subst e
    rw [Int.mul_zero, IntWalk.wrap64_in 0 (by omega), IntWalk.wrap64_in _ (by omega)]
  · subst e
    rw [Int.mul_one, IntWalk.wrap64_in P (by omega), IntWalk.wrap64_in _ (by omega)]

theorem pow_le_8 {k : Nat} (h : k ≤ 8) : (2 : Int) ^ k ≤ 256 := by
  have : (2 : Nat) ^ k ≤ 2 ^ 8 := Nat.pow_le_pow_right (by decide) h
  have h2 : ((2 ^ k : Nat) : Int) ≤ ((2 ^ 8 : Nat) : Int) := by exact_mod_cast this
  simpa using h2

end Go.Proofs.YtlakgbckopjelabDoor

/- Codes of unlike lengths as plain arithmetic: how many codes a length has, the first code of a length, each symbol's code, the symbols as their codes rise, which row of bits begins with which code. No Go text in sight. -/
namespace Go.Proofs.YtlakgbckopjelabDoor
set_option maxRecDepth 100000

/-- How many symbols have a code of n bits; none of 0 bits. -/
def ct (ls : List Int) : Nat → Nat
  | 0 => 0
  | n + 1 => ls.count ((n + 1 : Nat) : Int)
/-- The first code of n bits. -/
def fc (ls : List Int) : Nat → Nat
  | 0 => 0
  | n + 1 => 2 * (fc ls n + ct ls n)
/-- How many codes have at most n bits. -/
def sh (ls : List Int) : Nat → Nat
  | 0 => 0
  | n + 1 => sh ls n + ct ls (n + 1)
/-- The weight of the codes of at most n bits. -/
def ws (ls : List Int) : Nat → Nat
  | 0 => 0
  | n + 1 => ws ls n + ct ls (n + 1) * 2 ^ (15 - (n + 1))
/-- The weight, symbol by symbol. -/
def wt : List Int → Nat
  | [] => 0
  | x :: r => (if x = 0 then 0 else 2 ^ (15 - x.toNat)) + wt r
/-- A symbol's length. -/
def ln (ls : List Int) (s : Nat) : Int := ls.getD s 0
/-- How many symbols ahead of s have its length. -/
def rk (ls : List Int) (s : Nat) : Nat := (ls.take s).count (ln ls s)
/-- A symbol's code. -/
def cd (ls : List Int) (s : Nat) : Nat := fc ls (ln ls s).toNat + rk ls s
/-- Lengths such as may be. -/
def Fit (ls : List Int) : Prop := ∀ x ∈ ls, 0 ≤ x ∧ x ≤ 15
/-- The symbols of length n among the first k. -/
def idx (ls : List Int) (n : Nat) : Nat → List Nat
  | 0 => []
  | k + 1 => if ln ls k = (n : Int) then idx ls n k ++ [k] else idx ls n k
/-- The symbols that have a code of at most n bits, as the codes rise. -/
def od (ls : List Int) : Nat → List Nat
  | 0 => []
  | n + 1 => od ls n ++ idx ls (n + 1) ls.length

theorem ln_fit {ls : List Int} (h : Fit ls) (s : Nat) : 0 ≤ ln ls s ∧ ln ls s ≤ 15 := by
  unfold ln
  by_cases hs : s < ls.length
  · have := h _ (List.getElem_mem hs)
    simpa [List.getD, hs] using this
  · simp [List.getD, List.getElem?_eq_none (show ls.length ≤ s by omega)]

theorem take_count_succ (ls : List Int) (k : Nat) (n : Int) (h : k < ls.length) : (ls.take (k + 1)).count n = (ls.take k).count n + if ln ls k = n then 1 else 0 := by
  rw [List.take_succ_eq_append_getElem h, List.count_append]
  have e : ln ls k = ls[k] := by simp [ln, List.getD, h]
  rw [e]
  by_cases hx : ls[k] = n <;> simp [hx]

theorem ct_eq (ls : List Int) (n : Nat) (h : 1 ≤ n) : ct ls n = ls.count (n : Int) := by
  obtain ⟨m, rfl⟩ : ∃ m, n = m + 1 := ⟨n - 1, by omega⟩
  rfl

theorem take_count_le (ls : List Int) (k : Nat) (n : Int) : (ls.take k).count n ≤ ls.count n := by
  conv => rhs; rw [← List.take_append_drop k ls, List.count_append]
  omega

theorem rk_lt {ls : List Int} {s : Nat} (hs : s < ls.length) (h1 : 1 ≤ ln ls s) : rk ls s < ct ls (ln ls s).toNat := by
  have e : ((ln ls s).toNat : Int) = ln ls s := Int.toNat_of_nonneg (by omega)
  rw [ct_eq _ _ (by omega), e]
  have := take_count_succ ls s (ln ls s) hs
  have h2 := take_count_le ls (s + 1) (ln ls s)
  simp at this
  unfold rk; omega

theorem ws_cons (x : Int) (r : List Int) (hx : 0 ≤ x ∧ x ≤ 15) : ws (x :: r) 15 = (if x = 0 then 0 else 2 ^ (15 - x.toNat)) + ws r 15 := by
  obtain ⟨n, rfl⟩ := Int.eq_ofNat_of_zero_le hx.1
  have hn : n ≤ 15 := by omega
  have e : ∀ m : Nat, ct ((n : Int) :: r) (m + 1) = ct r (m + 1) + if n = m + 1 then 1 else 0 := by
    intro m
    simp only [ct, List.count_cons]
    by_cases h : n = m + 1
    · subst h; simp
    · have : ¬ (n : Int) = (m : Int) + 1 := by omega
      simp [h, this]
  simp only [ws, e]
  rcases (show n = 0 ∨ n = 1 ∨ n = 2 ∨ n = 3 ∨ n = 4 ∨ n = 5 ∨ n = 6 ∨ n = 7 ∨ n = 8 ∨ n = 9 ∨ n = 10 ∨ n = 11 ∨ n = 12 ∨ n = 13 ∨ n = 14 ∨ n = 15 by omega) with h | h | h | h | h | h | h | h | h | h | h | h | h | h | h | h <;> subst h <;> simp <;> omega

theorem ws_wt (ls : List Int) (h : Fit ls) : ws ls 15 = wt ls := by
  induction ls with
  | nil => rfl
  | cons x r ih =>
    rw [ws_cons x r (h x (by simp)), wt, ih (fun y hy => h y (by simp [hy]))]

theorem ws_mono (ls : List Int) {m n : Nat} (h : m ≤ n) : ws ls m ≤ ws ls n := by
  induction n with
  | zero => have : m = 0 := by omega
            subst this; omega
  | succ n ih =>
    by_cases hm : m = n + 1
    · subst hm; omega
    · have := ih (by omega); rw [ws]; omega

theorem up_ws (ls : List Int) (n : Nat) (h : n ≤ 15) : (fc ls n + ct ls n) * 2 ^ (15 - n) = ws ls n := by
  induction n with
  | zero => simp [fc, ct, ws]
  | succ n ih =>
    have i := ih (by omega)
    have e : 15 - n = (15 - (n + 1)) + 1 := by omega
    rw [e, Nat.pow_succ] at i
    have i2 : (2 * (fc ls n + ct ls n)) * 2 ^ (15 - (n + 1)) = ws ls n := by
      rw [← i, Nat.mul_comm 2, Nat.mul_assoc, Nat.mul_comm 2]
    rw [fc, ws, Nat.add_mul, i2]

/-- Codes of n bits end at 2^n at the latest. -/
theorem up_le (ls : List Int) (hw : ws ls 15 ≤ 32768) (n : Nat) (h : n ≤ 15) : fc ls n + ct ls n ≤ 2 ^ n := by
  have e := up_ws ls n h
  have m := ws_mono ls h
  have p : (2 : Nat) ^ n * 2 ^ (15 - n) = 32768 := by rw [← Nat.pow_add, show n + (15 - n) = 15 by omega]
  apply Nat.le_of_mul_le_mul_right (c := 2 ^ (15 - n)) _ (Nat.two_pow_pos _)
  omega

theorem cd_lt {ls : List Int} (hw : ws ls 15 ≤ 32768) (hf : Fit ls) {s : Nat} (hs : s < ls.length) (h1 : 1 ≤ ln ls s) : cd ls s < fc ls (ln ls s).toNat + ct ls (ln ls s).toNat ∧ cd ls s < 2 ^ (ln ls s).toNat := by
  have := rk_lt hs h1
  have b := ln_fit hf s
  have u := up_le ls hw (ln ls s).toNat (by omega)
  unfold cd; omega

/-! The symbols as their codes rise. -/
theorem idx_length (ls : List Int) (n k : Nat) (hk : k ≤ ls.length) : (idx ls n k).length = (ls.take k).count (n : Int) := by
  induction k with
  | zero => simp [idx]
  | succ k ih =>
    rw [idx, take_count_succ ls k _ (by omega), ← ih (by omega)]
    by_cases h : ln ls k = (n : Int) <;> simp [h]

theorem idx_at (ls : List Int) (n k s : Nat) (hk : k ≤ ls.length) (hs : s < k) (h : ln ls s = (n : Int)) : (idx ls n k)[rk ls s]? = some s := by
  induction k with
  | zero => omega
  | succ k ih =>
    have hl := idx_length ls n k (by omega)
    rw [idx]
    by_cases e : s = k
    · subst e
      have : rk ls s = (idx ls n s).length := by rw [hl, rk, h]
      simp [h, this]
    · have i := ih (by omega) (by omega)
      have hlt : rk ls s < (idx ls n k).length := by
        rcases Nat.lt_or_ge (rk ls s) (idx ls n k).length with h' | h'
        · exact h'
        · rw [List.getElem?_eq_none h'] at i; simp at i
      split
      · rw [List.getElem?_append_left hlt]; exact i
      · exact i

theorem od_length (ls : List Int) (n : Nat) : (od ls n).length = sh ls n := by
  induction n with
  | zero => rfl
  | succ n ih => rw [od, sh, List.length_append, ih, idx_length _ _ _ (Nat.le_refl _), List.take_length]; rfl

theorem sh_mono (ls : List Int) {m n : Nat} (h : m ≤ n) : sh ls m ≤ sh ls n := by
  induction n with
  | zero => have : m = 0 := by omega
            subst this; omega
  | succ n ih =>
    by_cases hm : m = n + 1
    · subst hm; omega
    · have := ih (by omega); rw [sh]; omega

theorem rk_inj {ls : List Int} {s t : Nat} (hs : s < ls.length) (ht : t < ls.length) (hl : ln ls s = ln ls t) (h0 : 0 ≤ ln ls s) (hr : rk ls s = rk ls t) : s = t := by
  have e : ((ln ls s).toNat : Int) = ln ls s := Int.toNat_of_nonneg h0
  have a := idx_at ls (ln ls s).toNat ls.length s (Nat.le_refl _) hs e.symm
  have b := idx_at ls (ln ls s).toNat ls.length t (Nat.le_refl _) ht (by rw [← hl]; exact e.symm)
  rw [hr, b] at a
  simpa using a.symm

/-! Rows of bits. -/
/-- The first n bits as a number, the first one the highest. -/
def vl (b : Nat → Nat) : Nat → Nat
  | 0 => 0
  | n + 1 => 2 * vl b n + b n
/-- The first n bits are a code of n bits. -/
def Hit (ls : List Int) (b : Nat → Nat) (n : Nat) : Prop := fc ls n ≤ vl b n ∧ vl b n < fc ls n + ct ls n

theorem vl_congr {b c : Nat → Nat} (n : Nat) (h : ∀ i, i < n → b i = c i) : vl b n = vl c n := by
  induction n with
  | zero => rfl
  | succ n ih => rw [vl, vl, ih (fun i hi => h i (by omega)), h n (by omega)]

/-- Behind a code the bits are below all longer codes. -/
theorem hit_below (ls : List Int) (b : Nat → Nat) (hb : ∀ i, b i ≤ 1) (n m : Nat) (h : Hit ls b n) (hm : n < m) : vl b m < fc ls m := by
  induction m with
  | zero => omega
  | succ m ih =>
    have hbm := hb m
    rw [fc, vl]
    by_cases e : n = m
    · subst e; unfold Hit at h; omega
    · have := ih (by omega); omega

theorem hit_one (ls : List Int) (b : Nat → Nat) (hb : ∀ i, b i ≤ 1) (n m : Nat) (h : Hit ls b n) (k : Hit ls b m) : n = m := by
  rcases Nat.lt_trichotomy n m with l | l | l
  · have := hit_below ls b hb n m h l; unfold Hit at k; omega
  · exact l
  · have := hit_below ls b hb m n k l; unfold Hit at h; omega

theorem sym_hit {ls : List Int} {b : Nat → Nat} {s : Nat} (hs : s < ls.length) (h1 : 1 ≤ ln ls s) (h : cd ls s = vl b (ln ls s).toNat) : Hit ls b (ln ls s).toNat := by
  have := rk_lt hs h1
  unfold cd at h
  unfold Hit; omega

theorem sym_one {ls : List Int} {b : Nat → Nat} (hb : ∀ i, b i ≤ 1) {s t : Nat} (hs : s < ls.length) (ht : t < ls.length) (h1 : 1 ≤ ln ls s) (k1 : 1 ≤ ln ls t) (h : cd ls s = vl b (ln ls s).toNat) (k : cd ls t = vl b (ln ls t).toNat) : s = t := by
  have e := hit_one ls b hb _ _ (sym_hit hs h1 h) (sym_hit ht k1 k)
  have el : ln ls s = ln ls t := by omega
  refine rk_inj hs ht el (by omega) ?_
  rw [el] at h
  unfold cd at h k
  rw [el] at h
  omega

/-- Bits that are cut off behind j. -/
def cutB (b : Nat → Nat) (j : Nat) (i : Nat) : Nat := if i < j then b i else 0
/-- The bits of a code, the highest first. -/
def bitC (c n k : Nat) : Nat := c / 2 ^ (n - 1 - k) % 2
theorem vl_code (b : Nat → Nat) (c n : Nat) (hc : c < 2 ^ n) (j : Nat) (hj : j ≤ n) : (∀ k, k < j → b k = bitC c n k) ↔ vl b j = c / 2 ^ (n - j) ∧ ∀ k, k < j → b k ≤ 1 := by
  induction j with
  | zero => simp [vl, Nat.div_eq_of_lt hc]
  | succ j ih =>
    have i := ih (by omega)
    have e : c / 2 ^ (n - j) = c / 2 ^ (n - (j + 1)) / 2 := by
      have e2 : 2 ^ (n - j) = 2 ^ (n - (j + 1)) * 2 := by rw [← Nat.pow_succ]; congr 1; omega
      rw [Nat.div_div_eq_div_mul, e2]
    have eb : bitC c n j = c / 2 ^ (n - (j + 1)) % 2 := by unfold bitC; rw [show n - 1 - j = n - (j + 1) by omega]
    rw [e] at i
    constructor
    · intro h
      obtain ⟨i1, i2⟩ := i.1 (fun k hk => h k (by omega))
      have hj' := h j (by omega)
      rw [eb] at hj'
      refine ⟨by rw [vl, i1, hj']; omega, fun k hk => ?_⟩
      by_cases ek : k = j
      · subst ek; omega
      · exact i2 k (by omega)
    · rintro ⟨h1, h2⟩
      rw [vl] at h1
      have hj' := h2 j (by omega)
      have i1 := i.2 ⟨by omega, fun k hk => h2 k (by omega)⟩
      intro k hk
      by_cases ek : k = j
      · subst ek; rw [eb]; omega
      · exact i1 k (by omega)

/-! The longest code. -/
structure Longest (ls : List Int) (N : Nat) : Prop where
  le : N ≤ 15
  up : ∀ s, s < ls.length → ln ls s ≤ (N : Int)
  at_ : N = 0 ∨ ∃ s, s < ls.length ∧ ln ls s = (N : Int)

theorem Longest.zero {ls : List Int} {N : Nat} (h : Longest ls N) (k : Nat) (hk : N < k) : ct ls k = 0 := by
  rw [ct_eq _ _ (by omega)]
  rw [List.count_eq_zero]
  intro hm
  obtain ⟨i, hi, he⟩ := List.getElem_of_mem hm
  have := h.up i hi
  simp [ln, List.getD, hi, he] at this
  omega

/-- What may be: full lengths, or a lone code of one bit, or none. -/
structure Good (ls : List Int) : Prop where
  fit : Fit ls
  le : ws ls 15 ≤ 32768
  way : ws ls 15 = 32768 ∨ (∀ s, s < ls.length → ln ls s ≤ 1)
end Go.Proofs.YtlakgbckopjelabDoor
