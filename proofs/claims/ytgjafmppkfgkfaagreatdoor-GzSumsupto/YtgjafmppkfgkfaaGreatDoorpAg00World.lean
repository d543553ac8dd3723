/- Several texts, laid together: Math, HMath, Pure, World. -/
import Derived.Test.YtgjafmppkfgkfaaGreatDoorRows
import Derived.WalkKit
import Derived.Deep.QuietTactic
import Derived.BigQuiet
import Derived.Deep.RegionHeld3
import Derived.Deep.AppendLies
import Derived.OneCell
/- Plain arithmetic of int's bit operations: masks, joins by 'or', powers of two below 2^62. No Go text in sight. -/
namespace Go.Proofs.YtgjafmppkfgkfaaGreatDoor
set_option maxRecDepth 100000
open Go.RowKit

theorem pow_le_62 {n : Nat} (hn : n ≤ 62) : (2 : Int) ^ n ≤ 4611686018427387904 := by
  have : (2 : Nat) ^ n ≤ 2 ^ 62 := Nat.pow_le_pow_right (by decide) hn
  have h2 : ((2 ^ n : Nat) : Int) ≤ ((2 ^ 62 : Nat) : Int) := by exact_mod_cast this
  simpa using h2
theorem pow_pos' (n : Nat) : (1 : Int) ≤ 2 ^ n := by
  have : 0 < (2 : Nat) ^ n := Nat.two_pow_pos n
  have h2 : ((1 : Nat) : Int) ≤ ((2 ^ n : Nat) : Int) := by exact_mod_cast this
  simpa using h2
theorem wrap_pow {n : Nat} (hn : n ≤ 62) : wrap64 (2 ^ n) = 2 ^ n := IntWalk.wrap64_in _ ⟨by have := pow_pos' n; omega, by have := pow_le_62 hn; omega⟩

theorem wrap_i64_small (x : Nat) (h : x < 9223372036854775808) : IntKind.i64.wrap (x : Int) = x := by
  rw [IntKind.wrap_i64]; omega

theorem ofInt_nat (a : Nat) (ha : a < 18446744073709551616) : (BitVec.ofInt 64 (a : Int)).toNat = a := ofInt_u64 a ha

theorem and_mask (v : Int) (n : Nat) (hn : n ≤ 62) : bits .and .i64 v (2 ^ n - 1) = v % 2 ^ n := by
  have hp := Nat.two_pow_pos n
  have hle : (2 : Nat) ^ n ≤ 2 ^ 62 := Nat.pow_le_pow_right (by decide) hn
  have e1 : ((2 : Int) ^ n - 1) = ((2 ^ n - 1 : Nat) : Int) := by
    have : ((2 ^ n : Nat) : Int) = (2 : Int) ^ n := by simp
    omega
  have hb : (BitVec.ofInt 64 ((2 : Int) ^ n - 1)).toNat = 2 ^ n - 1 := by
    rw [e1]; exact ofInt_nat _ (by omega)
  have ha : (BitVec.ofInt 64 v).toNat = (v % 18446744073709551616).toNat := by simp [BitVec.toNat_ofInt]
  have hd : (v % 18446744073709551616) % 2 ^ n = v % 2 ^ n := by
    apply Int.emod_emod_of_dvd
    have : (18446744073709551616 : Int) = 2 ^ n * 2 ^ (64 - n) := by
      rw [← Int.pow_add, show n + (64 - n) = 64 by omega]; rfl
    exact ⟨_, this⟩
  show IntKind.i64.wrap (((BitVec.ofInt 64 v &&& BitVec.ofInt 64 (2 ^ n - 1)).toNat : Nat) : Int) = _
  rw [BitVec.toNat_and, ha, hb, Nat.and_two_pow_sub_one_eq_mod]
  have h0 : 0 ≤ v % 18446744073709551616 := by omega
  have e2 : (((v % 18446744073709551616).toNat % 2 ^ n : Nat) : Int) = v % 2 ^ n := by
    rw [← hd]; push_cast; rw [Int.toNat_of_nonneg h0]
  have hlt : (v % 18446744073709551616).toNat % 2 ^ n < 2 ^ n := Nat.mod_lt _ hp
  rw [wrap_i64_small _ (by omega), e2]

theorem and_one (v : Int) : bits .and .i64 v 1 = v % 2 := by
  have := and_mask v 1 (by decide)
  simpa using this

/-- What lies below 2^n, 'or' what is a multiple of it: the sum. -/
theorem or_add (a b : Int) (n : Nat) (ha0 : 0 ≤ a) (ha : a < 2 ^ n) (hb0 : 0 ≤ b) (hb : b * 2 ^ n < 4611686018427387904) (hn : n ≤ 62) : bits .or .i64 a (b * 2 ^ n) = a + b * 2 ^ n := by
  have hp := Nat.two_pow_pos n
  have hpl := pow_le_62 hn
  have hpp := pow_pos' n
  obtain ⟨A, rfl⟩ := Int.eq_ofNat_of_zero_le ha0
  obtain ⟨B, rfl⟩ := Int.eq_ofNat_of_zero_le hb0
  have e : ((2 ^ n : Nat) : Int) = (2 : Int) ^ n := by simp
  have hA : A < 2 ^ n := by rw [← e] at ha; exact_mod_cast ha
  have e1 : ((B : Int) * 2 ^ n) = ((B * 2 ^ n : Nat) : Int) := by rw [← e, Int.natCast_mul]
  have hB : B * 2 ^ n < 4611686018427387904 := by rw [e1] at hb; exact Int.ofNat_lt.mp hb
  have hA2 : A < 18446744073709551616 := by have : (2 : Nat) ^ n ≤ 2 ^ 62 := Nat.pow_le_pow_right (by decide) hn; omega
  rw [e1]
  show IntKind.i64.wrap (((BitVec.ofInt 64 (A : Int) ||| BitVec.ofInt 64 ((B * 2 ^ n : Nat) : Int)).toNat : Nat) : Int) = _
  rw [BitVec.toNat_or, ofInt_nat A hA2, ofInt_nat _ (by omega), Nat.or_comm, nat_join n (B * 2 ^ n) A (by simp) hA, wrap_i64_small _ (by have : (2 : Nat) ^ n ≤ 2 ^ 62 := Nat.pow_le_pow_right (by decide) hn; omega)]
  exact Int.natCast_add _ _ |>.trans (Int.add_comm _ _)

theorem or_add_low (a b : Int) (n : Nat) (ha0 : 0 ≤ a) (ha : a < 2 ^ n) (hb0 : 0 ≤ b) (hb : b * 2 ^ n < 4611686018427387904) (hn : n ≤ 62) : bits .or .i64 (b * 2 ^ n) a = b * 2 ^ n + a := by
  have h := or_add a b n ha0 ha hb0 hb hn
  have c : bits .or .i64 (b * 2 ^ n) a = bits .or .i64 a (b * 2 ^ n) := by simp only [bits, BitVec.or_comm]
  rw [c, h]; omega

#print axioms and_mask
#print axioms or_add_low
end Go.Proofs.YtgjafmppkfgkfaaGreatDoor

/- Codes of unlike lengths as plain arithmetic: how many codes a length has, the first code of a length, each symbol's code, the symbols as their codes rise, which row of bits begins with which code. No Go text in sight. -/
namespace Go.Proofs.YtgjafmppkfgkfaaGreatDoor
set_option maxRecDepth 100000

/-- How many symbols have a code of n bits; none of 0 bits. -/
def ct (ls : List Int) : Nat → Nat
  | 0 => 0
  | n + 1 => ls.count ((n + 1 : Nat) : Int)
/-- The first code of n bits. -/
def fc (ls : List Int) : Nat → Nat
  | 0 => 0
  | n + 1 => 2 * (fc ls n + ct ls n)
/-- How many codes have at most n bits. -/
def sh (ls : List Int) : Nat → Nat
  | 0 => 0
  | n + 1 => sh ls n + ct ls (n + 1)
/-- The weight of the codes of at most n bits. -/
def ws (ls : List Int) : Nat → Nat
  | 0 => 0
  | n + 1 => ws ls n + ct ls (n + 1) * 2 ^ (15 - (n + 1))
/-- The weight, symbol by symbol. -/
def wt : List Int → Nat
  | [] => 0
  | x :: r => (if x = 0 then 0 else 2 ^ (15 - x.toNat)) + wt r
/-- A symbol's length. -/
def ln (ls : List Int) (s : Nat) : Int := ls.getD s 0
/-- How many symbols ahead of s have its length. -/
def rk (ls : List Int) (s : Nat) : Nat := (ls.take s).count (ln ls s)
/-- A symbol's code. -/
def cd (ls : List Int) (s : Nat) : Nat := fc ls (ln ls s).toNat + rk ls s
/-- Lengths such as may be. -/
def Fit (ls : List Int) : Prop := ∀ x ∈ ls, 0 ≤ x ∧ x ≤ 15
/-- The symbols of length n among the first k. -/
def idx (ls : List Int) (n : Nat) : Nat → List Nat
  | 0 => []
  | k + 1 => if ln ls k = (n : Int) then idx ls n k ++ [k] else idx ls n k
/-- The symbols that have a code of at most n bits, as the codes rise. -/
def od (ls : List Int) : Nat → List Nat
  | 0 => []
  | n + 1 => od ls n ++ idx ls (n + 1) ls.length

theorem ln_fit {ls : List Int} (h : Fit ls) (s : Nat) : 0 ≤ ln ls s ∧ ln ls s ≤ 15 := by
  unfold ln
  by_cases hs : s < ls.length
  · have := h _ (List.getElem_mem hs)
    simpa [List.getD, hs] using this
  · simp [List.getD, List.getElem?_eq_none (show ls.length ≤ s by omega)]

theorem take_count_succ (ls : List Int) (k : Nat) (n : Int) (h : k < ls.length) : (ls.take (k + 1)).count n = (ls.take k).count n + if ln ls k = n then 1 else 0 := by
  rw [List.take_succ_eq_append_getElem h, List.count_append]
  have e : ln ls k = ls[k] := by simp [ln, List.getD, h]
  rw [e]
  by_cases hx : ls[k] = n <;> simp [hx]

theorem ct_eq (ls : List Int) (n : Nat) (h : 1 ≤ n) : ct ls n = ls.count (n : Int) := by
  obtain ⟨m, rfl⟩ : ∃ m, n = m + 1 := ⟨n - 1, by omega⟩
  rfl

theorem take_count_le (ls : List Int) (k : Nat) (n : Int) : (ls.take k).count n ≤ ls.count n := by
  conv => rhs; rw [← List.take_append_drop k ls, List.count_append]
  omega

theorem rk_lt {ls : List Int} {s : Nat} (hs : s < ls.length) (h1 : 1 ≤ ln ls s) : rk ls s < ct ls (ln ls s).toNat := by
  have e : ((ln ls s).toNat : Int) = ln ls s := Int.toNat_of_nonneg (by omega)
  rw [ct_eq _ _ (by omega), e]
  have := take_count_succ ls s (ln ls s) hs
  have h2 := take_count_le ls (s + 1) (ln ls s)
  simp at this
  unfold rk; omega

theorem ws_cons (x : Int) (r : List Int) (hx : 0 ≤ x ∧ x ≤ 15) : ws (x :: r) 15 = (if x = 0 then 0 else 2 ^ (15 - x.toNat)) + ws r 15 := by
  obtain ⟨n, rfl⟩ := Int.eq_ofNat_of_zero_le hx.1
  have hn : n ≤ 15 := by omega
  have e : ∀ m : Nat, ct ((n : Int) :: r) (m + 1) = ct r (m + 1) + if n = m + 1 then 1 else 0 := by
    intro m
    simp only [ct, List.count_cons]
    by_cases h : n = m + 1
    · subst h; simp
    · have : ¬ (n : Int) = (m : Int) + 1 := by omega
      simp [h, this]
  simp only [ws, e]
  rcases (show n = 0 ∨ n = 1 ∨ n = 2 ∨ n = 3 ∨ n = 4 ∨ n = 5 ∨ n = 6 ∨ n = 7 ∨ n = 8 ∨ n = 9 ∨ n = 10 ∨ n = 11 ∨ n = 12 ∨ n = 13 ∨ n = 14 ∨ n = 15 by omega) with h | h | h | h | h | h | h | h | h | h | h | h | h | h | h | h <;> subst h <;> simp <;> omega

theorem ws_wt (ls : List Int) (h : Fit ls) : ws ls 15 = wt ls := by
  induction ls with
  | nil => rfl
  | cons x r ih =>
    rw [ws_cons x r (h x (by simp)), wt, ih (fun y hy => h y (by simp [hy]))]

theorem ws_mono (ls : List Int) {m n : Nat} (h : m ≤ n) : ws ls m ≤ ws ls n := by
  induction n with
  | zero => have : m = 0 := by omega
            subst this; omega
  | succ n ih =>
    by_cases hm : m = n + 1
    · subst hm; omega
    · have := ih (by omega); rw [ws]; omega

theorem up_ws (ls : List Int) (n : Nat) (h : n ≤ 15) : (fc ls n + ct ls n) * 2 ^ (15 - n) = ws ls n := by
  induction n with
  | zero => simp [fc, ct, ws]
  | succ n ih =>
    have i := ih (by omega)
    have e : 15 - n = (15 - (n + 1)) + 1 := by omega
    rw [e, Nat.pow_succ] at i
    have i2 : (2 * (fc ls n + ct ls n)) * 2 ^ (15 - (n + 1)) = ws ls n := by
      rw [← i, Nat.mul_comm 2, Nat.mul_assoc, Nat.mul_comm 2]
    rw [fc, ws, Nat.add_mul, i2]

/-- Codes of n bits end at 2^n at the latest. -/
theorem up_le (ls : List Int) (hw : ws ls 15 ≤ 32768) (n : Nat) (h : n ≤ 15) : fc ls n + ct ls n ≤ 2 ^ n := by
  have e := up_ws ls n h
  have m := ws_mono ls h
  have p : (2 : Nat) ^ n * 2 ^ (15 - n) = 32768 := by rw [← Nat.pow_add, show n + (15 - n) = 15 by omega]
  apply Nat.le_of_mul_le_mul_right (c := 2 ^ (15 - n)) _ (Nat.two_pow_pos _)
  omega

theorem cd_lt {ls : List Int} (hw : ws ls 15 ≤ 32768) (hf : Fit ls) {s : Nat} (hs : s < ls.length) (h1 : 1 ≤ ln ls s) : cd ls s < fc ls (ln ls s).toNat + ct ls (ln ls s).toNat ∧ cd ls s < 2 ^ (ln ls s).toNat := by
  have := rk_lt hs h1
  have b := ln_fit hf s
  have u := up_le ls hw (ln ls s).toNat (by omega)
  unfold cd; omega

/-! The symbols as their codes rise. -/
theorem idx_length (ls : List Int) (n k : Nat) (hk : k ≤ ls.length) : (idx ls n k).length = (ls.take k).count (n : Int) := by
  induction k with
  | zero => simp [idx]
  | succ k ih =>
    rw [idx, take_count_succ ls k _ (by omega), ← ih (by omega)]
    by_cases h : ln ls k = (n : Int) <;> simp [h]

theorem idx_at (ls : List Int) (n k s : Nat) (hk : k ≤ ls.length) (hs : s < k) (h : ln ls s = (n : Int)) : (idx ls n k)[rk ls s]? = some s := by
  induction k with
  | zero => omega
  | succ k ih =>
    have hl := idx_length ls n k (by omega)
    rw [idx]
    by_cases e : s = k
    · subst e
      have : rk ls s = (idx ls n s).length := by rw [hl, rk, h]
      simp [h, this]
    · have i := ih (by omega) (by omega)
      have hlt : rk ls s < (idx ls n k).length := by
        rcases Nat.lt_or_ge (rk ls s) (idx ls n k).length with h' | h'
        · exact h'
        · rw [List.getElem?_eq_none h'] at i; simp at i
      split
      · rw [List.getElem?_append_left hlt]; exact i
      · exact i

theorem idx_has (ls : List Int) (n k r : Nat) (hk : k ≤ ls.length) (hr : r < (ls.take k).count (n : Int)) : ∃ s, s < k ∧ ln ls s = (n : Int) ∧ rk ls s = r := by
  induction k with
  | zero => simp at hr
  | succ k ih =>
    rw [take_count_succ ls k _ (by omega)] at hr
    by_cases h : r < (ls.take k).count (n : Int)
    · obtain ⟨s, h1, h2⟩ := ih (by omega) h
      exact ⟨s, by omega, h2⟩
    · by_cases e : ln ls k = (n : Int)
      · simp [e] at hr
        exact ⟨k, by omega, e, by rw [rk, e]; omega⟩
      · simp [e] at hr; omega

theorem od_length (ls : List Int) (n : Nat) : (od ls n).length = sh ls n := by
  induction n with
  | zero => rfl
  | succ n ih => rw [od, sh, List.length_append, ih, idx_length _ _ _ (Nat.le_refl _), List.take_length]; rfl

theorem sh_mono (ls : List Int) {m n : Nat} (h : m ≤ n) : sh ls m ≤ sh ls n := by
  induction n with
  | zero => have : m = 0 := by omega
            subst this; omega
  | succ n ih =>
    by_cases hm : m = n + 1
    · subst hm; omega
    · have := ih (by omega); rw [sh]; omega

theorem od_at (ls : List Int) (n s : Nat) (hs : s < ls.length) (h : ln ls s = ((n + 1 : Nat) : Int)) (N : Nat) (hN : n + 1 ≤ N) : (od ls N)[sh ls n + rk ls s]? = some s := by
  induction N with
  | zero => omega
  | succ N ih =>
    rw [od]
    by_cases e : n = N
    · subst e
      rw [List.getElem?_append_right (by rw [od_length]; omega), od_length, Nat.add_sub_cancel_left]
      exact idx_at ls (n + 1) ls.length s (Nat.le_refl _) hs h
    · have i := ih (by omega)
      have hlt : sh ls n + rk ls s < (od ls N).length := by
        rcases Nat.lt_or_ge (sh ls n + rk ls s) (od ls N).length with h' | h'
        · exact h'
        · rw [List.getElem?_eq_none h'] at i; simp at i
      rw [List.getElem?_append_left hlt]; exact i

theorem rk_inj {ls : List Int} {s t : Nat} (hs : s < ls.length) (ht : t < ls.length) (hl : ln ls s = ln ls t) (h0 : 0 ≤ ln ls s) (hr : rk ls s = rk ls t) : s = t := by
  have e : ((ln ls s).toNat : Int) = ln ls s := Int.toNat_of_nonneg h0
  have a := idx_at ls (ln ls s).toNat ls.length s (Nat.le_refl _) hs e.symm
  have b := idx_at ls (ln ls s).toNat ls.length t (Nat.le_refl _) ht (by rw [← hl]; exact e.symm)
  rw [hr, b] at a
  simpa using a.symm

/-! Rows of bits. -/
/-- The first n bits as a number, the first one the highest. -/
def vl (b : Nat → Nat) : Nat → Nat
  | 0 => 0
  | n + 1 => 2 * vl b n + b n
/-- The first n bits are a code of n bits. -/
def Hit (ls : List Int) (b : Nat → Nat) (n : Nat) : Prop := fc ls n ≤ vl b n ∧ vl b n < fc ls n + ct ls n

theorem vl_lt (b : Nat → Nat) (hb : ∀ i, b i ≤ 1) (n : Nat) : vl b n < 2 ^ n := by
  induction n with
  | zero => simp [vl]
  | succ n ih => rw [vl, Nat.pow_succ]; have := hb n; omega

theorem vl_congr {b c : Nat → Nat} (n : Nat) (h : ∀ i, i < n → b i = c i) : vl b n = vl c n := by
  induction n with
  | zero => rfl
  | succ n ih => rw [vl, vl, ih (fun i hi => h i (by omega)), h n (by omega)]

/-- Where no code of fewer bits was met, the bits are not below the first code. -/
theorem not_below (ls : List Int) (b : Nat → Nat) (n : Nat) (h : ∀ k, k < n → ¬ Hit ls b k) : fc ls n ≤ vl b n := by
  induction n with
  | zero => simp [fc]
  | succ n ih =>
    have i := ih (fun k hk => h k (by omega))
    have g := h n (by omega)
    unfold Hit at g
    rw [fc, vl]; omega

/-- Behind a code the bits are below all longer codes. -/
theorem hit_below (ls : List Int) (b : Nat → Nat) (hb : ∀ i, b i ≤ 1) (n m : Nat) (h : Hit ls b n) (hm : n < m) : vl b m < fc ls m := by
  induction m with
  | zero => omega
  | succ m ih =>
    have hbm := hb m
    rw [fc, vl]
    by_cases e : n = m
    · subst e; unfold Hit at h; omega
    · have := ih (by omega); omega

theorem hit_one (ls : List Int) (b : Nat → Nat) (hb : ∀ i, b i ≤ 1) (n m : Nat) (h : Hit ls b n) (k : Hit ls b m) : n = m := by
  rcases Nat.lt_trichotomy n m with l | l | l
  · have := hit_below ls b hb n m h l; unfold Hit at k; omega
  · exact l
  · have := hit_below ls b hb m n k l; unfold Hit at h; omega

theorem hit_pos {ls : List Int} {b : Nat → Nat} {n : Nat} (h : Hit ls b n) : 1 ≤ n := by
  rcases n with _ | n
  · simp [Hit, fc, ct] at h
  · omega

/-- A code that is met is a symbol's. -/
theorem hit_sym {ls : List Int} {b : Nat → Nat} {n : Nat} (h : Hit ls b n) : ∃ s, s < ls.length ∧ ln ls s = (n : Int) ∧ cd ls s = vl b n := by
  have h1 := hit_pos h
  unfold Hit at h
  have c := ct_eq ls n h1
  obtain ⟨s, hs, hl, hr⟩ := idx_has ls n ls.length (vl b n - fc ls n) (Nat.le_refl _) (by rw [List.take_length, ← c]; omega)
  exact ⟨s, hs, hl, by rw [cd, hl, hr]; simp; omega⟩

theorem sym_hit {ls : List Int} {b : Nat → Nat} {s : Nat} (hs : s < ls.length) (h1 : 1 ≤ ln ls s) (h : cd ls s = vl b (ln ls s).toNat) : Hit ls b (ln ls s).toNat := by
  have := rk_lt hs h1
  unfold cd at h
  unfold Hit; omega

theorem sym_one {ls : List Int} {b : Nat → Nat} (hb : ∀ i, b i ≤ 1) {s t : Nat} (hs : s < ls.length) (ht : t < ls.length) (h1 : 1 ≤ ln ls s) (k1 : 1 ≤ ln ls t) (h : cd ls s = vl b (ln ls s).toNat) (k : cd ls t = vl b (ln ls t).toNat) : s = t := by
  have e := hit_one ls b hb _ _ (sym_hit hs h1 h) (sym_hit ht k1 k)
  have el : ln ls s = ln ls t := by omega
  refine rk_inj hs ht el (by omega) ?_
  rw [el] at h
  unfold cd at h k
  rw [el] at h
  omega

/-- Bits that are cut off behind j. -/
def cutB (b : Nat → Nat) (j : Nat) (i : Nat) : Nat := if i < j then b i else 0
/-- The bits of a code, the highest first. -/
def bitC (c n k : Nat) : Nat := c / 2 ^ (n - 1 - k) % 2
theorem vl_code (b : Nat → Nat) (c n : Nat) (hc : c < 2 ^ n) (j : Nat) (hj : j ≤ n) : (∀ k, k < j → b k = bitC c n k) ↔ vl b j = c / 2 ^ (n - j) ∧ ∀ k, k < j → b k ≤ 1 := by
  induction j with
  | zero => simp [vl, Nat.div_eq_of_lt hc]
  | succ j ih =>
    have i := ih (by omega)
    have e : c / 2 ^ (n - j) = c / 2 ^ (n - (j + 1)) / 2 := by
      have e2 : 2 ^ (n - j) = 2 ^ (n - (j + 1)) * 2 := by rw [← Nat.pow_succ]; congr 1; omega
      rw [Nat.div_div_eq_div_mul, e2]
    have eb : bitC c n j = c / 2 ^ (n - (j + 1)) % 2 := by unfold bitC; rw [show n - 1 - j = n - (j + 1) by omega]
    rw [e] at i
    constructor
    · intro h
      obtain ⟨i1, i2⟩ := i.1 (fun k hk => h k (by omega))
      have hj' := h j (by omega)
      rw [eb] at hj'
      refine ⟨by rw [vl, i1, hj']; omega, fun k hk => ?_⟩
      by_cases ek : k = j
      · subst ek; omega
      · exact i2 k (by omega)
    · rintro ⟨h1, h2⟩
      rw [vl] at h1
      have hj' := h2 j (by omega)
      have i1 := i.2 ⟨by omega, fun k hk => h2 k (by omega)⟩
      intro k hk
      by_cases ek : k = j
      · subst ek; rw [eb]; omega
      · exact i1 k (by omega)

/-! The longest code. -/
structure Longest (ls : List Int) (N : Nat) : Prop where
  le : N ≤ 15
  up : ∀ s, s < ls.length → ln ls s ≤ (N : Int)
  at_ : N = 0 ∨ ∃ s, s < ls.length ∧ ln ls s = (N : Int)

theorem Longest.zero {ls : List Int} {N : Nat} (h : Longest ls N) (k : Nat) (hk : N < k) : ct ls k = 0 := by
  rw [ct_eq _ _ (by omega)]
  rw [List.count_eq_zero]
  intro hm
  obtain ⟨i, hi, he⟩ := List.getElem_of_mem hm
  have := h.up i hi
  simp [ln, List.getD, hi, he] at this
  omega

/-- What may be: full lengths, or a lone code of one bit, or none. -/
structure Good (ls : List Int) : Prop where
  fit : Fit ls
  le : ws ls 15 ≤ 32768
  way : ws ls 15 = 32768 ∨ (∀ s, s < ls.length → ln ls s ≤ 1)
end Go.Proofs.YtgjafmppkfgkfaaGreatDoor

/- The pure functions of package bits and of its reference: which counts fit, the lowest bits, one bit. -/
namespace Go.Proofs.YtgjafmppkfgkfaaGreatDoor
set_option maxRecDepth 100000
open Go.RowKit

theorem ret_int {k : IntKind} {a b : Int} (h : a = b) : Ending.returned (.int k a) = .returned (.int k b) := by rw [h]

theorem fits_yes (n : Int) (w : World) (h0 : 0 ≤ n) (h1 : n ≤ 24) :
    Calls Tryz.prog 136 #[.int .i64 n] w fun e w' => e = .returned (.bool true) ∧ w' = w := by
  go_enter Tryz.func136, Tryz.ntmps136
  go_wp2
  go_ret
  exact ⟨rfl, rfl⟩

theorem fits_no (n : Int) (w : World) (h : n < 0 ∨ 24 < n) :
    Calls Tryz.prog 136 #[.int .i64 n] w fun e w' => e = .returned (.bool false) ∧ w' = w := by
  rcases h with h | h
  · go_enter Tryz.func136, Tryz.ntmps136
    go_wp2
    go_ret
    exact ⟨rfl, rfl⟩
  · have h' : 0 ≤ n := by omega
    go_enter Tryz.func136, Tryz.ntmps136
    go_wp2
    go_ret
    refine ⟨?_, rfl⟩
    have hd : decide (n ≤ 24) = false := by simp; omega
    simp [hd]

theorem low_any (v n : Int) (w : World) (h0 : 0 ≤ n) (h1 : n ≤ 24) :
    Calls Tryz.prog 137 #[.int .i64 v, .int .i64 n] w fun e w' => e = .returned (.int .i64 (v % 2 ^ n.toNat)) ∧ w' = w := by
  have e1 : wrap64 (2 ^ n.toNat) = 2 ^ n.toNat := wrap_pow (by omega)
  have e2 : wrap64 (2 ^ n.toNat - 1) = 2 ^ n.toNat - 1 := IntWalk.wrap64_in _ ⟨by have := pow_pos' n.toNat; omega, by have := @pow_le_62 n.toNat (by omega); omega⟩
  have e3 := and_mask v n.toNat (by omega)
  go_enter Tryz.func137, Tryz.ntmps137
  go_wp2
  go_ret
  exact ⟨ret_int rfl, rfl⟩

/-- The first k bits of v, the other way round. -/
def turnI (v : Int) : Nat → Int
  | 0 => 0
  | k + 1 => 2 * turnI v k + v / 2 ^ k % 2

theorem turnI_bd (v : Int) (k : Nat) : 0 ≤ turnI v k ∧ turnI v k < 2 ^ k := by
  induction k with
  | zero => simp [turnI]
  | succ k ih => rw [turnI, Int.pow_succ]; omega

theorem pow_le_24 {k : Nat} (h : k ≤ 24) : (2 : Int) ^ k ≤ 16777216 := by
  have : (2 : Nat) ^ k ≤ 2 ^ 24 := Nat.pow_le_pow_right (by decide) h
  have h2 : ((2 ^ k : Nat) : Int) ≤ ((2 ^ 24 : Nat) : Int) := by exact_mod_cast this
  simpa using h2

theorem turn_join (v : Int) (k : Nat) (h : k ≤ 24) : bits .or .i64 (turnI v k * 2) (bits .and .i64 (v / 2 ^ k) 1) = turnI v (k + 1) := by
  have hb := turnI_bd v k
  have hq := pow_le_24 h
  rw [and_one]
  have := or_add_low (v / 2 ^ k % 2) (turnI v k) 1 (by omega) (by omega) (by omega) (by omega) (by omega)
  simp only [Int.pow_one] at this
  rw [this, turnI]; omega

theorem div_pow_succ (v : Int) (k : Nat) : v / 2 ^ k / 2 = v / 2 ^ (k + 1) := by
  rw [Int.pow_succ, Int.ediv_ediv_of_nonneg (by have := pow_pos' k; omega)]

theorem turn_yes (v n : Int) (w : World) (h0 : 0 ≤ n) (h1 : n ≤ 24) :
    Calls Tryz.prog 181 #[.int .i64 v, .int .i64 n] w fun e w' => e = .returned (.int .i64 (turnI v n.toNat)) ∧ w' = w := by
  go_enter Tryz.func181, Tryz.ntmps181
  go_wp2_with (go_at_call 136; refine (fits_yes _ _ h0 h1).mono ?_; rintro e w' ⟨rfl, rfl⟩)
  go_loop [0, 5, 10] (fun x t i => ∃ k : Nat, (k : Int) ≤ n ∧ i = .int .i64 k ∧ t = .int .i64 (turnI v k) ∧ x = .int .i64 (v / 2 ^ k)) (fun _ _ i => n.toNat - (intOf i).toNat)
  case atStart => exact ⟨0, by omega, rfl, rfl, by simp⟩
  case round =>
    obtain ⟨k, hk, rfl, rfl, rfl⟩ := hrel
    have hb := turnI_bd v k
    have hq := @pow_le_24 k (by omega)
    by_cases hlt : (k : Int) < n
    · go_wp2
      go_round
      case rel => exact ⟨k + 1, by omega, by go_num, by rw [turn_join v k (by omega)], by rw [div_pow_succ]⟩
      case measure => simp [intOf]; omega
    · go_wp2
      go_ret
      exact ⟨ret_int (by congr 1; omega), rfl⟩

theorem bit_mod (v : Int) (n j : Nat) (h : j < n) : v % 2 ^ n / 2 ^ j % 2 = v / 2 ^ j % 2 := by
  have hp := pow_pos' j
  have e : (2 : Int) ^ n = 2 ^ j * (2 * 2 ^ (n - j - 1)) := by
    rw [← Int.pow_succ', ← Int.pow_add, show j + (n - j - 1 + 1) = n by omega]
  have d := Int.emod_add_mul_ediv v (2 ^ n)
  have e2 : v = v % 2 ^ n + 2 ^ j * (2 * (2 ^ (n - j - 1) * (v / 2 ^ n))) := by
    have : 2 ^ j * (2 * (2 ^ (n - j - 1) * (v / 2 ^ n))) = 2 ^ n * (v / 2 ^ n) := by rw [e]; simp [Int.mul_assoc]
    rw [this]; exact d.symm
  have e3 : v / 2 ^ j = v % 2 ^ n / 2 ^ j + 2 * (2 ^ (n - j - 1) * (v / 2 ^ n)) := by
    conv => lhs; rw [e2]
    rw [Int.add_mul_ediv_left _ _ (by omega)]
  rw [e3]; omega

theorem turn_bit (v : Int) (n j : Nat) (h : j < n) : turnI v n / 2 ^ j % 2 = v / 2 ^ (n - 1 - j) % 2 := by
  induction n generalizing j with
  | zero => omega
  | succ n ih =>
    rw [turnI]
    cases j with
    | zero => simp
    | succ j =>
      have e : (2 * turnI v n + v / 2 ^ n % 2) / 2 ^ (j + 1) = turnI v n / 2 ^ j := by
        rw [Int.pow_succ', ← Int.ediv_ediv_of_nonneg (by omega)]
        congr 1; omega
      rw [e, ih j (by omega)]
      congr 3; omega

theorem turn_twice_up (v : Int) (n m : Nat) (h : m ≤ n) : turnI (turnI v n) m = v % 2 ^ n / 2 ^ (n - m) := by
  induction m with
  | zero =>
    have hp := pow_pos' n
    simp only [turnI, Nat.sub_zero]
    rw [Int.ediv_eq_zero_of_lt (Int.emod_nonneg _ (by omega)) (Int.emod_lt_of_pos _ (by omega))]
  | succ m ih =>
    rw [turnI, ih (by omega), turn_bit v n m (by omega), show n - m = (n - 1 - m) + 1 by omega, ← div_pow_succ, show n - (m + 1) = n - 1 - m by omega, ← bit_mod v n (n - 1 - m) (by omega)]
    omega

theorem turn_twice (v : Int) (n : Nat) : turnI (turnI v n) n = v % 2 ^ n := by
  rw [turn_twice_up v n n (Nat.le_refl _)]; simp

#print axioms turn_twice
end Go.Proofs.YtgjafmppkfgkfaaGreatDoor

/- Laws on worlds: which blocks a call may have written ('Kept'), and what a block of two or three cells gives the walk. No Go text in sight. -/
namespace Go.Proofs.YtgjafmppkfgkfaaGreatDoor
set_option maxRecDepth 100000
open Go.RowKit

/-- From w to w' no block is written of those that were there, but for those that M names. -/
structure Kept (M : Nat → Prop) (w w' : World) : Prop where
  os : w'.os = w.os
  tape : w'.tape = w.tape
  output : w'.output = w.output
  size : w.heap.size ≤ w'.heap.size
  block : ∀ k, k < w.heap.size → ¬ M k → w'.heap[k]? = w.heap[k]?

theorem Kept.refl (M : Nat → Prop) (w : World) : Kept M w w := ⟨rfl, rfl, rfl, Nat.le_refl _, fun _ _ _ => rfl⟩
theorem Kept.trans {M M' : Nat → Prop} {a b c : World} (h : Kept M a b) (k : Kept M' b c) (hm : ∀ i, i < a.heap.size → M' i → M i) : Kept M a c :=
  ⟨k.os.trans h.os, k.tape.trans h.tape, k.output.trans h.output, Nat.le_trans h.size k.size, fun i hi hn => (k.block i (Nat.lt_of_lt_of_le hi h.size) (fun h' => hn (hm i hi h'))).trans (h.block i hi hn)⟩
theorem Kept.mono {M M' : Nat → Prop} {a b : World} (h : Kept M a b) (hm : ∀ i, i < a.heap.size → M i → M' i) : Kept M' a b := ⟨h.os, h.tape, h.output, h.size, fun i hi hn => h.block i hi (fun h' => hn (hm i hi h'))⟩
theorem Kept.of_grown {w w' : World} {row : Option Nat} (h : w.grownBy w' row) : Kept (fun k => some k = row) w w' := ⟨h.os, h.tape, h.output, h.size, h.block⟩
theorem Kept.of_below {B : Nat} {w w' : World} (h : Below B w w') : Kept (fun k => B ≤ k) w w' := ⟨h.os, h.tape, h.output, h.size, fun k _ hn => h.block k (by omega)⟩
theorem Kept.below {M : Nat → Prop} {w w' : World} (h : Kept M w w') {B : Nat} (hB : B ≤ w.heap.size) (hm : ∀ i, i < B → ¬ M i) : Below B w w' := ⟨h.os, h.tape, h.output, h.size, fun k hk => h.block k (by omega) (hm k hk)⟩
theorem Kept.alloc (M : Nat → Prop) {a w : World} (h : Kept M a w) (o : Obj) : Kept M a (w.alloc o) :=
  ⟨h.os, h.tape, h.output, by have := h.size; simp; omega, fun k hk hn => by rw [Below.heap_alloc _ _ _ (by have := h.size; omega)]; exact h.block k hk hn⟩
theorem Kept.drew {M : Nat → Prop} {a w : World} (h : Kept M a w) : Kept M a w.drew := ⟨h.os, h.tape, h.output, h.size, h.block⟩
theorem Kept.drewN {M : Nat → Prop} {a w : World} (h : Kept M a w) (n : Nat) : Kept M a (w.drewN n) := ⟨h.os, h.tape, h.output, h.size, h.block⟩
theorem Kept.setCell {M : Nat → Prop} {a w : World} (h : Kept M a w) {p : Addr} (hp : p.block < a.heap.size → M p.block) (u : Value) : Kept M a (w.setCell p u) :=
  ⟨h.os, h.tape, h.output, by have := h.size; simp [World.setCell]; omega, fun k hk hn => by rw [Below.heap_setCell _ _ _ _ (fun e => hn (by subst e; exact hp hk))]; exact h.block k hk hn⟩
theorem Kept.heap {M : Nat → Prop} {w w' : World} (h : Kept M w w') {b : Nat} {o : Obj} (hb : w.heap[b]? = some o) (hn : ¬ M b) : w'.heap[b]? = some o := (h.block b (lt_of_block hb) hn).trans hb
theorem Kept.cell {M : Nat → Prop} {w w' : World} (h : Kept M w w') {p : Addr} (hp : p.block < w.heap.size) (hn : ¬ M p.block) : w'.cell? p = w.cell? p := World.cell?_of_block (w := w) (h.block p.block hp hn)

theorem lt_of_cell {w : World} {p : Addr} {v : Value} (h : w.cell? p = some v) : p.block < w.heap.size := by
  unfold World.cell? at h
  rcases Nat.lt_or_ge p.block w.heap.size with h' | h'
  · exact h'
  · rw [Array.getElem?_eq_none h'] at h; simp at h

/-- A block whose cells are known, none of it frozen. -/
theorem cells_of {w : World} {b : Nat} {cs : Array Value} {t : TypeId} (h : w.heap[b]? = some (.cells cs t (0, 0))) (i : Nat) : w.cell? ⟨b, i, none⟩ = cs[i]? := by simp [World.cell?, h]
theorem free_of {w : World} {b : Nat} {cs : Array Value} {t : TypeId} (h : w.heap[b]? = some (.cells cs t (0, 0))) (i : Nat) : w.frozen? ⟨b, i, none⟩ = false := by simp [World.frozen?, h]
theorem set_of {w : World} {b : Nat} {cs : Array Value} {t : TypeId} {fr : Nat × Nat} (h : w.heap[b]? = some (.cells cs t fr)) (i : Nat) (u : Value) : (w.setCell ⟨b, i, none⟩ u).heap[b]? = some (.cells (cs.setIfInBounds i u) t fr) := by
  have hlt := lt_of_block h
  have h' : w.heap[b] = .cells cs t fr := by simpa [Array.getElem?_eq_getElem hlt] using h
  show (w.heap.modify b _)[b]? = _
  rw [Array.getElem?_eq_getElem (by simpa using hlt), Array.getElem_modify_self, h']
  rfl
theorem set_other {w : World} {b c i : Nat} {u : Value} (h : b ≠ c) : (w.setCell ⟨c, i, none⟩ u).heap[b]? = w.heap[b]? := Below.heap_setCell _ _ _ _ h

theorem heap_new (w : World) (o : Obj) : (w.alloc o).heap[w.heap.size]? = some o := by
  show (w.heap.push o)[w.heap.size]? = _
  simp
theorem heap_new1 (w : World) (o p : Obj) : ((w.alloc o).alloc p).heap[w.heap.size]? = some o := by
  rw [Below.heap_alloc _ _ _ (by simp)]; exact heap_new w o
theorem heap_new2 (w : World) (o p : Obj) : ((w.alloc o).alloc p).heap[w.heap.size + 1]? = some p := by
  have := heap_new (w.alloc o) p
  simpa using this

/-- What a value owns stays owned where its block is kept. -/
theorem ownsRow_kept {M : Nat → Prop} {w w' : World} {base : Nat} {e : TypeId} {size : Nat} {v : Value} {n : Nat} {xs : List Value} (h : w.ownsRow base e size v n xs) (k : Kept M w w') (hn : ∀ g, v.ownBlock = some g → ¬ M g) : w'.ownsRow base e size v n xs := by
  obtain ⟨h1, h2⟩ := h
  refine ⟨h1, ?_⟩
  rcases h2 with h2 | ⟨g, cap, cur, hv, hg, hh, r⟩
  · exact Or.inl h2
  · subst hv
    exact Or.inr ⟨g, cap, cur, rfl, hg, k.heap hh (hn g rfl), r⟩

/-- The block of an owned row is another one than a block of another element type. -/
theorem ownsRow_apart {w : World} {base : Nat} {e : TypeId} {size : Nat} {v : Value} {n : Nat} {xs : List Value} (h : w.ownsRow base e size v n xs) {b : Nat} {cs : Array Value} {t : TypeId} {fr : Nat × Nat} (hb : w.heap[b]? = some (.cells cs t fr)) (ht : t ≠ e) : v.ownBlock ≠ some b := by
  obtain ⟨h1, h2⟩ := h
  rcases h2 with ⟨rfl, _⟩ | ⟨g, cap, cur, rfl, hg, hh, r⟩
  · simp [Value.ownBlock]
  · intro e'
    simp [Value.ownBlock] at e'
    subst e'
    rw [hb] at hh
    simp at hh
    exact ht hh.2.1

theorem ownsRow_lt {w : World} {base : Nat} {e : TypeId} {size : Nat} {v : Value} {n : Nat} {xs : List Value} (h : w.ownsRow base e size v n xs) {g : Nat} (hg : v.ownBlock = some g) : base ≤ g ∧ g < w.heap.size := by
  obtain ⟨h1, h2⟩ := h
  rcases h2 with ⟨rfl, _⟩ | ⟨g', cap, cur, rfl, hb, hh, r⟩
  · simp [Value.ownBlock] at hg
  · simp [Value.ownBlock] at hg
    subst hg
    exact ⟨hb, lt_of_block hh⟩
end Go.Proofs.YtgjafmppkfgkfaaGreatDoor
