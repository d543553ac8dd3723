/- The reference's Match: contract. -/
import Derived.Test.YtoeebdjmedkldabHRef2
import Derived.Test.YtoeebdjmedkldabRefBytes
namespace Go.Proofs.Ytoeebdjmedkldab
open Go Go.RowKit

/-- Do the bits of L from p on agree with R, as far as they go? And are they all there? -/
def agB (L : List Int) (p : Nat) (R : List Int) : Bool := decide (∀ k, k < R.length → p + k < L.length → ln L (p + k) = ln R k)
def alB (L : List Int) (p : Nat) (R : List Int) : Bool := agB L p R && decide (p + R.length ≤ L.length)
theorem agB_true {L : List Int} {p : Nat} {R : List Int} (h : ∀ k, k < R.length → p + k < L.length → ln L (p + k) = ln R k) : agB L p R = true := decide_eq_true h
theorem agB_false {L : List Int} {p : Nat} {R : List Int} (k : Nat) (h1 : k < R.length) (h2 : p + k < L.length) (h3 : ¬ ln L (p + k) = ln R k) : agB L p R = false := decide_eq_false fun h => h3 (h k h1 h2)

/-- The bits of L from p on. -/
def bn (L : List Int) (p i : Nat) : Nat := (ln L (p + i)).toNat
theorem bn_le {L : List Int} (hb : Bin L) (p i : Nat) : bn L p i ≤ 1 := by have := hb (p + i); unfold bn ln; omega
theorem bn_int {L : List Int} (hb : Bin L) (p i : Nat) : (bn L p i : Int) = ln L (p + i) := by have := hb (p + i); unfold bn ln; omega

theorem agB_iff {L : List Int} (hb : Bin L) (p c n : Nat) (hp : p ≤ L.length) (hc : c < 2 ^ n) (j : Nat) (hj : j = min n (L.length - p)) : agB L p (rowL c n) = true ↔ vl (bn L p) j = c / 2 ^ (n - j) := by
  have h := vl_code (bn L p) c n hc j (by omega)
  have e : agB L p (rowL c n) = true ↔ ∀ k, k < j → bn L p k = bitC c n k := by
    unfold agB
    rw [decide_eq_true_iff, rowL_length]
    constructor
    · intro q k hk
      have := q k (by omega) (by omega)
      rw [rowL_at c n (by omega), ← bn_int hb] at this
      omega
    · intro q k h1 h2
      rw [rowL_at c n h1, ← bn_int hb, q k (by omega)]
  rw [e, h]
  exact ⟨fun q => q.1, fun q => ⟨q, fun k _ => bn_le hb p k⟩⟩
theorem alB_iff {L : List Int} (hb : Bin L) (p c n : Nat) (hp : p ≤ L.length) (hc : c < 2 ^ n) : alB L p (rowL c n) = true ↔ n ≤ L.length - p ∧ vl (bn L p) n = c := by
  unfold alB
  rw [Bool.and_eq_true, decide_eq_true_iff, rowL_length]
  constructor
  · rintro ⟨h1, h2⟩
    rw [agB_iff hb p c n hp hc n (by omega)] at h1
    exact ⟨by omega, by simpa using h1⟩
  · rintro ⟨h1, h2⟩
    refine ⟨?_, by omega⟩
    rw [agB_iff hb p c n hp hc n (by omega)]
    simpa using h2

/-- What the next bits are: a symbol's code, or none, and why. -/
def NextIs (ls : List Int) (b : Nat → Nat) (av N s n : Nat) (err : Int) : Prop :=
  (err = 0 ∧ n ≤ av ∧ s < ls.length ∧ 1 ≤ n ∧ ln ls s = (n : Int) ∧ cd ls s = vl b n) ∨ (s = 0 ∧ n = 0 ∧ (∀ m, m ≤ av → ¬ Hit ls b m) ∧ ((av < N ∧ err = 42) ∨ (N ≤ av ∧ err = 43)))

theorem NextIs.one {ls : List Int} {b : Nat → Nat} (hb : ∀ i, b i ≤ 1) {av N s n t m : Nat} {e f : Int} (h : NextIs ls b av N s n e) (k : NextIs ls b av N t m f) : s = t ∧ n = m ∧ e = f := by
  rcases h with ⟨h1, h2, h3, h4, h5, h6⟩ | ⟨h1, h2, h3, h4⟩ <;> rcases k with ⟨k1, k2, k3, k4, k5, k6⟩ | ⟨k1, k2, k3, k4⟩
  · have e1 : s = t := sym_one hb h3 k3 (by omega) (by omega) (by rw [h5, Int.toNat_natCast]; exact h6) (by rw [k5, Int.toNat_natCast]; exact k6)
    subst e1
    exact ⟨rfl, by omega, by omega⟩
  · exfalso
    have := sym_hit h3 (b := b) (by omega) (by rw [h5, Int.toNat_natCast]; exact h6)
    rw [h5, Int.toNat_natCast] at this
    exact k3 n h2 this
  · exfalso
    have := sym_hit k3 (b := b) (by omega) (by rw [k5, Int.toNat_natCast]; exact k6)
    rw [k5, Int.toNat_natCast] at this
    exact h3 m k2 this
  · omega

theorem some_iff {ls : List Int} (hg : Good ls) {N : Nat} (hN : Longest ls N) {L : List Int} (hb : Bin L) (p : Nat) (hp : p ≤ L.length) (hno : ∀ m, m ≤ L.length - p → ¬ Hit ls (bn L p) m) :
    (∃ t, t < ls.length ∧ ln ls t ≠ 0 ∧ agB L p (rowL (cd ls t) (ln ls t).toNat) = true) ↔ L.length - p < N := by
  constructor
  · rintro ⟨t, ht, h0, hag⟩
    have hf := ln_fit hg.fit t
    have hc := (cd_lt hg.le hg.fit ht (by omega)).2
    have hu := hN.up t ht
    by_cases hn : (ln ls t).toNat ≤ L.length - p
    · exfalso
      rw [agB_iff hb p _ _ hp hc _ rfl, Nat.min_eq_left hn, Nat.sub_self, Nat.pow_zero, Nat.div_one] at hag
      exact hno _ hn (sym_hit ht (by omega) hag.symm)
    · omega
  · intro hav
    rcases hg.way with hfull | hlone
    · obtain ⟨m, hm, hh⟩ := full_hit ls hfull (cutB (bn L p) (L.length - p)) (cutB_le (bn_le hb p) _) N hN.le (fun k h1 h2 => hN.zero k h1)
      have hgt : L.length - p < m := by
        rcases Nat.lt_or_ge (L.length - p) m with h' | h'
        · exact h'
        · exfalso
          refine hno m h' ?_
          unfold Hit at hh ⊢
          rw [cutB_vl _ _ _ h'] at hh
          exact hh
      obtain ⟨t, ht, hl, hcd⟩ := hit_sym hh
      have hc := (cd_lt hg.le hg.fit ht (by omega)).2
      refine ⟨t, ht, by omega, ?_⟩
      rw [hl, Int.toNat_natCast] at hc ⊢
      rw [agB_iff hb p _ _ hp hc (L.length - p) (by omega), hcd]
      have e : m = (L.length - p) + (m - (L.length - p)) := by omega
      conv => rhs; rw [e]
      rw [show L.length - p + (m - (L.length - p)) - (L.length - p) = m - (L.length - p) by omega, vl_half _ (cutB_le (bn_le hb p) _), cutB_vl _ _ _ (Nat.le_refl _)]
    · rcases hN.at_ with h0 | ⟨t, ht, hl⟩
      · omega
      · have h1 := hlone t ht
        have hc := (cd_lt hg.le hg.fit ht (by omega)).2
        have hN1 : N = 1 := by omega
        subst hN1
        refine ⟨t, ht, by omega, ?_⟩
        rw [hl] at hc ⊢
        rw [agB_iff hb p _ _ hp hc 0 (by simp; omega)]
        simp [vl]
        simp at hc
        omega
end Go.Proofs.Ytoeebdjmedkldab
