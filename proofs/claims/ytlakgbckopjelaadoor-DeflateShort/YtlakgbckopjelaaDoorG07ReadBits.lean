/- Several texts, laid together: HRef2, HRef3, ReadBits. -/
import Derived.Test.YtlakgbckopjelaaDoorG06HRef1
import Derived.Test.YtlakgbckopjelaaDoorG04HMath
import Derived.Test.YtlakgbckopjelaaDoorG01Row
/- The reference's Same, Codes, Row and Match: contracts. -/
namespace Go.Proofs.YtlakgbckopjelaaDoor
set_option maxRecDepth 100000
open Go Go.RowKit

/-- What the reference's Codes has in hand ahead of symbol k's turn at length n. -/
def CLast (ls : List Int) (n k : Nat) (C last : Int) : Prop :=
  (last = 0 ∧ C = -1 ∧ fc ls n + (ls.take k).count (n : Int) = 0) ∨ (1 ≤ last ∧ last ≤ n ∧ 0 ≤ C ∧ (C + 1) * 2 ^ ((n : Int) - last).toNat = ((fc ls n + (ls.take k).count (n : Int) : Nat) : Int))

theorem CLast.le {ls : List Int} {n k : Nat} {C last : Int} (h : CLast ls n k C last) (hw : ws ls 15 ≤ 32768) (hn : n ≤ 15) (h1 : 1 ≤ n) : -1 ≤ C ∧ C ≤ 32768 := by
  rcases h with ⟨_, h, _⟩ | ⟨h2, h3, h4, h5⟩
  · omega
  · have u := up_le ls hw n hn
    have p : 2 ^ n ≤ 2 ^ 15 := Nat.pow_le_pow_right (by decide) hn
    have c := take_count_le ls k (n : Int)
    have e := ct_eq ls n h1
    have q := pow_pos' ((n : Int) - last).toNat
    have m : (C + 1) * 1 ≤ (C + 1) * 2 ^ ((n : Int) - last).toNat := Int.mul_le_mul_of_nonneg_left q (by omega)
    omega
theorem CLast.next {ls : List Int} {n : Nat} {C last : Int} (h : CLast ls n ls.length C last) (h1 : 1 ≤ n) : CLast ls (n + 1) 0 C last := by
  have e := ct_eq ls n h1
  unfold CLast at h ⊢
  rw [List.take_length, ← e] at h
  simp only [List.take_zero, List.count_nil, Nat.add_zero, fc]
  rcases h with ⟨a, b, c⟩ | ⟨a, b, c, d⟩
  · exact .inl ⟨a, b, by omega⟩
  · refine .inr ⟨a, by omega, c, ?_⟩
    have q : (((n + 1 : Nat) : Int) - last).toNat = ((n : Int) - last).toNat + 1 := by omega
    rw [q, Int.pow_succ, ← Int.mul_assoc, d]
    push_cast; omega
theorem CLast.skip {ls : List Int} {n k : Nat} {C last : Int} (h : CLast ls n k C last) (hk : k < ls.length) (hl : ¬ ln ls k = (n : Int)) : CLast ls n (k + 1) C last := by
  unfold CLast at h ⊢
  rw [take_count_succ ls k _ hk, if_neg hl]; exact h
theorem CLast.take {ls : List Int} {n k : Nat} (hk : k < ls.length) (hl : ln ls k = (n : Int)) (h1 : 1 ≤ n) (X : Int) (hX : X = ((fc ls n + (ls.take k).count (n : Int) : Nat) : Int)) : CLast ls n (k + 1) X n := by
  unfold CLast
  rw [take_count_succ ls k _ hk, if_pos hl]
  refine .inr ⟨by omega, by omega, by omega, ?_⟩
  rw [hX]; simp; omega

/-- A code's bits, the highest first; the first ones of them not yet laid, if fewer than n are. -/
def rowP (c n j : Nat) : List Int := (List.range n).map fun (k : Nat) => if n - j ≤ k then (bitC c n k : Int) else 0
def rowL (c n : Nat) : List Int := (List.range n).map fun (k : Nat) => (bitC c n k : Int)
theorem rowL_length (c n : Nat) : (rowL c n).length = n := by simp [rowL]
theorem rowL_at (c n : Nat) {k : Nat} (h : k < n) : ln (rowL c n) k = (bitC c n k : Int) := by simp [ln, rowL, List.getD, h]
theorem rowP_zero (c n : Nat) : rowP c n 0 = List.replicate n 0 := by
  have e : List.replicate n (0 : Int) = (List.range n).map fun _ => 0 := by rw [List.map_const', List.length_range]
  rw [e]
  unfold rowP
  apply List.map_congr_left
  intro s hs
  have : s < n := by simpa using hs
  rw [if_neg (by omega)]
theorem rowP_end (c n : Nat) : rowP c n n = rowL c n := by
  unfold rowP rowL
  apply List.map_congr_left
  intro s _
  rw [if_pos (by omega)]
theorem rowP_size (c n j : Nat) : (valA (rowP c n j)).size = n := by simp [valA, rowP]
theorem rowP_set (c n j : Nat) (hj : j < n) : (valA (rowP c n j)).setIfInBounds (n - 1 - j) (.int .i64 ((c / 2 ^ j % 2 : Nat) : Int)) = valA (rowP c n (j + 1)) := by
  apply Array.ext_getElem?
  intro s
  rw [Array.getElem?_setIfInBounds]
  by_cases hs : s < n
  · by_cases e : n - 1 - j = s
    · subst e
      have hb : bitC c n (n - 1 - j) = c / 2 ^ j % 2 := by unfold bitC; rw [show n - 1 - (n - 1 - j) = j by omega]
      simp [valA, rowP, hs, hb]
      intro h; omega
    · have : (n ≤ s + j) ↔ (n ≤ s + (j + 1)) := by omega
      simp [valA, rowP, hs, e, this]
  · have e : ¬ n - 1 - j = s := by omega
    simp [valA, rowP, hs, e]

end Go.Proofs.YtlakgbckopjelaaDoor

/- The reference's Match: contract. -/
namespace Go.Proofs.YtlakgbckopjelaaDoor
set_option maxRecDepth 100000
open Go Go.RowKit

/-- Do the bits of L from p on agree with R, as far as they go? And are they all there? -/
def agB (L : List Int) (p : Nat) (R : List Int) : Bool := decide (∀ k, k < R.length → p + k < L.length → ln L (p + k) = ln R k)
def alB (L : List Int) (p : Nat) (R : List Int) : Bool := agB L p R && decide (p + R.length ≤ L.length)
/-- The bits of L from p on. -/
def bn (L : List Int) (p i : Nat) : Nat := (ln L (p + i)).toNat
/-- What the next bits are: a symbol's code, or none, and why. -/
def NextIs (ls : List Int) (b : Nat → Nat) (av N s n : Nat) (err : Int) : Prop :=
  (err = 0 ∧ n ≤ av ∧ s < ls.length ∧ 1 ≤ n ∧ ln ls s = (n : Int) ∧ cd ls s = vl b n) ∨ (s = 0 ∧ n = 0 ∧ (∀ m, m ≤ av → ¬ Hit ls b m) ∧ ((av < N ∧ err = 42) ∨ (N ≤ av ∧ err = 43)))

theorem NextIs.one {ls : List Int} {b : Nat → Nat} (hb : ∀ i, b i ≤ 1) {av N s n t m : Nat} {e f : Int} (h : NextIs ls b av N s n e) (k : NextIs ls b av N t m f) : s = t ∧ n = m ∧ e = f := by
  rcases h with ⟨h1, h2, h3, h4, h5, h6⟩ | ⟨h1, h2, h3, h4⟩ <;> rcases k with ⟨k1, k2, k3, k4, k5, k6⟩ | ⟨k1, k2, k3, k4⟩
  · have e1 : s = t := sym_one hb h3 k3 (by omega) (by omega) (by rw [h5, Int.toNat_natCast]; exact h6) (by rw [k5, Int.toNat_natCast]; exact k6)
    subst e1
    exact ⟨rfl, by omega, by omega⟩
  · exfalso
    have := sym_hit h3 (b := b) (by omega) (by rw [h5, Int.toNat_natCast]; exact h6)
    rw [h5, Int.toNat_natCast] at this
    exact k3 n h2 this
  · exfalso
    have := sym_hit k3 (b := b) (by omega) (by rw [k5, Int.toNat_natCast]; exact k6)
    rw [k5, Int.toNat_natCast] at this
    exact h3 m k2 this
  · omega

end Go.Proofs.YtlakgbckopjelaaDoor

/- The reader's Bits: where so many bits are left, it tells them as a number and stands behind them. -/
namespace Go.Proofs.YtlakgbckopjelaaDoor
set_option maxRecDepth 100000
open Go.RowKit

end Go.Proofs.YtlakgbckopjelaaDoor
