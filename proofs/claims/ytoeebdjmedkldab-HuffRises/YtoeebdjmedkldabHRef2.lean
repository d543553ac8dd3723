/- The reference's Same, Codes, Row and Match: contracts. -/
import Derived.Test.YtoeebdjmedkldabHRef1
namespace Go.Proofs.Ytoeebdjmedkldab
open Go Go.RowKit

theorem same_c (lo hi lo' hi' : Nat) (a a' : Option Addr) (cap cap' : Nat) (A : List Int) (w : World) (hA : A.length ≤ 1000000) (h : Ints lo hi w a A) (h' : Ints lo' hi' w a' A) :
    Calls Try.prog 11 #[.slice a A.length cap, .slice a' A.length cap'] w fun e w' => e = .returned (.bool true) ∧ ∃ n, w' = w.drewN n := by
  have HI : Hid (Ints lo hi w a A) := h
  have HI' : Hid (Ints lo' hi' w a' A) := h'
  clear h h'
  go_enter Try.func11, Try.ntmps11
  go_wp2
  go_loopw [5] (fun i wr => ∃ k : Nat, k ≤ A.length ∧ i = .int .i64 k ∧ ∃ n, wr = w.drewN n) (fun i _ => A.length - (intOf i).toNat)
  case atStart => exact ⟨0, by omega, rfl, 0, rfl⟩
  case round =>
    obtain ⟨k, hk, rfl, n, rfl⟩ := hrel
    by_cases hlt : k < A.length
    · obtain ⟨b, off, _, _, hb, rfl, hcell⟩ := HI.out.resolve_left (by omega)
      obtain ⟨b', off', _, _, hb', rfl, hcell'⟩ := HI'.out.resolve_left (by omega)
      have hc := hcell k hlt
      have hc' := hcell' k hlt
      clear hcell hcell' HI HI'
      generalize ln A k = X at hc hc'
      go_wp2
      go_quiet (fail)
      go_wp2
      go_roundw
      case rel => exact ⟨k + 1, by omega, by go_num, _, rfl⟩
      case measure => simp [intOf]; omega
    · obtain rfl : k = A.length := by omega
      go_wp2
      go_ret
      exact ⟨rfl, n, rfl⟩

/-- What the reference's Codes has in hand ahead of symbol k's turn at length n. -/
def CLast (ls : List Int) (n k : Nat) (C last : Int) : Prop :=
  (last = 0 ∧ C = -1 ∧ fc ls n + (ls.take k).count (n : Int) = 0) ∨ (1 ≤ last ∧ last ≤ n ∧ 0 ≤ C ∧ (C + 1) * 2 ^ ((n : Int) - last).toNat = ((fc ls n + (ls.take k).count (n : Int) : Nat) : Int))

theorem CLast.le {ls : List Int} {n k : Nat} {C last : Int} (h : CLast ls n k C last) (hw : ws ls 15 ≤ 32768) (hn : n ≤ 15) (h1 : 1 ≤ n) : -1 ≤ C ∧ C ≤ 32768 := by
  rcases h with ⟨_, h, _⟩ | ⟨h2, h3, h4, h5⟩
  · omega
  · have u := up_le ls hw n hn
    have p : 2 ^ n ≤ 2 ^ 15 := Nat.pow_le_pow_right (by decide) hn
    have c := take_count_le ls k (n : Int)
    have e := ct_eq ls n h1
    have q := pow_pos' ((n : Int) - last).toNat
    have m : (C + 1) * 1 ≤ (C + 1) * 2 ^ ((n : Int) - last).toNat := Int.mul_le_mul_of_nonneg_left q (by omega)
    omega
theorem CLast.next {ls : List Int} {n : Nat} {C last : Int} (h : CLast ls n ls.length C last) (h1 : 1 ≤ n) : CLast ls (n + 1) 0 C last := by
  have e := ct_eq ls n h1
  unfold CLast at h ⊢
  rw [List.take_length, ← e] at h
  simp only [List.take_zero, List.count_nil, Nat.add_zero, fc]
  rcases h with ⟨a, b, c⟩ | ⟨a, b, c, d⟩
  · exact .inl ⟨a, b, by omega⟩
  · refine .inr ⟨a, by omega, c, ?_⟩
    have q : (((n + 1 : Nat) : Int) - last).toNat = ((n : Int) - last).toNat + 1 := by omega
    rw [q, Int.pow_succ, ← Int.mul_assoc, d]
    push_cast; omega
theorem CLast.skip {ls : List Int} {n k : Nat} {C last : Int} (h : CLast ls n k C last) (hk : k < ls.length) (hl : ¬ ln ls k = (n : Int)) : CLast ls n (k + 1) C last := by
  unfold CLast at h ⊢
  rw [take_count_succ ls k _ hk, if_neg hl]; exact h
theorem CLast.take {ls : List Int} {n k : Nat} (hk : k < ls.length) (hl : ln ls k = (n : Int)) (h1 : 1 ≤ n) (X : Int) (hX : X = ((fc ls n + (ls.take k).count (n : Int) : Nat) : Int)) : CLast ls n (k + 1) X n := by
  unfold CLast
  rw [take_count_succ ls k _ hk, if_pos hl]
  refine .inr ⟨by omega, by omega, by omega, ?_⟩
  rw [hX]; simp; omega

/-- A code's bits, the highest first; the first ones of them not yet laid, if fewer than n are. -/
def rowP (c n j : Nat) : List Int := (List.range n).map fun (k : Nat) => if n - j ≤ k then (bitC c n k : Int) else 0
def rowL (c n : Nat) : List Int := (List.range n).map fun (k : Nat) => (bitC c n k : Int)
theorem rowL_length (c n : Nat) : (rowL c n).length = n := by simp [rowL]
theorem rowL_at (c n : Nat) {k : Nat} (h : k < n) : ln (rowL c n) k = (bitC c n k : Int) := by simp [ln, rowL, List.getD, h]
theorem rowP_zero (c n : Nat) : rowP c n 0 = List.replicate n 0 := by
  have e : List.replicate n (0 : Int) = (List.range n).map fun _ => 0 := by rw [List.map_const', List.length_range]
  rw [e]
  unfold rowP
  apply List.map_congr_left
  intro s hs
  have : s < n := by simpa using hs
  rw [if_neg (by omega)]
theorem rowP_end (c n : Nat) : rowP c n n = rowL c n := by
  unfold rowP rowL
  apply List.map_congr_left
  intro s _
  rw [if_pos (by omega)]
theorem rowP_size (c n j : Nat) : (valA (rowP c n j)).size = n := by simp [valA, rowP]
theorem rowP_set (c n j : Nat) (hj : j < n) : (valA (rowP c n j)).setIfInBounds (n - 1 - j) (.int .i64 ((c / 2 ^ j % 2 : Nat) : Int)) = valA (rowP c n (j + 1)) := by
  apply Array.ext_getElem?
  intro s
  rw [Array.getElem?_setIfInBounds]
  by_cases hs : s < n
  · by_cases e : n - 1 - j = s
    · subst e
      have hb : bitC c n (n - 1 - j) = c / 2 ^ j % 2 := by unfold bitC; rw [show n - 1 - (n - 1 - j) = j by omega]
      simp [valA, rowP, hs, hb]
      intro h; omega
    · have : (n ≤ s + j) ↔ (n ≤ s + (j + 1)) := by omega
      simp [valA, rowP, hs, e, this]
  · have e : ¬ n - 1 - j = s := by omega
    simp [valA, rowP, hs, e]

end Go.Proofs.Ytoeebdjmedkldab
