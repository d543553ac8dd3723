/- Same: contract. -/
import Derived.Test.YtgafejgmjenfaabHOwn
namespace Go.Proofs.Ytgafejgmjenfaab.S
set_option maxRecDepth 100000
open Go Go.RowKit

theorem or8 (a b : Nat) (ha : a < 256) (hb : b < 256) : bits .or .u8 (a : Int) (b : Int) = ((a ||| b : Nat) : Int) ∧ a ||| b < 256 := by
  have hx : a ||| b < 256 := @Nat.or_lt_two_pow a b 8 (by omega) (by omega)
  refine ⟨?_, hx⟩
  show IntKind.u8.wrap ((BitVec.ofInt 8 (a : Int) ||| BitVec.ofInt 8 (b : Int)).toNat : Int) = _
  rw [BitVec.toNat_or, ofInt8 a ha, ofInt8 b hb, wrap8']
  omega
/-- What unlike bits the first n bytes of two texts have, taken together. -/
def dif (xs ys : List Nat) : Nat → Nat
  | 0 => 0
  | n + 1 => dif xs ys n ||| (xs.getD n 0 ^^^ ys.getD n 0)
theorem dif_lt {xs ys : List Nat} (hx : By xs) (hy : By ys) (n : Nat) : dif xs ys n < 256 := by
  induction n with
  | zero => show 0 < 256; omega
  | succ n ih => exact (or8 _ _ ih (xor8_lt (hx.getD n) (hy.getD n))).2
theorem or_zero {a b : Nat} : a ||| b = 0 ↔ a = 0 ∧ b = 0 := by
  constructor
  · intro h
    have ha : a ≤ a ||| b := Nat.left_le_or
    have hb : b ≤ a ||| b := Nat.right_le_or
    omega
  · rintro ⟨rfl, rfl⟩; rfl
theorem xor_zero {a b : Nat} : a ^^^ b = 0 ↔ a = b := by
  constructor
  · intro h
    have : a ^^^ b ^^^ b = b := by rw [h, Nat.zero_xor]
    rw [Nat.xor_assoc, Nat.xor_self, Nat.xor_zero] at this
    exact this
  · rintro rfl; exact Nat.xor_self a
theorem dif_zero (xs ys : List Nat) (n : Nat) : dif xs ys n = 0 ↔ ∀ i, i < n → xs.getD i 0 = ys.getD i 0 := by
  induction n with
  | zero => simp [dif]
  | succ n ih =>
    rw [dif, or_zero, ih, xor_zero]
    constructor
    · rintro ⟨h1, h2⟩ i hi
      by_cases e : i = n
      · rw [e]; exact h2
      · exact h1 i (by omega)
    · intro h
      exact ⟨fun i hi => h i (by omega), h n (by omega)⟩
theorem dif_same {xs ys : List Nat} (hl : xs.length = ys.length) : dif xs ys xs.length = 0 ↔ xs = ys := by
  rw [dif_zero]
  constructor
  · intro h
    apply List.ext_getElem? 
    intro i
    by_cases hi : i < xs.length
    · have := h i hi
      rw [List.getElem?_eq_getElem hi, List.getElem?_eq_getElem (by omega)]
      simpa [List.getD, hi, show i < ys.length by omega] using this
    · rw [List.getElem?_eq_none (by omega), List.getElem?_eq_none (by omega)]
  · rintro rfl i _; rfl

set_option maxHeartbeats 4000000 in
theorem same_c (a b : Option Addr) (ca cb : Nat) (xs ys : List Nat) (w : World) (hx : By xs) (hy : By ys) (ha : TextAt w a xs) (hb : TextAt w b ys) (hxl : xs.length ≤ 140737488355328) :
    Calls Try.prog 7 #[.slice a xs.length ca, .slice b ys.length cb] w fun e w' => e = .returned (.bool (decide (xs = ys))) ∧ ∃ q, w' = w.drewN q := by
  obtain ⟨N, hN⟩ : ∃ N, N = xs.length := ⟨_, rfl⟩
  obtain ⟨M, hM⟩ : ∃ M, M = ys.length := ⟨_, rfl⟩
  have HN := hide hN
  have HM := hide hM
  have HA := hide ha
  have HB := hide hb
  have HX := hide hx
  have HY := hide hy
  rw [← hN, ← hM]
  rw [← hN] at hxl
  obtain ⟨R, hR⟩ : ∃ R, R = decide (xs = ys) := ⟨_, rfl⟩
  have HR := hide hR
  rw [← hR]
  clear ha hb hx hy hN hM hR
  go_enter Try.func7, Try.ntmps7
  by_cases hnm : N = M
  · subst hnm
    have HS := hide (dif_same (HN.out.symm.trans HM.out))
    rw [← HN.out] at HS
    go_wp2_with fail
    go_loopg [5, 14] N (fun gk u5 u14 wx => ∃ i : Nat, i + gk = N ∧ u5 = .int .u8 (dif xs ys i : Nat) ∧ u14 = .int .i64 i ∧ Hid (∃ q, wx = w.drewN q))
    case atStart => exact ⟨0, by omega, rfl, rfl, ⟨0, rfl⟩⟩
    case round =>
      obtain ⟨i, hig, rfl, rfl, HW⟩ := hrel
      cases gk with
      | zero =>
        obtain rfl : i = N := by omega
        have hge : ¬ (i : Int) < (i : Int) := by omega
        have hd : decide (xs = ys) = decide (((dif xs ys i : Nat) : Int) = 0) := by
          rw [decide_eq_decide, ← HS.out]; omega
        have HD := hide (HR.out.trans hd)
        clear hd HS HR
        generalize dif xs ys i = D at HD ⊢
        go_wp2_with fail
        go_ret
        refine ⟨?_, HW.out⟩
        rw [HD.out]
        simp
        rw [Bool.eq_iff_iff, beq_iff_eq, decide_eq_true_iff]
        omega
      | succ g1 =>
        have hlt : (i : Int) < (N : Int) := by omega
        obtain ⟨qw, hqw⟩ := HW.out
        have HQ := hide hqw
        obtain ⟨b1, o1, rfl, c1⟩ : ∃ b1 o1, a = some ⟨b1, o1, none⟩ ∧ wr.cell? ⟨b1, o1 + i, none⟩ = some (.int .u8 (xs.getD i 0 : Nat)) := by
          rcases HA.out with h0 | ⟨b1, o1, e, _, h⟩
          · rw [← HN.out] at h0; omega
          · exact ⟨b1, o1, e, by rw [hqw]; exact h i (by rw [← HN.out]; omega)⟩
        obtain ⟨b2, o2, rfl, c2⟩ : ∃ b2 o2, b = some ⟨b2, o2, none⟩ ∧ wr.cell? ⟨b2, o2 + i, none⟩ = some (.int .u8 (ys.getD i 0 : Nat)) := by
          rcases HB.out with h0 | ⟨b2, o2, e, _, h⟩
          · rw [← HM.out] at h0; omega
          · exact ⟨b2, o2, e, by rw [hqw]; exact h i (by rw [← HM.out]; omega)⟩
        have x1 := HX.out.getD i
        have x2 := HY.out.getD i
        have hxr := xor8 _ _ x1 x2
        have x3 := xor8_lt x1 x2
        have x4 := dif_lt HX.out HY.out i
        have hor := (or8 _ _ x4 x3).1
        have hnx : Hid (dif xs ys (i + 1) = dif xs ys i ||| (xs.getD i 0 ^^^ ys.getD i 0)) := rfl
        have i0 : (0 : Int) ≤ (i : Int) := by omega
        generalize dif xs ys i ||| (xs.getD i 0 ^^^ ys.getD i 0) = V at hnx hor
        generalize xs.getD i 0 ^^^ ys.getD i 0 = Z at hxr x3 hor
        generalize dif xs ys i = D at x4 hor ⊢
        generalize xs.getD i 0 = X at c1 x1 hxr
        generalize ys.getD i 0 = Y at c2 x2 hxr
        clear hqw HS
        go_upto_region 7 with fail
        go_quiet (fail)
        go_wp2_with fail
        go_roundg g1
        case measure => omega
        case rel => exact ⟨i + 1, by omega, by rw [hnx.out], by go_num, ⟨qw + nq, by rw [HQ.out]; simp [World.drewN, Nat.add_assoc]⟩⟩
  · have hne : ¬ (N : Int) = (M : Int) := by omega
    have hd : decide (xs = ys) = false := by
      rw [decide_eq_false_iff_not]; intro e; exact hnm (by rw [HN.out, HM.out, e])
    have HD := hide (HR.out.trans hd)
    clear hd
    go_wp2_with fail
    go_ret
    exact ⟨by rw [HD.out]; rfl, 0, rfl⟩
end Go.Proofs.Ytgafejgmjenfaab.S
