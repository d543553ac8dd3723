/- The finder's common and run: contracts. -/
import Derived.Test.YtofcpnehnpopaaaMNote
namespace Go.Proofs.Ytofcpnehnpopaaa
set_option maxRecDepth 100000
open Go Go.RowKit
section
variable {B : Nat} {w w' : World} {bf bb : Nat} {a : Option Addr} {cap : Nat} {zs : List Int} {tr n : Nat} {la be : Nat → Nat}

/-- How many bytes are the same at two places. -/
def Com (zs : List Int) (i p most m : Nat) : Prop := m ≤ most ∧ (∀ x, x < m → ln zs (i + x) = ln zs (p + x)) ∧ (m < most → ln zs (i + m) ≠ ln zs (p + m))
theorem Com.le {zs : List Int} {i p most m : Nat} (h : Com zs i p most m) {k : Nat} (hk : k ≤ most) (hs : ∀ x, x < k → ln zs (i + x) = ln zs (p + x)) : k ≤ m := by
  rcases Nat.lt_or_ge m k with h' | h'
  · exact absurd (hs m h') (h.2.2 (by omega))
  · exact h'

set_option maxHeartbeats 2000000 in
theorem common_c (h : FinAt B w bf bb a cap zs tr n la be) (i p most : Nat) (hi : i + most ≤ zs.length) (hp : p + most ≤ zs.length) (h0 : 0 < most) (hl : zs.length ≤ 1000000000) :
    Calls Try.prog 30 #[.pointer (some ⟨bf, 0, none⟩), .int .i64 (i : Int), .int .i64 (p : Int), .int .i64 (most : Int)] w fun e w' => (∃ m : Nat, e = .returned (.int .i64 (m : Int)) ∧ Com zs i p most m) ∧ ∃ q, w' = w.drewN q := by
  obtain ⟨b, off, rfl, hbl, hc⟩ := h.text (by omega)
  have c0 := h.c0
  have HC := hide hc
  clear hc h
  go_enter Try.func30, Try.ntmps30
  go_wp2_with fail
  go_loopg [9] most (fun gk v9 wx => ∃ m q : Nat, m + gk = most ∧ v9 = .int .i64 m ∧ Hid (∀ x, x < m → ln zs (i + x) = ln zs (p + x)) ∧ wx = w.drewN q)
  case atStart => exact ⟨0, 0, by omega, rfl, fun x hx => by omega, rfl⟩
  case round =>
    obtain ⟨m, q, hmg, rfl, HS, rfl⟩ := hrel
    cases gk with
    | zero =>
      have hge : ¬ (m : Int) < (most : Int) := by omega
      have hd : decide ((m : Int) < (most : Int)) = false := by simpa using hge
      generalize hW : w.drewN q = w1 at *
      have HW := hide hW
      clear hW c0
      go_upto_region 2 with fail
      go_quiet (fail)
      go_wp2_with fail
      go_ret
      exact ⟨⟨m, rfl, by omega, HS.out, fun h => by omega⟩, q + nq, by rw [← HW.out, World.drewN_drewN]⟩
    | succ g1 =>
      have hlt : (m : Int) < (most : Int) := by omega
      have hd : decide ((m : Int) < (most : Int)) = true := by simpa using hlt
      have c1 : (w.drewN q).cell? ⟨bf, 0, none⟩ = some (.slice (some ⟨b, off, none⟩) zs.length cap) := c0
      have d1 : (w.drewN q).cell? ⟨b, off + (i + m), none⟩ = some (.int .u8 (ln zs (i + m))) := HC.out (i + m) (by omega)
      have d2 : (w.drewN q).cell? ⟨b, off + (p + m), none⟩ = some (.int .u8 (ln zs (p + m))) := HC.out (p + m) (by omega)
      have HX : Hid (ln zs (i + m) = ln zs (i + m) ∧ ln zs (p + m) = ln zs (p + m)) := ⟨rfl, rfl⟩
      obtain ⟨X, hX⟩ : ∃ X, ln zs (i + m) = X := ⟨_, rfl⟩
      obtain ⟨Y, hY⟩ : ∃ Y, ln zs (p + m) = Y := ⟨_, rfl⟩
      rw [hX] at d1
      rw [hY] at d2
      have EX := hide hX
      have EY := hide hY
      have HQ : Hid (∀ nq, (w.drewN q).drewN nq = w.drewN (q + nq)) := fun nq => World.drewN_drewN _ _ _
      generalize w.drewN q = w1 at c1 d1 d2 HQ ⊢
      clear c0 hX hY HX
      obtain ⟨I, hI⟩ : ∃ I, i + m = I := ⟨_, rfl⟩
      obtain ⟨J, hJ⟩ : ∃ J, p + m = J := ⟨_, rfl⟩
      rw [hI] at d1 EX
      rw [hJ] at d2 EY
      have hI1 : (i : Int) + (m : Int) = (I : Int) := by omega
      have hJ1 : (p : Int) + (m : Int) = (J : Int) := by omega
      have hI2 : (I : Int) < (zs.length : Int) := by omega
      have hJ2 : (J : Int) < (zs.length : Int) := by omega
      have HI := hide hI
      have HJ := hide hJ
      clear hI hJ
      by_cases hXY : X = Y
      · subst hXY
        go_upto_region 2 with fail
        go_quiet (fail)
        go_wp2_with fail
        go_roundg g1
        case measure => omega
        case rel =>
          refine ⟨m + 1, q + nq, by omega, by go_num, fun x hx => ?_, HQ.out nq⟩
          by_cases e : x = m
          · subst e; rw [HI.out, HJ.out, EX.out, EY.out]
          · exact HS.out x (by omega)
      · have hne : (X == Y) = false := by simpa using hXY
        go_upto_region 2 with fail
        go_quiet (fail)
        go_wp2_with fail
        go_ret
        exact ⟨⟨m, rfl, by omega, HS.out, fun _ => by rw [HI.out, HJ.out, EX.out, EY.out]; exact hXY⟩, q + nq, HQ.out nq⟩
end
end Go.Proofs.Ytofcpnehnpopaaa
