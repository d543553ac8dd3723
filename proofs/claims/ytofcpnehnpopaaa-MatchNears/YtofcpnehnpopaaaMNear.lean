/- The reference's Near and Alone. -/
import Derived.Test.YtofcpnehnpopaaaMOpen
namespace Go.Proofs.Ytofcpnehnpopaaa
set_option maxRecDepth 100000
open Go Go.RowKit

/-- Three bytes the same, so far back. -/
def M3 (zs : List Int) (p b : Nat) : Prop := ln zs p = ln zs (p - b) ∧ ln zs (p + 1) = ln zs (p + 1 - b) ∧ ln zs (p + 2) = ln zs (p + 2 - b)
def NearOk (zs : List Int) (p : Nat) (w : World) (e : Ending) (w' : World) : Prop := ∃ β, e = .returned (.bool β) ∧ (β = true ↔ Nr zs p) ∧ ∃ q, w' = w.drewN q
theorem NearOk.no {zs : List Int} {p B : Nat} {w : World} (q : Nat) (h : ∀ b, 1 ≤ b → b < B → ¬ M3 zs p b) (hB : 64 < B ∨ p < B ∨ zs.length < p + 3) : NearOk zs p w (.returned (.bool false)) (w.drewN q) := by
  refine ⟨false, rfl, ⟨fun e => (by cases e), ?_⟩, q, rfl⟩
  rintro ⟨b, h1, h2, h3, h4, e⟩
  exact absurd e (h b h1 (by omega))
theorem NearOk.yes {zs : List Int} {p b : Nat} {w : World} (q : Nat) (h1 : 1 ≤ b) (h2 : b ≤ 64) (h3 : b ≤ p) (h4 : p + 3 ≤ zs.length) (h : M3 zs p b) : NearOk zs p w (.returned (.bool true)) (w.drewN q) :=
  ⟨true, rfl, ⟨fun _ => ⟨b, h1, h2, h3, h4, h⟩, fun _ => rfl⟩, q, rfl⟩

set_option maxHeartbeats 4000000 in
theorem near_c (a : Option Addr) (cap : Nat) (zs : List Int) (p : Nat) (w : World) (h : Bys w a zs) (hl : zs.length ≤ 1000000000) (hp : p < zs.length) :
    Calls Try.prog 16 #[.slice a zs.length cap, .int .i64 (p : Int)] w (NearOk zs p w) := by
  obtain ⟨b, off, hbl, rfl, hc⟩ := h.at_.resolve_left (by omega)
  have HC := hide hc
  clear hc h
  go_enter Try.func16, Try.ntmps16
  go_wp2_with fail
  go_loopg [5] 64 (fun gk v5 wx => ∃ B q : Nat, 1 ≤ B ∧ B + gk = 65 ∧ v5 = .int .i64 B ∧ Hid (∀ b, 1 ≤ b → b < B → ¬ M3 zs p b) ∧ wx = w.drewN q)
  case atStart => exact ⟨1, 0, by omega, by omega, rfl, fun b h1 h2 => by omega, rfl⟩
  case round =>
    obtain ⟨B, q, hB1, hBg, rfl, HN, rfl⟩ := hrel
    by_cases hex : 64 < B ∨ p < B ∨ zs.length < p + 3
    · have HE : Hid (NearOk zs p w (.returned (.bool false)) (w.drewN q)) := NearOk.no q HN.out hex
      clear HN
      by_cases e1 : 64 < B
      · have e1' : ¬ (B : Int) ≤ 64 := by omega
        go_wp2_with fail
        go_ret
        exact HE.out
      have e1' : (B : Int) ≤ 64 := by omega
      by_cases e2 : p < B
      · have e2' : ¬ (B : Int) ≤ (p : Int) := by omega
        go_wp2_with fail
        go_ret
        exact HE.out
      have e2' : (B : Int) ≤ (p : Int) := by omega
      have e3' : ¬ (p : Int) + 3 ≤ (zs.length : Int) := by omega
      go_wp2_with fail
      go_ret
      exact HE.out
    · cases gk with
      | zero => omega
      | succ g1 =>
      have e1' : (B : Int) ≤ 64 := by omega
      have e2' : (B : Int) ≤ (p : Int) := by omega
      have e3' : (p : Int) + 3 ≤ (zs.length : Int) := by omega
      obtain ⟨I, hI⟩ : ∃ I, p - B = I := ⟨_, rfl⟩
      have d0 : (w.drewN q).cell? ⟨b, off + p, none⟩ = some (.int .u8 (ln zs p)) := HC.out p (by omega)
      have d1 : (w.drewN q).cell? ⟨b, off + (p + 1), none⟩ = some (.int .u8 (ln zs (p + 1))) := HC.out (p + 1) (by omega)
      have d2 : (w.drewN q).cell? ⟨b, off + (p + 2), none⟩ = some (.int .u8 (ln zs (p + 2))) := HC.out (p + 2) (by omega)
      have g0 : (w.drewN q).cell? ⟨b, off + I, none⟩ = some (.int .u8 (ln zs I)) := HC.out I (by omega)
      have g1' : (w.drewN q).cell? ⟨b, off + (I + 1), none⟩ = some (.int .u8 (ln zs (I + 1))) := HC.out (I + 1) (by omega)
      have g2 : (w.drewN q).cell? ⟨b, off + (I + 2), none⟩ = some (.int .u8 (ln zs (I + 2))) := HC.out (I + 2) (by omega)
      have HM : Hid (M3 zs p B ↔ (ln zs p = ln zs I ∧ ln zs (p + 1) = ln zs (I + 1) ∧ ln zs (p + 2) = ln zs (I + 2))) := by
        unfold M3
        rw [hI, show p + 1 - B = I + 1 by omega, show p + 2 - B = I + 2 by omega]
        exact Iff.rfl
      generalize ln zs p = X0 at d0 HM
      generalize ln zs (p + 1) = X1 at d1 HM
      generalize ln zs (p + 2) = X2 at d2 HM
      generalize ln zs I = Y0 at g0 HM
      generalize ln zs (I + 1) = Y1 at g1' HM
      generalize ln zs (I + 2) = Y2 at g2 HM
      obtain ⟨P1, hP1⟩ : ∃ P1, p + 1 = P1 := ⟨_, rfl⟩
      obtain ⟨P2, hP2⟩ : ∃ P2, p + 2 = P2 := ⟨_, rfl⟩
      obtain ⟨I1, hI1⟩ : ∃ I1, I + 1 = I1 := ⟨_, rfl⟩
      obtain ⟨I2, hI2⟩ : ∃ I2, I + 2 = I2 := ⟨_, rfl⟩
      rw [hP1] at d1
      rw [hP2] at d2
      rw [hI1] at g1'
      rw [hI2] at g2
      have j0 : (p : Int) - (B : Int) = (I : Int) := by omega
      have j1 : (p : Int) + 1 - (B : Int) = (I1 : Int) := by omega
      have j2 : (p : Int) + 2 - (B : Int) = (I2 : Int) := by omega
      have l0 : (I : Int) < (zs.length : Int) := by omega
      have l1 : (I1 : Int) < (zs.length : Int) := by omega
      have l2 : (I2 : Int) < (zs.length : Int) := by omega
      have l3 : (p : Int) + 1 < (zs.length : Int) := by omega
      have l4 : (p : Int) + 2 < (zs.length : Int) := by omega
      have l5 : (p : Int) < (zs.length : Int) := by omega
      have t1 : ((p : Int) + 1).toNat = P1 := by omega
      have t2 : ((p : Int) + 2).toNat = P2 := by omega
      have HQ : Hid (∀ nq, (w.drewN q).drewN nq = w.drewN (q + nq)) := fun nq => World.drewN_drewN _ _ _
      have HYES : Hid (X0 = Y0 ∧ X1 = Y1 ∧ X2 = Y2 → ∀ q', NearOk zs p w (.returned (.bool true)) (w.drewN q')) := fun h' q' => NearOk.yes q' hB1 (by omega) (by omega) (by omega) (HM.out.2 h')
      have HNO : Hid (¬ (X0 = Y0 ∧ X1 = Y1 ∧ X2 = Y2) → ∀ b, 1 ≤ b → b < B + 1 → ¬ M3 zs p b) := fun h' b h1 h2 => by
        by_cases e : b = B
        · subst e; exact fun h3 => h' (HM.out.1 h3)
        · exact HN.out b h1 (by omega)
      generalize w.drewN q = w1 at d0 d1 d2 g0 g1' g2 HQ ⊢
      clear hI hP1 hP2 hI1 hI2 HM HN hex
      go_upto_region 4 with fail
      by_cases hX0 : X0 = Y0
      case neg =>
        have hb0 : (X0 == Y0) = false := by simpa using hX0
        have HN1 := hide (HNO.out (fun h' => hX0 h'.1))
        clear HNO HYES
        go_quiet (fail)
        go_wp2_with fail
        go_roundg g1
        case measure => omega
        case rel => exact ⟨B + 1, q + nq, by omega, by omega, by go_num, HN1.out, HQ.out nq⟩
      subst hX0
      by_cases hX1 : X1 = Y1
      case neg =>
        have hb0 : (X1 == Y1) = false := by simpa using hX1
        have HN1 := hide (HNO.out (fun h' => hX1 h'.2.1))
        clear HNO HYES
        go_quiet (fail)
        go_wp2_with fail
        go_roundg g1
        case measure => omega
        case rel => exact ⟨B + 1, q + nq, by omega, by omega, by go_num, HN1.out, HQ.out nq⟩
      subst hX1
      by_cases hX2 : X2 = Y2
      case neg =>
        have hb0 : (X2 == Y2) = false := by simpa using hX2
        have HN1 := hide (HNO.out (fun h' => hX2 h'.2.2))
        clear HNO HYES
        go_quiet (fail)
        go_wp2_with fail
        go_roundg g1
        case measure => omega
        case rel => exact ⟨B + 1, q + nq, by omega, by omega, by go_num, HN1.out, HQ.out nq⟩
      subst hX2
      have HY := hide (HYES.out ⟨rfl, rfl, rfl⟩)
      clear HNO HYES
      go_quiet (fail)
      go_wp2_with fail
      go_ret
      rw [HQ.out nq]
      exact HY.out _
end Go.Proofs.Ytofcpnehnpopaaa
