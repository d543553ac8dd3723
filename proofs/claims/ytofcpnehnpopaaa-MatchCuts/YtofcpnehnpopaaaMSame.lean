/- The reference's Same; rows of tokens. -/
import Derived.Test.YtofcpnehnpopaaaMOpen
namespace Go.Proofs.Ytofcpnehnpopaaa
set_option maxRecDepth 100000
open Go Go.RowKit

theorem tk_ext {xs ys : List Tk} (hl : xs.length = ys.length) (h : ∀ i, i < xs.length → tk xs i = tk ys i) : xs = ys := by
  apply List.ext_getElem hl
  intro i h1 h2
  have := h i h1
  rwa [tk_in h1, tk_in h2] at this

set_option maxHeartbeats 4000000 in
theorem same_yes (a a2 : Option Addr) (cap cap2 : Nat) (xs : List Tk) (w : World) (h : Toks w a xs) (h2 : Toks w a2 xs) (hl : xs.length ≤ 1000000000) :
    Calls Try.prog 19 #[.slice a xs.length cap, .slice a2 xs.length cap2] w fun e w' => e = .returned (.bool true) ∧ ∃ q, w' = w.drewN q := by
  have HT := hide h
  have HT2 := hide h2
  clear h h2
  go_enter Try.func19, Try.ntmps19
  go_wp2_with fail
  go_loopg [5] xs.length (fun gk v5 wx => ∃ i q : Nat, i + gk = xs.length ∧ v5 = .int .i64 i ∧ wx = w.drewN q)
  case atStart => exact ⟨0, 0, by omega, rfl, rfl⟩
  case round =>
    obtain ⟨i, q, hig, rfl, rfl⟩ := hrel
    cases gk with
    | zero =>
      have hge : ¬ (i : Int) < (xs.length : Int) := by omega
      go_wp2_with fail
      go_ret
      exact ⟨rfl, q, rfl⟩
    | succ g1 =>
      have hlt : (i : Int) < (xs.length : Int) := by omega
      obtain ⟨b, off, rfl, hbl, c0, c1, c2⟩ := HT.out.three (Below.refl _ w) (i := i) (by omega)
      obtain ⟨b2, off2, rfl, hbl2, d0, d1, d2⟩ := HT2.out.three (Below.refl _ w) (i := i) (by omega)
      have e0 : (w.drewN q).cell? ⟨b, off + i * 3, none⟩ = _ := c0
      have e1 : (w.drewN q).cell? ⟨b, off + i * 3 + 1, none⟩ = _ := c1
      have e2 : (w.drewN q).cell? ⟨b, off + i * 3 + 2, none⟩ = _ := c2
      have g0 : (w.drewN q).cell? ⟨b2, off2 + i * 3, none⟩ = _ := d0
      have g1' : (w.drewN q).cell? ⟨b2, off2 + i * 3 + 1, none⟩ = _ := d1
      have g2 : (w.drewN q).cell? ⟨b2, off2 + i * 3 + 2, none⟩ = _ := d2
      clear c0 c1 c2 d0 d1 d2
      have HQ : Hid (∀ nq, (w.drewN q).drewN nq = w.drewN (q + nq)) := fun nq => World.drewN_drewN _ _ _
      generalize w.drewN q = w1 at e0 e1 e2 g0 g1' g2 HQ ⊢
      generalize tk xs i = t at e0 e1 e2 g0 g1' g2
      obtain ⟨X, L, K⟩ := t
      simp only at e0 e1 e2 g0 g1' g2
      go_upto_region 6 with fail
      go_quiet (fail)
      go_wp2_with fail
      go_roundg g1
      case measure => omega
      case rel => exact ⟨i + 1, q + nq, by omega, by go_num, HQ.out nq⟩
end Go.Proofs.Ytofcpnehnpopaaa
