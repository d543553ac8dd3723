/- The law on which tokens may be, and what they tell: walked. -/
import Derived.Test.YtofcpnehnpopaaaMOpen
namespace Go.Proofs.Ytofcpnehnpopaaa
set_option maxRecDepth 100000
open Go Go.RowKit

set_option maxHeartbeats 4000000 in
theorem tells_walk (a : Option Addr) (cap : Nat) (xs : List Tk) (w : World) (h : TIn w a cap xs) :
    Calls Try.prog 3 #[.slice a xs.length cap] w (Yes w) := by
  by_cases hl : 400 < xs.length
  case pos =>
    have hl' : (400 : Int) < (xs.length : Int) := by omega
    clear h hl
    go_enter Try.func3, Try.ntmps3
    go_wp2_with (go_at_call 9; refine (alive_c _).mono ?_; rintro e w1 ⟨rfl, b1⟩)
    go_ret
    exact ⟨rfl, b1⟩
  have hl' : ¬ (400 : Int) < (xs.length : Int) := by omega
  have HT := hide h.toks
  clear h
  by_cases hr : Rt xs
  case neg =>
    have H1 := hide (tell_no a cap xs w HT.out (by omega) hr)
    have H2 : Hid (∀ W, Below w.heap.size w W → Calls Try.prog 11 #[.slice a xs.length cap] W fun e w' => e = .returned (.bool false) ∧ Below W.heap.size W w') := fun W hW => qright_no a cap xs W (HT.out.stay hW) (by omega) hr
    have H3 : Hid (∀ W, Below w.heap.size w W → Calls Try.prog 12 #[.slice a xs.length cap] W fun e w' => e = .returned (.bool false) ∧ Below W.heap.size W w') := fun W hW => right_no a cap xs W (HT.out.stay hW) (by omega) hr
    clear hr HT
    go_enter Try.func3, Try.ntmps3
    go_wp2_with (first
      | (go_at_call 10; refine H1.out.mono ?_; rintro e w1 ⟨rfl, b1⟩; have B1 := hide b1; clear b1)
      | (go_at_call 11; refine (H2.out w1 B1.out).mono ?_; rintro e w2 ⟨rfl, b2⟩; have B2 := hide (B1.out.trans (b2.mono B1.out.size)); clear b2)
      | (go_at_call 12; refine (H3.out w2 B2.out).mono ?_; rintro e w3 ⟨rfl, b3⟩; have B3 := hide (B2.out.trans (b3.mono B2.out.size)); clear b3)
      | (go_at_call 9; refine (alive_c _).mono ?_; rintro e w4 ⟨rfl, b4⟩; have B4 := hide (B3.out.trans (b4.mono B3.out.size)); clear b4))
    go_ret
    exact ⟨rfl, B4.out⟩
  have H1 := hide (tell_yes a cap xs w HT.out (by omega) hr)
  have H2 : Hid (∀ W, Below w.heap.size w W → Calls Try.prog 11 #[.slice a xs.length cap] W fun e w' => e = .returned (.bool true) ∧ Below W.heap.size W w') := fun W hW => qright_yes a cap xs W (HT.out.stay hW) (by omega) hr
  have H3 : Hid (∀ W, Below w.heap.size w W → Calls Try.prog 12 #[.slice a xs.length cap] W fun e w' => e = .returned (.bool true) ∧ Below W.heap.size W w') := fun W hW => right_yes a cap xs W (HT.out.stay hW) (by omega) hr
  have H4 : Hid (∀ W, Below w.heap.size w W → Calls Try.prog 13 #[.slice a xs.length cap] W fun e w' => ∃ o oc, e = .returned (.slice o (tel xs).length oc) ∧ TSt W w' (.slice o (tel xs).length oc) (tel xs)) := fun W hW => qtell_c a cap xs W (HT.out.stay hW) (by omega) hr
  generalize tel xs = D at H1 H4
  obtain ⟨S, hS⟩ : ∃ S, strOfNums D = S := ⟨_, rfl⟩
  have HS := hide hS
  clear hr HT hS
  go_enter Try.func3, Try.ntmps3
  go_upto_region 8 with (first
    | (go_at_call 10; refine H1.out.mono ?_; rintro e w1 ⟨o1, c1, rfl, k1⟩; have B1 := hide k1.2; have O1 := hide k1.1; clear k1)
    | (go_at_call 11; refine (H2.out w1 B1.out).mono ?_; rintro e w2 ⟨rfl, b2⟩; have B2 := hide (B1.out.trans (b2.mono B1.out.size)); have O2 := hide (O1.out.stay b2); clear b2)
    | (go_at_call 12; refine (H3.out w2 B2.out).mono ?_; rintro e w3 ⟨rfl, b3⟩; have B3 := hide (B2.out.trans (b3.mono B2.out.size)); have O3 := hide (O2.out.stay b3); clear b3))
  clear O1 O2 B1 B2 H1 H2 H3
  go_region_with (first
    | (go_at_call 9; refine (alive_c _).mono ?_; rintro e w4 ⟨rfl, b4⟩; have b4' : Below w3.heap.size w3 w4 := (Below.refl _ w3).drew.trans b4; have B4 := hide (B3.out.trans (b4'.mono B3.out.size)); have O4 := hide (O3.out.stay b4'); have hc4 := conv_own O4.out; rw [HS.out] at hc4; clear b4 b4')
    | (go_at_call 13; refine (H4.out w4 B4.out).mono ?_; rintro e w5 ⟨o5, c5, rfl, k5⟩; have B5 := hide (B4.out.trans (k5.2.mono B4.out.size)); have hc5 := conv_own k5.1; have hc6 := conv_own (O4.out.stay k5.2); rw [HS.out] at hc5 hc6; clear k5))
  all_goals go_wp2_with fail
  all_goals go_ret
  all_goals exact ⟨rfl, B5.out⟩
end Go.Proofs.Ytofcpnehnpopaaa
