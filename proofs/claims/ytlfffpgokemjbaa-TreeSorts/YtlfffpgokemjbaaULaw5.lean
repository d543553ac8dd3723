/- The law on Sort: walk. -/
import Derived.Test.YtlfffpgokemjbaaULaw2
import Derived.Test.YtlfffpgokemjbaaVSto
namespace Go.Proofs.Ytlfffpgokemjbaa.U
set_option maxRecDepth 100000
open Go Go.RowKit
set_option linter.unusedVariables false
set_option maxHeartbeats 8000000 in
theorem treeSorts_walk (a : Option Addr) (cap : Nat) (es : List En) (W : World) (hE : EntsIn W a es) : Calls Try.prog 4 #[.slice a es.length cap] W (Yes W) := by
  have HA := fun V => hide (alive_c V)
  by_cases hl : 100 < es.length
  · have hlI : (100 : Int) < (es.length : Int) := by omega
    clear hl hE
    generalize es.length = n at *
    go_enter Try.func4, Try.ntmps4
    go_wp2_with (go_at_call 10; refine (HA _).out.mono ?_; rintro e w2 ⟨rfl, hw⟩; have B1 := hide hw; clear hw HA)
    go_ret
    exact ⟨rfl, B1.out⟩
  · have hlI : ¬ (100 : Int) < (es.length : Int) := by omega
    obtain ⟨P, hP⟩ : ∃ P, P = srt es := ⟨_, rfl⟩
    have hPl : P.length = es.length := by rw [hP]; exact srt_length es
    have hPP : srt P = P := by rw [hP]; exact srt_twice es
    have H1 := hide (sort_c a cap es W hE (by omega))
    have H2 := hide (fun V (hV : Below W.heap.size W V) => rsort_c a cap es V (hE.stay hV) (by omega))
    have H3 := hide (fun V x y cx cy (hx : EntsIn V x P) (hy : EntsIn V y P) => rsame_v x y cx cy P P true V hx hy (by omega) ⟨fun _ => rfl, fun _ => rfl⟩)
    have H4 := hide (fun V g (hg : EntsIn V (some ⟨g, 0, none⟩) P) => sort_c (some ⟨g, 0, none⟩) P.length P V hg (by omega))
    unfold CpOk at H1 H4
    unfold SrOk at H2
    rw [← hP, hPl] at H1
    rw [← hP] at H2
    rw [hPP, hPl] at H4
    rw [hPl] at H3
    have HPL := hide hPl
    generalize es.length = n at *
    clear hE hP hPl hPP hl
    go_enter Try.func4, Try.ntmps4
    go_upto_region 4 with (go_at_call 13; refine H1.out.mono ?_; rintro e w2 ⟨g, hg0, rfl, hr, hw⟩; have B2 := hide hw; have I2 := hide hr.in_; clear hw hr hg0 H1)
    go_wp2_with (first
      | (go_at_call 10; refine (HA _).out.mono ?_; rintro e w3 ⟨rfl, hw⟩; have I3 := hide (I2.out.stay hw); have B3 := hide (B2.out.trans (hw.mono B2.out.size)); clear hw HA I2)
      | (go_at_call 15; refine (H2.out _ B3.out).mono ?_; rintro e w4 ⟨v4, rfl, ho, hw⟩; have I4 := hide (I3.out.stay hw); have B4 := hide (B3.out.trans (hw.mono B3.out.size)); obtain ⟨a4, c4, hv4, hi4⟩ := own_slice ho HPL.out; subst hv4; have J4 := hide hi4; clear hw ho hi4 H2 I3)
      | (go_at_call 14; refine (H3.out _ _ _ _ _ I4.out J4.out).mono ?_; rintro e w5 ⟨rfl, hw⟩; have I5 := hide (I4.out.stay hw); have B5 := hide (B4.out.trans (hw.mono B4.out.size)); clear hw J4 I4)
      | (go_at_call 13; refine (H4.out _ _ I5.out).mono ?_; rintro e w6 ⟨g6, hg6, rfl, hr6, hw⟩; have I6 := hide (I5.out.stay hw); have B6 := hide (B5.out.trans (hw.mono B5.out.size)); have J6 := hide hr6.in_; clear hw hr6 hg6 H4 I5)
      | (go_at_call 14; refine (H3.out _ _ _ _ _ J6.out I6.out).mono ?_; rintro e w7 ⟨rfl, hw⟩; have B7 := hide (B6.out.trans (hw.mono B6.out.size)); clear hw J6 H3))
    go_ret
    exact ⟨by simp, B7.out⟩
end Go.Proofs.Ytlfffpgokemjbaa.U
