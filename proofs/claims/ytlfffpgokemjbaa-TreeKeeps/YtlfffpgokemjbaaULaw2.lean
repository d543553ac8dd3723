/- The law on Project: walk. -/
import Derived.Test.YtlfffpgokemjbaaULaw1
namespace Go.Proofs.Ytlfffpgokemjbaa.U
set_option maxRecDepth 100000
open Go Go.RowKit
set_option linter.unusedVariables false
theorem keep_time (f : Int) (m : En) (h : -9223372036854775808 ≤ m.time ∧ m.time ≤ 9223372036854775807) : -9223372036854775808 ≤ (keep1 f m).time ∧ (keep1 f m).time ≤ 9223372036854775807 := by
  unfold keep1
  split
  · show -9223372036854775808 ≤ T.flo m.time 100 ∧ T.flo m.time 100 ≤ 9223372036854775807
    unfold T.flo
    rw [if_neg (by omega)]
    split <;> omega
  · exact h
theorem prj_tm {f : Int} {es : List En} (h : Tm es) : Tm (prj f es) := fun m hm => by
  obtain ⟨q, hq, rfl⟩ := List.mem_map.1 hm
  exact keep_time f q (h q hq)
theorem prj_sm {f : Int} {es : List En} (h : Sm es) : Sm (prj f es) := fun m hm => by
  obtain ⟨q, hq, rfl⟩ := List.mem_map.1 hm
  obtain ⟨_, h1, h2, _, h3⟩ := keep_same f q
  rw [h1, h2, h3]
  exact h q hq
theorem prj_can {c f : Int} {es : List En} (h : Can c f es) : Can c f (prj f es) := ⟨h.1, h.2.1, h.2.2.1, fun m hm => by
  obtain ⟨q, hq, rfl⟩ := List.mem_map.1 hm
  exact keep_can (h.2.2.2 q hq)⟩
theorem own_slice {w : World} {base n : Nat} {v : Value} {L : List En} (h : OwnsEn w base v L) (hn : L.length = n) : ∃ a cap, v = .slice a n cap ∧ EntsIn w a L := by
  obtain ⟨a, cap, rfl, _, _⟩ := h.form
  rw [hn] at h ⊢
  exact ⟨a, cap, rfl, OwnsEn.in_ h⟩
set_option maxHeartbeats 8000000 in
theorem treeProjects_walk (a : Option Addr) (cap : Nat) (es : List En) (f : Int) (W : World) (hE : EntsIn W a es) (hcap : es.length ≤ cap) (hS : Sm es) (hT : Tm es) : Calls Try.prog 7 #[.slice a es.length cap, .int .i64 f] W (Yes W) := by
  have HA := fun V => hide (alive_c V)
  have HW := fun V => hide (few_c a es.length cap V)
  cases hf : fewB es.length
  · generalize es.length = n at *
    rw [hf] at HW
    clear hf hE hcap hS hT
    go_enter Try.func7, Try.ntmps7
    go_wp2_with (first
      | (go_at_call 9; refine (HW _).out.mono ?_; rintro e w1 ⟨rfl, hw⟩; obtain rfl := hw.symm; clear HW)
      | (go_at_call 10; refine (HA _).out.mono ?_; rintro e w2 ⟨rfl, hw⟩; have B1 := hide hw; clear hw HA))
    go_ret
    exact ⟨rfl, B1.out⟩
  · have hl : es.length ≤ 100000 := by have := few_no hf; omega
    obtain ⟨P, hP⟩ : ∃ P, P = prj f es := ⟨_, rfl⟩
    have hPl : P.length = es.length := by rw [hP]; simp [prj]
    have hPP : prj f P = P := by rw [hP]; exact prj_prj f es
    have hPS : Sm P := by rw [hP]; exact prj_sm hS
    have hPT : Tm P := by rw [hP]; exact prj_tm hT
    obtain ⟨c, hc⟩ := Chk.ex es
    have hcP : Chk P c := by rw [hP]; exact chk_prj hc
    obtain ⟨b, hb⟩ := bool_of (Can c f es)
    obtain ⟨b2, hb2⟩ := bool_of (Can c f P)
    have hbb : b = true → b2 = true := fun h => hb2.2 (by rw [hP]; exact prj_can (hb.1 h))
    have H1 := hide (project_c a cap f es W hE (by omega) hT)
    have H2 := hide (fun V (hV : Below W.heap.size W V) => rproject_c a cap f es V (hE.stay hV) (by omega) hT)
    have H4 := hide (fun V g (hg : EntsIn V (some ⟨g, 0, none⟩) P) => project_c (some ⟨g, 0, none⟩) P.length f P V hg (by omega) hPT)
    have H3 := hide (fun V x y cx cy (hx : EntsIn V x P) (hy : EntsIn V y P) => rsame_v x y cx cy P P true V hx hy (by omega) ⟨fun _ => rfl, fun _ => rfl⟩)
    have H5 := hide (fun V g (hg : EntsIn V (some ⟨g, 0, none⟩) P) => check_v (some ⟨g, 0, none⟩) P.length P c V hg (Nat.le_refl _) (fun m hm => by have := hPS m hm; omega) hcP)
    have H6 := hide (fun V (hV : Below W.heap.size W V) => rcheck_v a cap es c V (hE.stay hV) hS hc)
    have H7 := hide (fun V (hV : Below W.heap.size W V) => can_v a cap c f es b V (hE.stay hV) (by omega) hT (check_v a cap es c V (hE.stay hV) hcap (fun m hm => by have := hS m hm; omega) hc) hb)
    have H8 := hide (fun V g (hg : EntsIn V (some ⟨g, 0, none⟩) P) => can_v (some ⟨g, 0, none⟩) P.length c f P b2 V hg (by omega) hPT (check_v (some ⟨g, 0, none⟩) P.length P c V hg (Nat.le_refl _) (fun m hm => by have := hPS m hm; omega) hcP) hb2)
    unfold PjOk CpOk at H1 H4
    unfold PrOk at H2
    rw [← hP, hPl] at H1
    rw [← hP] at H2
    rw [hPP, hPl] at H4
    rw [hPl] at H3 H5 H8
    have HPL := hide hPl
    generalize es.length = n at *
    rw [hf] at HW
    clear hf hE hcap hS hT hP hPl hPP hPS hPT hc hcP hb hb2 hl
    go_enter Try.func7, Try.ntmps7
    go_upto_region 6 with (first
      | (go_at_call 9; refine (HW _).out.mono ?_; rintro e w1 ⟨rfl, hw⟩; obtain rfl := hw.symm; clear HW)
      | (go_at_call 22; refine H1.out.mono ?_; rintro e w2 ⟨g, hg0, rfl, hr, hw⟩; have B2 := hide hw; have R2 := hide hr; have I2 := hide hr.in_; clear hw hr hg0 H1)
      | (go_at_call 23; refine (H2.out _ B2.out).mono ?_; rintro e w3 ⟨v3, rfl, ho, hw⟩; have I3 := hide (I2.out.stay hw); have B3 := hide (B2.out.trans (hw.mono B2.out.size)); obtain ⟨a3, c3, hv3, hi3⟩ := own_slice ho HPL.out; subst hv3; have J3 := hide hi3; clear hw ho hi3 H2)
      | (go_at_call 14; refine (H3.out _ _ _ _ _ I3.out J3.out).mono ?_; rintro e w4 ⟨rfl, hw⟩; have I4 := hide (I3.out.stay hw); have B4 := hide (B3.out.trans (hw.mono B3.out.size)); clear hw J3)
      | (go_at_call 22; refine (H4.out _ _ I4.out).mono ?_; rintro e w5 ⟨g5, hg5, rfl, hr5, hw⟩; have I5 := hide (I4.out.stay hw); have B5 := hide (B4.out.trans (hw.mono B4.out.size)); have J5 := hide hr5.in_; clear hw hr5 hg5 H4)
      | (go_at_call 14; refine (H3.out _ _ _ _ _ J5.out I5.out).mono ?_; rintro e w6 ⟨rfl, hw⟩; have I6 := hide (I5.out.stay hw); have B6 := hide (B5.out.trans (hw.mono B5.out.size)); clear hw J5 H3))
    have HBB := hide hbb
    clear hbb
    cases b
    · go_wp2_with (first
        | (go_at_call 10; refine (HA _).out.mono ?_; rintro e w7 ⟨rfl, hw⟩; have I7 := hide (I6.out.stay hw); have B7 := hide (B6.out.trans (hw.mono B6.out.size)); clear hw HA)
        | (go_at_call 11; refine (H5.out _ _ I7.out).mono ?_; rintro e w8 ⟨rfl, hw⟩; have I8 := hide (I7.out.stay hw); have B8 := hide (B7.out.trans (hw.mono B7.out.size)); clear hw H5)
        | (go_at_call 12; refine (H6.out _ B8.out).mono ?_; rintro e w9 ⟨rfl, hw⟩; have I9 := hide (I8.out.stay hw); have B9 := hide (B8.out.trans (hw.mono B8.out.size)); clear hw H6)
        | (go_at_call 20; refine (H7.out _ B9.out).mono ?_; rintro e w10 ⟨rfl, hw⟩; have B10 := hide (B9.out.trans (hw.mono B9.out.size)); clear hw H7))
      go_ret
      exact ⟨by simp, B10.out⟩
    · have hb2 := HBB.out (by first | rfl | trivial)
      subst hb2
      go_wp2_with (first
        | (go_at_call 10; refine (HA _).out.mono ?_; rintro e w7 ⟨rfl, hw⟩; have I7 := hide (I6.out.stay hw); have B7 := hide (B6.out.trans (hw.mono B6.out.size)); clear hw HA)
        | (go_at_call 11; refine (H5.out _ _ I7.out).mono ?_; rintro e w8 ⟨rfl, hw⟩; have I8 := hide (I7.out.stay hw); have B8 := hide (B7.out.trans (hw.mono B7.out.size)); clear hw H5)
        | (go_at_call 12; refine (H6.out _ B8.out).mono ?_; rintro e w9 ⟨rfl, hw⟩; have I9 := hide (I8.out.stay hw); have B9 := hide (B8.out.trans (hw.mono B8.out.size)); clear hw H6)
        | (go_at_call 20; refine (H7.out _ B9.out).mono ?_; rintro e w10 ⟨rfl, hw⟩; have I10 := hide (I9.out.stay hw); have B10 := hide (B9.out.trans (hw.mono B9.out.size)); clear hw H7)
        | (go_at_call 20; refine (H8.out _ _ I10.out).mono ?_; rintro e w11 ⟨rfl, hw⟩; have B11 := hide (B10.out.trans (hw.mono B10.out.size)); clear hw H8))
      go_ret
      exact ⟨by simp, B11.out⟩
end Go.Proofs.Ytlfffpgokemjbaa.U
