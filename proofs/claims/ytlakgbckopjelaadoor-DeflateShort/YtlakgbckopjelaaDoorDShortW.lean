/- The law on how short the stream is: walked. -/
import Derived.Test.YtlakgbckopjelaaDoorE12DDefN
import Derived.Test.YtlakgbckopjelaaDoorE11DCutN
import Derived.Test.YtlakgbckopjelaaDoorG32MFinds0
import Derived.SliceStrings
namespace Go.Proofs.YtlakgbckopjelaaDoor
set_option maxRecDepth 100000
open Go Go.RowKit

theorem short_len {zs X : List Int} {lv : Int} (h : DefIsN zs lv X) (hlv : 1 ≤ lv) : X.length ≤ (stB zs).length ∧ ∀ ts, M.FndAll zs lv ts → X.length ≤ (dataL (blB 1 true [] iFix iFive ts)).length := by
  obtain ⟨ts, xs, _, _, _, _, ⟨_, hf⟩, hb, hX⟩ := h.2 hlv
  have hl := hb.len
  refine ⟨?_, fun ts' h' => ?_⟩
  · rcases hX with ⟨_, h⟩ | ⟨rfl, _⟩
    · exact h
    · exact Nat.le_refl _
  · obtain rfl := h'.one hf
    rw [dataL_length]
    rcases hX with ⟨rfl, _⟩ | ⟨rfl, h9⟩
    · rw [dataL_length]; omega
    · rw [dataL_length] at h9; omega
theorem fixed_told {w : World} {ts : List M.Tk} {e : Ending} {w' : World} (h : OneRet w ts 1 e w') : ∃ g c, e = .returned (.tuple #[.slice (some ⟨g, 0, none⟩) (dataL (blB 1 true [] iFix iFive ts)).length c, .bool true]) ∧ Below w.heap.size w w' := by
  obtain ⟨S, D, H, g, c, hbk, _, hH, he, ho, hb⟩ := h
  obtain ⟨rfl, rfl, rfl⟩ := kind_one hbk hH
  exact ⟨g, c, he, hb⟩
set_option maxHeartbeats 4000000 in
theorem short_walk (a : Option Addr) (len cap : Nat) (zs : List Int) (lv : Int) (w : World) (h : BIn w a len cap zs) (hT : Tab w) :
    Calls Tryd.prog 3 #[.slice a len cap, .int .i64 lv] w fun e w' => e = .returned (.bool true) ∧ Below w.heap.size w w' := by
  have HA : Hid (∀ W, Below w.heap.size w W → Calls Tryd.prog 4 #[] W fun e w' => e = .returned (.bool true) ∧ Below W.heap.size W w') := fun W hW => alive_c W (hT.on hW)
  have hzl : zs.length = len := h.1.1
  by_cases hl : len ≤ 20000
  case neg =>
    have g1 : (20000 : Int) < (len : Int) := by omega
    clear h hT
    go_enter Tryd.func3, Tryd.ntmps3
    go_wp2_with (go_at_call 4; refine (HA.out w (Below.refl _ _)).mono ?_; rintro x w9 ⟨rfl, b9⟩; have B9 := hide b9; clear b9)
    go_ret
    exact ⟨rfl, B9.out⟩
  have g1 : ¬ (20000 : Int) < (len : Int) := by omega
  have hz : ∀ x ∈ zs, 0 ≤ x ∧ x ≤ 255 := h.1.mem
  have hst := stB_len _ zs rfl
  have H1 : Hid (Calls Tryd.prog 5 #[.slice a len cap, .int .i64 lv] w (DefRetN w zs lv)) := by
    subst hzl
    exact deflate_big w hT hT.pos a cap zs lv h.1 h.2.2.2 h.2.1 h.2.2.1 (by omega)
  have H2 : Hid (∀ W, Below w.heap.size w W → Calls Tryd.prog 6 #[.slice a len cap] W fun e w' => ∃ a' c', e = .returned (.slice a' (stB zs).length c') ∧ OwnsB w' W.heap.size (.slice a' (stB zs).length c') (stB zs) ∧ Below W.heap.size W w') := fun W hW => by
    subst hzl
    have hs := h.stay hW
    exact qstored_c W a cap zs hs.1 hs.2.2.2 hs.2.1 (by omega)
  by_cases hlv : lv < 1
  case pos =>
    have H1' : Hid (Calls Tryd.prog 5 #[.slice a len cap, .int .i64 lv] w fun e w' => ∃ g c, e = .returned (.slice (some ⟨g, 0, none⟩) (stB zs).length c) ∧ OwnsB w' w.heap.size (.slice (some ⟨g, 0, none⟩) (stB zs).length c) (stB zs) ∧ Below w.heap.size w w') := H1.out.mono fun e w' ⟨g, c, X, he, ho, hX, hb⟩ => by
      obtain rfl := hX.1 hlv
      exact ⟨g, c, he, ho, hb⟩
    generalize stB zs = ST at H1' H2 hst
    obtain ⟨S, hS⟩ : ∃ S, strOfNums ST = S := ⟨_, rfl⟩
    have HS := hide hS
    clear h hT hz hS hzl hst H1
    go_enter Tryd.func3, Tryd.ntmps3
    go_upto_region 5 with (go_at_call 5; refine H1'.out.mono ?_; rintro e w1 ⟨g, c1, rfl, k1, k2⟩; have B1 := hide k2; have O1 := hide k1; clear k1 k2 H1')
    refine wp_region_any (by kernel_rfl) ?_
    change wpAny _ _ _ _ _ _ _ (World.drew _)
    refine wpAny_ready (rs := [0]) (by kernel_rfl) (by simp) ?_
    refine AllReady.cons rfl (fun K hK => ?_) AllReady.nil
    go_simp
    go_wp2_with (go_at_call 4; refine (HA.out _ (B1.out.trans (((Below.refl _ w1).drew).mono B1.out.size))).mono ?_; rintro e w4 ⟨rfl, b4⟩; have b4' : Below w1.heap.size w1 w4 := (Below.refl _ w1).drew.trans b4; have B4 := hide (B1.out.trans (b4'.mono B1.out.size)); have O4 := hide (O1.out.below b4'); have hc4 := conv_own O4.out; rw [HS.out] at hc4; clear b4 b4')
    try (refine hK _ _ ?_; clear hK K)
    try simp only [Act.put, List.getElem_toArray, List.getElem_cons_zero, List.getElem_cons_succ, List.setIfInBounds_toArray, List.set_cons_zero, List.set_cons_succ]
    (refine wpAny_take (i := 1) (v := ?_) rfl (by kernel_rfl) (by kernel_rfl) (by kernel_rfl) (fun _ _ _ h => h) (Or.inl ⟨by rfl, ?_⟩) ?_; rotate_left; (intro w; go_simp); (try with_reducible rfl); try simp only [Act.put, List.getElem_toArray, List.getElem_cons_zero, List.getElem_cons_succ, List.setIfInBounds_toArray, List.set_cons_zero, List.set_cons_succ])
    (refine wpAny_take (i := 2) (v := ?_) rfl (by kernel_rfl) (by kernel_rfl) (by kernel_rfl) (fun _ _ _ h => h) (Or.inl ⟨by rfl, ?_⟩) ?_; rotate_left; (intro w; go_simp); (try with_reducible rfl); try simp only [Act.put, List.getElem_toArray, List.getElem_cons_zero, List.getElem_cons_succ, List.setIfInBounds_toArray, List.set_cons_zero, List.set_cons_succ])
    (refine wpAny_take (i := 4) (v := ?_) rfl (by kernel_rfl) (by kernel_rfl) (by kernel_rfl) (fun _ _ _ h => h) (Or.inl ⟨by rfl, ?_⟩) ?_; rotate_left; (intro w; go_simp); (try with_reducible rfl); try simp only [Act.put, List.getElem_toArray, List.getElem_cons_zero, List.getElem_cons_succ, List.setIfInBounds_toArray, List.set_cons_zero, List.set_cons_succ])
    refine wpAny_ready (rs := [3, 5]) (by kernel_rfl) (by simp) ?_
    refine AllReady.cons rfl (fun K hK => ?_) (AllReady.cons rfl (fun K hK => ?_) AllReady.nil)
    · go_simp
      try (refine hK _ _ ?_; clear hK K)
      try simp only [Act.put, List.getElem_toArray, List.getElem_cons_zero, List.getElem_cons_succ, List.setIfInBounds_toArray, List.set_cons_zero, List.set_cons_succ]
      refine wpAny_ready (rs := [5]) (by kernel_rfl) (by simp) ?_
      refine AllReady.cons rfl (fun K hK => ?_) AllReady.nil
      go_simp
      go_wp2_with (go_at_call 6; refine (H2.out w4 B4.out).mono ?_; rintro e w5 ⟨o5, c5, rfl, k5, k6⟩; have B5 := hide (B4.out.trans (k6.mono B4.out.size)); have O5 := hide (O4.out.below k6); have hc5 := conv_own k5; have hc6 := conv_own O5.out; rw [HS.out] at hc5 hc6; clear k5 k6)
      try (refine hK _ _ ?_; clear hK K)
      try simp only [Act.put, List.getElem_toArray, List.getElem_cons_zero, List.getElem_cons_succ, List.setIfInBounds_toArray, List.set_cons_zero, List.set_cons_succ]
      refine wpAny_ready (rs := [6]) (by kernel_rfl) (by simp) ?_
      refine AllReady.cons rfl (fun K hK => ?_) AllReady.nil
      go_simp
      try (refine hK _ _ ?_; clear hK K)
      try simp only [Act.put, List.getElem_toArray, List.getElem_cons_zero, List.getElem_cons_succ, List.setIfInBounds_toArray, List.set_cons_zero, List.set_cons_succ]
      (refine wpAny_take (i := 7) (v := ?_) rfl (by kernel_rfl) (by kernel_rfl) (by kernel_rfl) (fun _ _ _ h => h) (Or.inl ⟨by rfl, ?_⟩) ?_; rotate_left; (intro w; go_simp); (try with_reducible rfl); try simp only [Act.put, List.getElem_toArray, List.getElem_cons_zero, List.getElem_cons_succ, List.setIfInBounds_toArray, List.set_cons_zero, List.set_cons_succ])
      (refine wpAny_take (i := 8) (v := ?_) rfl (by kernel_rfl) (by kernel_rfl) (by kernel_rfl) (fun _ _ _ h => h) (Or.inl ⟨by rfl, ?_⟩) ?_; rotate_left; (intro w; go_simp); (try with_reducible rfl); try simp only [Act.put, List.getElem_toArray, List.getElem_cons_zero, List.getElem_cons_succ, List.setIfInBounds_toArray, List.set_cons_zero, List.set_cons_succ])
      (refine wpAny_take (i := 9) (v := ?_) rfl (by kernel_rfl) (by kernel_rfl) (by kernel_rfl) (fun _ _ _ h => h) (Or.inl ⟨by rfl, ?_⟩) ?_; rotate_left; (intro w; go_simp); (try with_reducible rfl); try simp only [Act.put, List.getElem_toArray, List.getElem_cons_zero, List.getElem_cons_succ, List.setIfInBounds_toArray, List.set_cons_zero, List.set_cons_succ])
      refine wpAny_done (by kernel_rfl) ?_ _
      go_wp2_with fail
      go_ret
      exact ⟨rfl, B5.out⟩
    · go_simp
      go_wp2_with (go_at_call 6; refine (H2.out w4 B4.out).mono ?_; rintro e w5 ⟨o5, c5, rfl, k5, k6⟩; have B5 := hide (B4.out.trans (k6.mono B4.out.size)); have O5 := hide (O4.out.below k6); have hc5 := conv_own k5; have hc6 := conv_own O5.out; rw [HS.out] at hc5 hc6; clear k5 k6)
      try (refine hK _ _ ?_; clear hK K)
      try simp only [Act.put, List.getElem_toArray, List.getElem_cons_zero, List.getElem_cons_succ, List.setIfInBounds_toArray, List.set_cons_zero, List.set_cons_succ]
      refine wpAny_ready (rs := [3, 6]) (by kernel_rfl) (by simp) ?_
      refine AllReady.cons rfl (fun K hK => ?_) (AllReady.cons rfl (fun K hK => ?_) AllReady.nil)
      · go_simp
        try (refine hK _ _ ?_; clear hK K)
        try simp only [Act.put, List.getElem_toArray, List.getElem_cons_zero, List.getElem_cons_succ, List.setIfInBounds_toArray, List.set_cons_zero, List.set_cons_succ]
        refine wpAny_ready (rs := [6]) (by kernel_rfl) (by simp) ?_
        refine AllReady.cons rfl (fun K hK => ?_) AllReady.nil
        go_simp
        try (refine hK _ _ ?_; clear hK K)
        try simp only [Act.put, List.getElem_toArray, List.getElem_cons_zero, List.getElem_cons_succ, List.setIfInBounds_toArray, List.set_cons_zero, List.set_cons_succ]
        (refine wpAny_take (i := 7) (v := ?_) rfl (by kernel_rfl) (by kernel_rfl) (by kernel_rfl) (fun _ _ _ h => h) (Or.inl ⟨by rfl, ?_⟩) ?_; rotate_left; (intro w; go_simp); (try with_reducible rfl); try simp only [Act.put, List.getElem_toArray, List.getElem_cons_zero, List.getElem_cons_succ, List.setIfInBounds_toArray, List.set_cons_zero, List.set_cons_succ])
        (refine wpAny_take (i := 8) (v := ?_) rfl (by kernel_rfl) (by kernel_rfl) (by kernel_rfl) (fun _ _ _ h => h) (Or.inl ⟨by rfl, ?_⟩) ?_; rotate_left; (intro w; go_simp); (try with_reducible rfl); try simp only [Act.put, List.getElem_toArray, List.getElem_cons_zero, List.getElem_cons_succ, List.setIfInBounds_toArray, List.set_cons_zero, List.set_cons_succ])
        (refine wpAny_take (i := 9) (v := ?_) rfl (by kernel_rfl) (by kernel_rfl) (by kernel_rfl) (fun _ _ _ h => h) (Or.inl ⟨by rfl, ?_⟩) ?_; rotate_left; (intro w; go_simp); (try with_reducible rfl); try simp only [Act.put, List.getElem_toArray, List.getElem_cons_zero, List.getElem_cons_succ, List.setIfInBounds_toArray, List.set_cons_zero, List.set_cons_succ])
        refine wpAny_done (by kernel_rfl) ?_ _
        go_wp2_with fail
        go_ret
        exact ⟨rfl, B5.out⟩
      · go_simp
        try (refine hK _ _ ?_; clear hK K)
        try simp only [Act.put, List.getElem_toArray, List.getElem_cons_zero, List.getElem_cons_succ, List.setIfInBounds_toArray, List.set_cons_zero, List.set_cons_succ]
        refine wpAny_ready (rs := [3]) (by kernel_rfl) (by simp) ?_
        refine AllReady.cons rfl (fun K hK => ?_) AllReady.nil
        go_simp
        try (refine hK _ _ ?_; clear hK K)
        try simp only [Act.put, List.getElem_toArray, List.getElem_cons_zero, List.getElem_cons_succ, List.setIfInBounds_toArray, List.set_cons_zero, List.set_cons_succ]
        (refine wpAny_take (i := 7) (v := ?_) rfl (by kernel_rfl) (by kernel_rfl) (by kernel_rfl) (fun _ _ _ h => h) (Or.inl ⟨by rfl, ?_⟩) ?_; rotate_left; (intro w; go_simp); (try with_reducible rfl); try simp only [Act.put, List.getElem_toArray, List.getElem_cons_zero, List.getElem_cons_succ, List.setIfInBounds_toArray, List.set_cons_zero, List.set_cons_succ])
        (refine wpAny_take (i := 8) (v := ?_) rfl (by kernel_rfl) (by kernel_rfl) (by kernel_rfl) (fun _ _ _ h => h) (Or.inl ⟨by rfl, ?_⟩) ?_; rotate_left; (intro w; go_simp); (try with_reducible rfl); try simp only [Act.put, List.getElem_toArray, List.getElem_cons_zero, List.getElem_cons_succ, List.setIfInBounds_toArray, List.set_cons_zero, List.set_cons_succ])
        (refine wpAny_take (i := 9) (v := ?_) rfl (by kernel_rfl) (by kernel_rfl) (by kernel_rfl) (fun _ _ _ h => h) (Or.inl ⟨by rfl, ?_⟩) ?_; rotate_left; (intro w; go_simp); (try with_reducible rfl); try simp only [Act.put, List.getElem_toArray, List.getElem_cons_zero, List.getElem_cons_succ, List.setIfInBounds_toArray, List.set_cons_zero, List.set_cons_succ])
        refine wpAny_done (by kernel_rfl) ?_ _
        go_wp2_with fail
        go_ret
        exact ⟨rfl, B5.out⟩
  case neg =>
    have hlv1 : 1 ≤ lv := by omega
    have H1' : Hid (Calls Tryd.prog 5 #[.slice a len cap, .int .i64 lv] w fun e w' => ∃ g c m, e = .returned (.slice (some ⟨g, 0, none⟩) m c) ∧ (m ≤ (stB zs).length ∧ ∀ ts, M.FndAll zs lv ts → m ≤ (dataL (blB 1 true [] iFix iFive ts)).length) ∧ Below w.heap.size w w') := H1.out.mono fun e w' ⟨g, c, X, he, ho, hX, hb⟩ => ⟨g, c, X.length, he, short_len hX hlv1, hb⟩
    have H3 : Hid (∀ W, Below w.heap.size w W → Calls Tryd.prog 8 #[.slice a len cap, .int .i64 lv] W fun e w' => ∃ (ta : Option Addr) (n ct : Nat) (ts : List M.Tk), e = .returned (.slice ta n ct) ∧ Below W.heap.size W w' ∧ M.FndAll zs lv ts ∧ Calls Tryd.prog 7 #[.slice ta n ct] w' fun e w'' => ∃ g c, e = .returned (.tuple #[.slice (some ⟨g, 0, none⟩) (dataL (blB 1 true [] iFix iFive ts)).length c, .bool true]) ∧ Below w'.heap.size w' w'') := fun W hW => by
      subst hzl
      have hs := h.stay hW
      have hTW := hT.on hW
      have hby := text_bys hs.1 (Nat.le_refl _)
      refine (M.find_c a cap zs lv W hby (by omega) hs.2.1 hs.2.2.1).mono fun e w' hf => ?_
      obtain ⟨ta, ct, ts, he, ht, hb, hr, hbt, htel, hm, hfd, how⟩ := hf.all (fun i => hs.1.2.1 i)
      obtain ⟨a', c', hv, htk, hblk, hnl, hcl⟩ := how.form
      simp only [Value.slice.injEq] at hv
      obtain ⟨rfl, _, rfl⟩ := hv
      exact ⟨ta, ts.length, ct, ts, he, hb, (hfd hlv1).2, (fixed_yes w' (hTW.on hb) (hTW.on hb).pos ta ct ts ⟨htk, fun b off e => (hblk b off e).2, TOk.of hr hbt, by omega⟩ hr).mono fun e w'' h => fixed_told h⟩
    generalize stB zs = ST at H1' H2 hst
    clear h hT hz hzl hst H1
    go_enter Tryd.func3, Tryd.ntmps3
    go_upto_region 7 with (first
      | (go_at_call 5; refine H1'.out.mono ?_; rintro e w1 ⟨g, c1, m, rfl, k1, k2⟩; have B1 := hide k2; have HM := hide k1; clear k1 k2 H1')
      | (go_at_call 8; refine (H3.out _ B1.out).mono ?_; rintro e w2 ⟨ta, n2, ct, ts, rfl, k1, k2, k3⟩; have B2 := hide (B1.out.trans (k1.mono B1.out.size)); have HF := hide (HM.out.2 ts k2); have H4 := hide k3; clear k1 k2 k3 H3)
      | (go_at_call 7; refine H4.out.mono ?_; rintro e w3 ⟨g3, c3, rfl, k1⟩; have B3 := hide (B2.out.trans (k1.mono B2.out.size)); clear k1 H4))
    have hm1 : (m : Int) ≤ (ST.length : Int) := by have := HM.out.1; omega
    have hm2 : (m : Int) ≤ ((dataL (blB 1 true [] iFix iFive ts)).length : Int) := by have := HF.out; omega
    clear HM HF
    go_wp2_with (first
      | (go_at_call 4; refine (HA.out _ B3.out).mono ?_; rintro x w4 ⟨rfl, b4⟩; have B4 := hide (B3.out.trans (b4.mono B3.out.size)); clear b4 HA)
      | (go_at_call 6; refine (H2.out _ B4.out).mono ?_; rintro e w5 ⟨o5, c5, rfl, k5, k6⟩; have B5 := hide (B4.out.trans (k6.mono B4.out.size)); clear k5 k6 H2))
    go_ret
    exact ⟨rfl, B5.out⟩
end Go.Proofs.YtlakgbckopjelaaDoor
