/- The program's isClean, checkEntry: contracts. -/
import Derived.Test.YtlfffpgokemjbaaVRgt
namespace Go.Proofs.Ytlfffpgokemjbaa.U
set_option maxRecDepth 100000
open Go Go.RowKit
set_option linter.unusedVariables false
def IcOk (s : ByteArray) (w : World) (e : Ending) (w' : World) : Prop := ∃ b : Bool, e = .returned (.bool b) ∧ (b = true ↔ E.cln s.data.toList = some s.data.toList) ∧ Below w.heap.size w w'
set_option maxHeartbeats 4000000 in
theorem isClean_c (s : ByteArray) (w : World) (hsm : s.size ≤ 140737488355000) : Calls Try.prog 39 #[.string s] w (IcOk s w) := by
  have HF : ¬ E.cln s.data.toList = some s.data.toList → Hid (∀ w', Below w.heap.size w w' → IcOk s w (.returned (.bool false)) w') := fun g => hide fun w' q => ⟨false, rfl, ⟨fun s => (by cases s), fun s => absurd s g⟩, q⟩
  have HT : E.cln s.data.toList = some s.data.toList → Hid (∀ w', Below w.heap.size w w' → IcOk s w (.returned (.bool true)) w') := fun g => hide fun w' q => ⟨true, rfl, ⟨fun _ => g, fun _ => rfl⟩, q⟩
  have HC := fun W => hide (E.clean_c s hsm W)
  clear hsm
  cases hc : E.cln s.data.toList with
  | none =>
    have Q := HF (by rw [hc]; simp)
    have HC2 : ∀ W, Hid (Calls Try.prog 54 #[.string s] W fun e w' => e = .returned (.tuple #[.string (E.tx []), .int .i64 140]) ∧ Below W.heap.size W w') := fun W => hide ((HC W).out.mono fun e w' h => by unfold E.ClnOk at h; rw [hc] at h; exact h)
    clear HC hc HF HT
    go_enter Try.func39, Try.ntmps39
    go_wp2_with (go_at_call 54; refine (HC2 _).out.mono ?_; rintro e w1 ⟨rfl, hw⟩; have B1 := hide hw; clear hw HC2)
    go_ret
    exact Q.out _ B1.out
  | some q =>
    have HC2 : ∀ W, Hid (Calls Try.prog 54 #[.string s] W fun e w' => e = .returned (.tuple #[.string (E.tx q), .int .i64 0]) ∧ Below W.heap.size W w') := fun W => hide ((HC W).out.mono fun e w' h => by unfold E.ClnOk at h; rw [hc] at h; exact h)
    clear HC
    by_cases hq : q = s.data.toList
    · have Q := HT (by rw [hc, hq])
      subst hq
      rw [tx_list] at HC2
      clear HF HT hc
      go_enter Try.func39, Try.ntmps39
      go_wp2_with (go_at_call 54; refine (HC2 _).out.mono ?_; rintro e w1 ⟨rfl, hw⟩; have B1 := hide hw; clear hw HC2)
      go_ret
      exact Q.out _ B1.out
    · have Q := HF (by rw [hc]; intro g; exact hq (Option.some.inj g))
      have hne : ¬ (E.tx q).toList = s.toList := fun g => hq (by
        rw [ByteArray.toList_eq, ByteArray.toList_eq] at g
        simpa [E.tx] using g)
      have heb : ((E.tx q).toList == s.toList) = false := by simpa using hne
      clear HF HT hc hq hne
      generalize E.tx q = z at *
      go_enter Try.func39, Try.ntmps39
      go_wp2_with (go_at_call 54; refine (HC2 _).out.mono ?_; rintro e w1 ⟨rfl, hw⟩; have B1 := hide hw; clear hw HC2)
      go_ret
      exact Q.out _ B1.out
theorem tg_iff {s : ByteArray} : Tg s ↔ s.toList ≠ [] ∧ s.size ≤ 200 ∧ (∀ i (h : i < s.size), (s[i]'h).toNat ≠ 0) ∧ E.vld s.data.toList = true := by
  unfold Tg
  rw [nul_iff]
theorem right_iff {m : En} : Right m ↔ E.cln m.path.data.toList = some m.path.data.toList ∧ (0 ≤ m.mode ∧ m.mode ≤ 4095) ∧ Kd m := by
  unfold Right Kd
  rw [tg_iff]
theorem isClean_yes (s : ByteArray) (W : World) (hsm : s.size ≤ 140737488355000) (hc : E.cln s.data.toList = some s.data.toList) : Calls Try.prog 39 #[.string s] W fun e w' => e = .returned (.bool true) ∧ Below W.heap.size W w' :=
  (isClean_c s W hsm).mono fun e w' ⟨b, he, hb, hw⟩ => by rw [hb.2 hc] at he; exact ⟨he, hw⟩
theorem isClean_no (s : ByteArray) (W : World) (hsm : s.size ≤ 140737488355000) (hc : ¬ E.cln s.data.toList = some s.data.toList) : Calls Try.prog 39 #[.string s] W fun e w' => e = .returned (.bool false) ∧ Below W.heap.size W w' :=
  (isClean_c s W hsm).mono fun e w' ⟨b, he, hb, hw⟩ => by
    cases b
    · exact ⟨he, hw⟩
    · exact absurd (hb.1 rfl) hc
theorem isOfKind_yes (m : En) (W : World) (hsm : m.target.size ≤ 140737488355000) (hc : Kd m) : Calls Try.prog 40 #[.agg m.cells] W fun e w' => e = .returned (.bool true) ∧ Below W.heap.size W w' :=
  (isOfKind_c m W (by omega)).mono fun e w' ⟨b, he, hb, hw⟩ => by rw [hb.2 hc] at he; exact ⟨he, hw⟩
theorem isOfKind_no (m : En) (W : World) (hsm : m.target.size ≤ 140737488355000) (hc : ¬ Kd m) : Calls Try.prog 40 #[.agg m.cells] W fun e w' => e = .returned (.bool false) ∧ Below W.heap.size W w' :=
  (isOfKind_c m W (by omega)).mono fun e w' ⟨b, he, hb, hw⟩ => by
    cases b
    · exact ⟨he, hw⟩
    · exact absurd (hb.1 rfl) hc
theorem six_box (w : World) (m : En) : ∀ W, Below (w.alloc (.cells m.cells 30)).heap.size (w.alloc (.cells m.cells 30)) W → W.cell? ⟨w.heap.size, 0, none⟩ = some (.int .i64 m.kind) ∧ W.cell? ⟨w.heap.size, 1, none⟩ = some (.string m.path) ∧ W.cell? ⟨w.heap.size, 2, none⟩ = some (.string m.target) ∧ W.cell? ⟨w.heap.size, 3, none⟩ = some (.int .i64 m.mode) ∧ W.cell? ⟨w.heap.size, 4, none⟩ = some (.int .i64 m.time) ∧ W.cell? ⟨w.heap.size, 5, none⟩ = some (.string m.data) := fun W hW =>
  ⟨(hW.cell (by simp)).trans (cells_new w _ _ 0 _ rfl), (hW.cell (by simp)).trans (cells_new w _ _ 1 _ rfl), (hW.cell (by simp)).trans (cells_new w _ _ 2 _ rfl), (hW.cell (by simp)).trans (cells_new w _ _ 3 _ rfl), (hW.cell (by simp)).trans (cells_new w _ _ 4 _ rfl), (hW.cell (by simp)).trans (cells_new w _ _ 5 _ rfl)⟩
set_option maxHeartbeats 4000000 in
theorem checkEntry_unclean (m : En) (w : World) (hp : m.path.size ≤ 140737488355000) (ht : m.target.size ≤ 140737488355000) (hd : m.data.size ≤ 140737488355000) (hc : ¬ E.cln m.path.data.toList = some m.path.data.toList) : Calls Try.prog 24 #[.agg m.cells] w fun e w' => e = .returned (.int .i64 160) ∧ Below w.heap.size w w' := by
  have HB : ∀ o, Hid (Below w.heap.size w (w.alloc o)) := fun o => hide ((Below.refl _ w).alloc (Nat.le_refl _) _)
  have HX := hide (six_box w m)
  have HC := fun W => hide (isClean_no m.path W hp hc)
  have hdI : (m.data.size : Int) ≤ 140737488355000 := by omega
  obtain ⟨k, p, tg, md, tm, dt⟩ := m
  unfold En.cells at *
  simp only at *
  clear hp ht hd hc hdI
  go_enter Try.func24, Try.ntmps24
  go_wp2_with (first
    | (go_at_call 39; refine (HC _).out.mono ?_; rintro e w1 ⟨rfl, hw⟩; have B1 := hide ((HB _).out.trans (hw.mono (HB _).out.size)); obtain ⟨x0, x1, x2, x3, x4, x5⟩ := HX.out _ hw; have HW1 := hide hw; clear hw HC)
    | fail)
  all_goals go_ret
  all_goals exact ⟨rfl, B1.out⟩
set_option maxHeartbeats 4000000 in
theorem checkEntry_low (m : En) (w : World) (hp : m.path.size ≤ 140737488355000) (ht : m.target.size ≤ 140737488355000) (hd : m.data.size ≤ 140737488355000) (hc : E.cln m.path.data.toList = some m.path.data.toList) (hm : m.mode < 0) : Calls Try.prog 24 #[.agg m.cells] w fun e w' => e = .returned (.int .i64 160) ∧ Below w.heap.size w w' := by
  have HB : ∀ o, Hid (Below w.heap.size w (w.alloc o)) := fun o => hide ((Below.refl _ w).alloc (Nat.le_refl _) _)
  have HX := hide (six_box w m)
  have HC := fun W => hide (isClean_yes m.path W hp hc)
  have hdI : (m.data.size : Int) ≤ 140737488355000 := by omega
  obtain ⟨k, p, tg, md, tm, dt⟩ := m
  unfold En.cells at *
  simp only at *
  clear hp ht hd hc hdI
  go_enter Try.func24, Try.ntmps24
  go_wp2_with (first
    | (go_at_call 39; refine (HC _).out.mono ?_; rintro e w1 ⟨rfl, hw⟩; have B1 := hide ((HB _).out.trans (hw.mono (HB _).out.size)); obtain ⟨x0, x1, x2, x3, x4, x5⟩ := HX.out _ hw; have HW1 := hide hw; clear hw HC)
    | fail)
  all_goals go_ret
  all_goals exact ⟨rfl, B1.out⟩
set_option maxHeartbeats 4000000 in
theorem checkEntry_high (m : En) (w : World) (hp : m.path.size ≤ 140737488355000) (ht : m.target.size ≤ 140737488355000) (hd : m.data.size ≤ 140737488355000) (hc : E.cln m.path.data.toList = some m.path.data.toList) (hm0 : 0 ≤ m.mode) (hm : 4095 < m.mode) : Calls Try.prog 24 #[.agg m.cells] w fun e w' => e = .returned (.int .i64 160) ∧ Below w.heap.size w w' := by
  have HB : ∀ o, Hid (Below w.heap.size w (w.alloc o)) := fun o => hide ((Below.refl _ w).alloc (Nat.le_refl _) _)
  have HX := hide (six_box w m)
  have HC := fun W => hide (isClean_yes m.path W hp hc)
  have hdI : (m.data.size : Int) ≤ 140737488355000 := by omega
  obtain ⟨k, p, tg, md, tm, dt⟩ := m
  unfold En.cells at *
  simp only at *
  have g0 : ¬ md < 0 := by omega
  clear hp ht hd hc hm0 hdI
  go_enter Try.func24, Try.ntmps24
  go_wp2_with (first
    | (go_at_call 39; refine (HC _).out.mono ?_; rintro e w1 ⟨rfl, hw⟩; have B1 := hide ((HB _).out.trans (hw.mono (HB _).out.size)); obtain ⟨x0, x1, x2, x3, x4, x5⟩ := HX.out _ hw; have HW1 := hide hw; clear hw HC)
    | fail)
  all_goals go_ret
  all_goals exact ⟨rfl, B1.out⟩
set_option maxHeartbeats 4000000 in
theorem checkEntry_kind (m : En) (w : World) (hp : m.path.size ≤ 140737488355000) (ht : m.target.size ≤ 140737488355000) (hd : m.data.size ≤ 140737488355000) (hc : E.cln m.path.data.toList = some m.path.data.toList) (hm0 : 0 ≤ m.mode) (hm1 : m.mode ≤ 4095) (hk : ¬ Kd m) : Calls Try.prog 24 #[.agg m.cells] w fun e w' => e = .returned (.int .i64 160) ∧ Below w.heap.size w w' := by
  have HB : ∀ o, Hid (Below w.heap.size w (w.alloc o)) := fun o => hide ((Below.refl _ w).alloc (Nat.le_refl _) _)
  have HX := hide (six_box w m)
  have HC := fun W => hide (isClean_yes m.path W hp hc)
  have HK := fun W => hide (isOfKind_no m W ht hk)
  have hdI : (m.data.size : Int) ≤ 140737488355000 := by omega
  obtain ⟨k, p, tg, md, tm, dt⟩ := m
  unfold En.cells at *
  simp only at *
  have g0 : ¬ md < 0 := by omega
  have g1 : ¬ 4095 < md := by omega
  clear hp ht hd hc hm0 hm1 hk hdI
  go_enter Try.func24, Try.ntmps24
  go_wp2_with (first
    | (go_at_call 39; refine (HC _).out.mono ?_; rintro e w1 ⟨rfl, hw⟩; have B1 := hide ((HB _).out.trans (hw.mono (HB _).out.size)); obtain ⟨x0, x1, x2, x3, x4, x5⟩ := HX.out _ hw; have HW1 := hide hw; clear hw HC)
    | (go_at_call 40; refine (HK _).out.mono ?_; rintro e w2 ⟨rfl, hw⟩; have B2 := hide (B1.out.trans (hw.mono B1.out.size)); obtain ⟨y0, y1, y2, y3, y4, y5⟩ := HX.out _ (HW1.out.trans (hw.mono HW1.out.size)); clear hw HK))
  all_goals go_ret
  all_goals exact ⟨rfl, B2.out⟩
set_option maxHeartbeats 4000000 in
theorem checkEntry_over (m : En) (w : World) (hp : m.path.size ≤ 140737488355000) (ht : m.target.size ≤ 140737488355000) (hd : m.data.size ≤ 140737488355000) (hc : E.cln m.path.data.toList = some m.path.data.toList) (hm0 : 0 ≤ m.mode) (hm1 : m.mode ≤ 4095) (hk : Kd m) (ho : 1048576 < m.data.size) : Calls Try.prog 24 #[.agg m.cells] w fun e w' => e = .returned (.int .i64 162) ∧ Below w.heap.size w w' := by
  have HB : ∀ o, Hid (Below w.heap.size w (w.alloc o)) := fun o => hide ((Below.refl _ w).alloc (Nat.le_refl _) _)
  have HX := hide (six_box w m)
  have HC := fun W => hide (isClean_yes m.path W hp hc)
  have HK := fun W => hide (isOfKind_yes m W ht hk)
  have hdI : (m.data.size : Int) ≤ 140737488355000 := by omega
  obtain ⟨k, p, tg, md, tm, dt⟩ := m
  unfold En.cells at *
  simp only at *
  have g0 : ¬ md < 0 := by omega
  have g1 : ¬ 4095 < md := by omega
  have g2 : (1048576 : Int) < (dt.size : Int) := by omega
  clear hp ht hd hc hm0 hm1 hk ho
  go_enter Try.func24, Try.ntmps24
  go_wp2_with (first
    | (go_at_call 39; refine (HC _).out.mono ?_; rintro e w1 ⟨rfl, hw⟩; have B1 := hide ((HB _).out.trans (hw.mono (HB _).out.size)); obtain ⟨x0, x1, x2, x3, x4, x5⟩ := HX.out _ hw; have HW1 := hide hw; clear hw HC)
    | (go_at_call 40; refine (HK _).out.mono ?_; rintro e w2 ⟨rfl, hw⟩; have B2 := hide (B1.out.trans (hw.mono B1.out.size)); obtain ⟨y0, y1, y2, y3, y4, y5⟩ := HX.out _ (HW1.out.trans (hw.mono HW1.out.size)); clear hw HK))
  all_goals go_ret
  all_goals exact ⟨rfl, B2.out⟩
set_option maxHeartbeats 4000000 in
theorem checkEntry_ok (m : En) (w : World) (hp : m.path.size ≤ 140737488355000) (ht : m.target.size ≤ 140737488355000) (hd : m.data.size ≤ 140737488355000) (hc : E.cln m.path.data.toList = some m.path.data.toList) (hm0 : 0 ≤ m.mode) (hm1 : m.mode ≤ 4095) (hk : Kd m) (ho : m.data.size ≤ 1048576) : Calls Try.prog 24 #[.agg m.cells] w fun e w' => e = .returned (.int .i64 0) ∧ Below w.heap.size w w' := by
  have HB : ∀ o, Hid (Below w.heap.size w (w.alloc o)) := fun o => hide ((Below.refl _ w).alloc (Nat.le_refl _) _)
  have HX := hide (six_box w m)
  have HC := fun W => hide (isClean_yes m.path W hp hc)
  have HK := fun W => hide (isOfKind_yes m W ht hk)
  have hdI : (m.data.size : Int) ≤ 140737488355000 := by omega
  obtain ⟨k, p, tg, md, tm, dt⟩ := m
  unfold En.cells at *
  simp only at *
  have g0 : ¬ md < 0 := by omega
  have g1 : ¬ 4095 < md := by omega
  have g2 : ¬ (1048576 : Int) < (dt.size : Int) := by omega
  clear hp ht hd hc hm0 hm1 hk ho
  go_enter Try.func24, Try.ntmps24
  go_wp2_with (first
    | (go_at_call 39; refine (HC _).out.mono ?_; rintro e w1 ⟨rfl, hw⟩; have B1 := hide ((HB _).out.trans (hw.mono (HB _).out.size)); obtain ⟨x0, x1, x2, x3, x4, x5⟩ := HX.out _ hw; have HW1 := hide hw; clear hw HC)
    | (go_at_call 40; refine (HK _).out.mono ?_; rintro e w2 ⟨rfl, hw⟩; have B2 := hide (B1.out.trans (hw.mono B1.out.size)); obtain ⟨y0, y1, y2, y3, y4, y5⟩ := HX.out _ (HW1.out.trans (hw.mono HW1.out.size)); clear hw HK))
  all_goals go_ret
  all_goals exact ⟨rfl, B2.out⟩
theorem checkEntry_no (m : En) (w : World) (hp : m.path.size ≤ 140737488355000) (ht : m.target.size ≤ 140737488355000) (hd : m.data.size ≤ 140737488355000) (hr : ¬ Right m) : Calls Try.prog 24 #[.agg m.cells] w fun e w' => e = .returned (.int .i64 160) ∧ Below w.heap.size w w' := by
  rw [right_iff] at hr
  by_cases hc : E.cln m.path.data.toList = some m.path.data.toList
  · by_cases h1 : m.mode < 0
    · exact checkEntry_low m w hp ht hd hc h1
    · by_cases h2 : 4095 < m.mode
      · exact checkEntry_high m w hp ht hd hc (by omega) h2
      · exact checkEntry_kind m w hp ht hd hc (by omega) (by omega) (fun hk => hr ⟨hc, ⟨by omega, by omega⟩, hk⟩)
  · exact checkEntry_unclean m w hp ht hd hc
theorem checkEntry_more (m : En) (w : World) (hp : m.path.size ≤ 140737488355000) (ht : m.target.size ≤ 140737488355000) (hd : m.data.size ≤ 140737488355000) (hr : Right m) (ho : 1048576 < m.data.size) : Calls Try.prog 24 #[.agg m.cells] w fun e w' => e = .returned (.int .i64 162) ∧ Below w.heap.size w w' := by
  rw [right_iff] at hr
  exact checkEntry_over m w hp ht hd hr.1 hr.2.1.1 hr.2.1.2 hr.2.2 ho
theorem checkEntry_yes (m : En) (w : World) (hp : m.path.size ≤ 140737488355000) (ht : m.target.size ≤ 140737488355000) (hd : m.data.size ≤ 140737488355000) (hr : Right m) (ho : m.data.size ≤ 1048576) : Calls Try.prog 24 #[.agg m.cells] w fun e w' => e = .returned (.int .i64 0) ∧ Below w.heap.size w w' := by
  rw [right_iff] at hr
  exact checkEntry_ok m w hp ht hd hr.1 hr.2.1.1 hr.2.1.2 hr.2.2 ho
end Go.Proofs.Ytlfffpgokemjbaa.U
