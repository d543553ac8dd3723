/- few, alive: contracts. -/
import Derived.Test.YtlfffpgokemjbaaVChk
import Derived.Test.YtlfffpgokemjbaaVCan
import Derived.Test.YtlfffpgokemjbaaVPrj
import Derived.Test.YtlfffpgokemjbaaVSiz
namespace Go.Proofs.Ytlfffpgokemjbaa.U
set_option maxRecDepth 100000
open Go Go.RowKit
set_option linter.unusedVariables false
def fewB (n : Nat) : Bool := decide (n ≤ 100) || (decide (1000 < n) && decide (n < 1010))
theorem few_c (a : Option Addr) (n cap : Nat) (w : World) : Calls Try.prog 9 #[.slice a n cap] w fun e w' => e = .returned (.bool (fewB n)) ∧ w' = w := by
  unfold fewB
  by_cases h1 : n ≤ 100
  · have d1 : decide (n ≤ 100) = true := decide_eq_true h1
    have hI : (n : Int) ≤ 100 := by omega
    rw [d1, Bool.true_or]
    go_enter Try.func9, Try.ntmps9
    go_wp2_with fail
    go_ret
    exact ⟨rfl, rfl⟩
  · have d1 : decide (n ≤ 100) = false := decide_eq_false h1
    have hI : ¬ (n : Int) ≤ 100 := by omega
    rw [d1, Bool.false_or]
    by_cases h2 : 1000 < n
    · have hJ : (1000 : Int) < (n : Int) := by omega
      rw [decide_eq_true h2, Bool.true_and]
      by_cases h3 : n < 1010
      · have hK : (n : Int) < 1010 := by omega
        rw [decide_eq_true h3]
        go_enter Try.func9, Try.ntmps9
        go_wp2_with fail
        go_ret
        exact ⟨rfl, rfl⟩
      · have hK : ¬ (n : Int) < 1010 := by omega
        rw [decide_eq_false h3]
        go_enter Try.func9, Try.ntmps9
        go_wp2_with fail
        go_ret
        exact ⟨rfl, rfl⟩
    · have hJ : ¬ (1000 : Int) < (n : Int) := by omega
      rw [decide_eq_false h2, Bool.false_and]
      go_enter Try.func9, Try.ntmps9
      go_wp2_with fail
      go_ret
      exact ⟨rfl, rfl⟩
def M1 : En := ⟨2, ⟨#[97]⟩, .empty, 0, 0, .empty⟩
def M2 : En := ⟨1, ⟨#[97, 47, 98]⟩, .empty, 0, 199, ⟨#[120]⟩⟩
theorem fnd_M : fnd ⟨#[97, 47, 98]⟩ [M1, M2] = some M2 := by kernel_rfl
theorem szw_M : szw [M1, M2] = 1 := by kernel_rfl
theorem cln_M1 : E.cln [97] = some [97] := by kernel_rfl
theorem cln_M2 : E.cln [97, 47, 98] = some [97, 47, 98] := by kernel_rfl
theorem prs_M1 : E.prs [97] 1 = [] := by kernel_rfl
theorem prs_M2 : E.prs [97, 47, 98] 3 = [[97]] := by kernel_rfl
theorem right_M1 : Right M1 := ⟨cln_M1, ⟨by decide, by decide⟩, .inr (.inl ⟨rfl, by kernel_rfl, by kernel_rfl⟩)⟩
theorem right_M2 : Right M2 := ⟨cln_M2, ⟨by decide, by decide⟩, .inl ⟨rfl, by kernel_rfl⟩⟩
theorem chk_M : Chk [M1, M2] 0 := by
  refine .inr ⟨by decide, .inl ⟨rfl, fun i m hm => ?_⟩⟩
  rcases i with _ | _ | i
  · obtain rfl : M1 = m := by simpa using hm
    exact ⟨right_M1, by decide, fun g => by obtain ⟨_, g, _⟩ := g; omega, fun g => by obtain ⟨_, g, _⟩ := g; omega, fun g => by obtain ⟨_, _, g, _⟩ := g; omega⟩
  · obtain rfl : M2 = m := by simpa using hm
    refine ⟨right_M2, by decide, fun g => ?_, fun g => ?_, fun g => ?_⟩
    · obtain ⟨p, _, hp, e⟩ := g
      obtain rfl : M1 = p := by simpa using hp
      exact absurd e (show ¬ M1.path.toList = M2.path.toList by rw [ByteArray.toList_eq, ByteArray.toList_eq]; decide)
    · obtain ⟨p, _, hp, e⟩ := g
      obtain rfl : M1 = p := by simpa using hp
      rw [show gtB M1.path M2.path = false by kernel_rfl] at e
      cases e
    · obtain ⟨k, p, hk, hp, hin, hne⟩ := g
      obtain rfl : k = 0 := by omega
      obtain rfl : M1 = p := by simpa using hp
      exact hne rfl
  · simp at hm
theorem chk_E0 : Chk [E0] 160 := by
  refine .inr ⟨by decide, .inr ⟨0, E0, rfl, fun j p h => by omega, .inl ⟨fun h => ?_, rfl⟩⟩⟩
  have := h.1
  rw [show E.cln E0.path.data.toList = none by kernel_rfl] at this
  cases this
theorem can_M : Can 0 1 [M1, M2] := by
  refine ⟨rfl, by decide, by decide, fun m hm => canE_zip.2 ?_⟩
  simp at hm
  rcases hm with rfl | rfl <;> kernel_rfl
theorem check_v (a : Option Addr) (cap : Nat) (es : List En) (c : Int) (w : World) (h : EntsIn w a es) (hcap : es.length ≤ cap) (hS : ∀ m ∈ es, m.path.size ≤ 140737488355000 ∧ m.target.size ≤ 140737488355000 ∧ m.data.size ≤ 140737488355000) (hc : Chk es c) : Calls Try.prog 11 #[.slice a es.length cap] w fun e w' => e = .returned (.int .i64 c) ∧ Below w.heap.size w w' :=
  (check_c a cap es w h hcap hS).mono fun e w' ⟨d, he, hd, hw⟩ => by rw [hd.one hc] at he; exact ⟨he, hw⟩
theorem can_v (a : Option Addr) (cap : Nat) (c f : Int) (es : List En) (b : Bool) (w : World) (h : EntsIn w a es) (hl : es.length ≤ 1000000000) (hT : ∀ m ∈ es, -9223372036854775808 ≤ m.time ∧ m.time ≤ 9223372036854775807)
    (hc : Calls Try.prog 11 #[.slice a es.length cap] w fun e w' => e = .returned (.int .i64 c) ∧ Below w.heap.size w w') (hb : b = true ↔ Can c f es) : Calls Try.prog 20 #[.slice a es.length cap, .int .i64 f] w fun e w' => e = .returned (.bool b) ∧ Below w.heap.size w w' :=
  (can_c a cap c f es w h hl hT hc).mono fun e w' ⟨d, he, hd, hw⟩ => by
    have e2 : d = b := Bool.eq_iff_iff.2 (hd.trans hb.symm)
    rw [e2] at he; exact ⟨he, hw⟩
theorem M_sizes : ∀ m ∈ [M1, M2], m.path.size ≤ 140737488355000 ∧ m.target.size ≤ 140737488355000 ∧ m.data.size ≤ 140737488355000 := by
  intro m hm
  simp at hm
  rcases hm with rfl | rfl <;> decide
theorem M_times : ∀ m ∈ [M1, M2], -9223372036854775808 ≤ m.time ∧ m.time ≤ 9223372036854775807 := by
  intro m hm
  simp at hm
  rcases hm with rfl | rfl <;> decide
set_option maxHeartbeats 4000000 in
theorem alive_c (w : World) : Calls Try.prog 10 #[] w fun e w' => e = .returned (.bool true) ∧ Below w.heap.size w w' := by
  obtain ⟨W1, hW1⟩ : ∃ W1, W1 = w.alloc (.cells (enL [M1, M2]).toArray 30) := ⟨_, rfl⟩
  have e1 : w.alloc (.cells #[.int .i64 2, .string ⟨#[97]⟩, .string ⟨#[]⟩, .int .i64 0, .int .i64 0, .string ⟨#[]⟩, .int .i64 1, .string ⟨#[97, 47, 98]⟩, .string ⟨#[]⟩, .int .i64 0, .int .i64 199, .string ⟨#[120]⟩] 30) = W1 := hW1.symm
  have E1 : Hid _ := e1
  have B1 : Hid (Below w.heap.size w W1) := hide (by rw [hW1]; exact (Below.refl _ w).alloc (Nat.le_refl _) _)
  have HI : Hid (EntsIn W1 (some ⟨w.heap.size, 0, none⟩) [M1, M2]) := hide (Er.in_ (by rw [hW1]; exact heap_new w _))
  have HF : Hid (Calls Try.prog 16 #[.slice (some ⟨w.heap.size, 0, none⟩) 2 2, .string ⟨#[97, 47, 98]⟩] W1 fun e w' => e = .returned (.tuple #[.agg #[.int .i64 1, .string ⟨#[97, 47, 98]⟩, .string ⟨#[]⟩, .int .i64 0, .int .i64 199, .string ⟨#[120]⟩], .bool true]) ∧ Below W1.heap.size W1 w') := hide ((find_c _ 2 [M1, M2] ⟨#[97, 47, 98]⟩ W1 HI.out (by decide)).mono fun e w' h => by
    unfold FnOk at h
    rw [fnd_M] at h
    exact h)
  have HC : Hid (∀ W, Below W1.heap.size W1 W → Calls Try.prog 11 #[.slice (some ⟨w.heap.size, 0, none⟩) 2 2] W fun e w' => e = .returned (.int .i64 0) ∧ Below W.heap.size W w') := hide fun W hW => check_v _ 2 [M1, M2] 0 W (HI.out.stay hW) (by decide) M_sizes chk_M
  have HC2 : Hid (∀ W : World, Calls Try.prog 11 #[.slice (some ⟨W.heap.size, 0, none⟩) 1 1] (W.alloc (.cells #[.int .i64 0, .string ⟨#[]⟩, .string ⟨#[]⟩, .int .i64 0, .int .i64 0, .string ⟨#[]⟩] 30)) fun e w' => e = .returned (.int .i64 160) ∧ Below (W.heap.size + 1) (W.alloc (.cells #[.int .i64 0, .string ⟨#[]⟩, .string ⟨#[]⟩, .int .i64 0, .int .i64 0, .string ⟨#[]⟩] 30)) w') := hide fun W => by
    have := check_v (some ⟨W.heap.size, 0, none⟩) 1 [E0] 160 (W.alloc (.cells (enL [E0]).toArray 30)) (Er.in_ (show Er _ _ _ from heap_new W _)) (by decide) (by intro m hm; simp at hm; subst hm; decide) chk_E0
    rw [show (W.alloc (.cells (enL [E0]).toArray 30)).heap.size = W.heap.size + 1 by simp] at this
    exact this
  have HS : Hid (∀ W, Below W1.heap.size W1 W → Calls Try.prog 17 #[.slice (some ⟨w.heap.size, 0, none⟩) 2 2] W fun e w' => e = .returned (.int .i64 1) ∧ Below W.heap.size W w') := hide fun W hW => by
    have := size_c (some ⟨w.heap.size, 0, none⟩) 2 [M1, M2] W (HI.out.stay hW) (by decide)
    rw [szw_M] at this
    exact this
  have HN : Hid (∀ W, Below W1.heap.size W1 W → Calls Try.prog 20 #[.slice (some ⟨w.heap.size, 0, none⟩) 2 2, .int .i64 1] W fun e w' => e = .returned (.bool true) ∧ Below W.heap.size W w') := hide fun W hW => can_v _ 2 0 1 [M1, M2] true W (HI.out.stay hW) (by decide) M_times (HC.out W hW) ⟨fun _ => can_M, fun _ => rfl⟩
  have HP : Hid (∀ W, Below W1.heap.size W1 W → Calls Try.prog 22 #[.slice (some ⟨w.heap.size, 0, none⟩) 2 2, .int .i64 1] W fun e w' => ∃ g, e = .returned (.slice (some ⟨g, 0, none⟩) 2 2) ∧ w'.cell? ⟨g, 10, none⟩ = some (.int .i64 100) ∧ Below W.heap.size W w') := hide fun W hW => (project_c _ 2 1 [M1, M2] W (HI.out.stay hW) (by decide) M_times).mono fun e w' ⟨g, hg, he, hr, hw⟩ => ⟨g, he, hr.cell (i := 1) (m := keep1 1 M2) rfl (j := 4) rfl, hw⟩
  clear hW1 e1
  go_enter Try.func10, Try.ntmps10
  go_upto_region 2 with fail
  rw [E1.out]
  go_upto_region 3 with (go_at_call 16; refine HF.out.mono ?_; rintro e w2 ⟨rfl, hw⟩; have B2 := hide hw; clear hw HF)
  have D5 : Hid (∀ V, Below (w2.alloc (.cells #[.int .i64 1, .string ⟨#[97, 47, 98]⟩, .string ⟨#[]⟩, .int .i64 0, .int .i64 199, .string ⟨#[120]⟩] 30)).heap.size (w2.alloc (.cells #[.int .i64 1, .string ⟨#[97, 47, 98]⟩, .string ⟨#[]⟩, .int .i64 0, .int .i64 199, .string ⟨#[120]⟩] 30)) V → V.cell? ⟨w2.heap.size, 5, none⟩ = some (.string ⟨#[120]⟩)) := hide fun V hV => (six_box w2 M2 V hV).2.2.2.2.2
  have B3 := hide (B2.out.alloc B2.out.size (.cells #[.int .i64 1, .string ⟨#[97, 47, 98]⟩, .string ⟨#[]⟩, .int .i64 0, .int .i64 199, .string ⟨#[120]⟩] 30))
  generalize w2.alloc (.cells #[.int .i64 1, .string ⟨#[97, 47, 98]⟩, .string ⟨#[]⟩, .int .i64 0, .int .i64 199, .string ⟨#[120]⟩] 30) = W3 at *
  have BB : Hid (∀ (V : World) o, Below W3.heap.size W3 V → Below W3.heap.size W3 (V.alloc o)) := hide fun V o h => h.alloc h.size _
  go_wp2_with (first
    | (go_at_call 11; refine (HC.out _ B3.out).mono ?_; rintro e w3 ⟨rfl, hw⟩; have B4 := hide hw; clear hw HC)
    | (go_at_call 11; refine (HC2.out _).mono ?_; rintro e w4 ⟨rfl, hw⟩; have B5 := hide ((BB.out _ _ B4.out).trans (hw.mono (by have := B4.out.size; omega))); have x5 := D5.out _ B5.out; clear hw HC2)
    | (go_at_call 17; refine (HS.out _ (B3.out.trans (B5.out.mono B3.out.size))).mono ?_; rintro e w5 ⟨rfl, hw⟩; have B6 := hide (B5.out.trans (hw.mono B5.out.size)); clear hw HS)
    | (go_at_call 20; refine (HN.out _ (B3.out.trans (B6.out.mono B3.out.size))).mono ?_; rintro e w6 ⟨rfl, hw⟩; have B7 := hide (B6.out.trans (hw.mono B6.out.size)); clear hw HN)
    | (go_at_call 22; refine (HP.out _ (B3.out.trans (B7.out.mono B3.out.size))).mono ?_; rintro e w7 ⟨g7, rfl, hc7, hw⟩; have B8 := hide (B7.out.trans (hw.mono B7.out.size)); clear hw hc7 B7)
    | (go_at_call 22; refine (HP.out _ (B3.out.trans (B8.out.mono B3.out.size))).mono ?_; rintro e w8 ⟨g8, rfl, hc8, hw⟩; have B9 := hide (B8.out.trans (hw.mono B8.out.size)); clear hw))
  go_ret
  exact ⟨rfl, B1.out.trans ((B3.out.trans (B9.out.mono B3.out.size)).mono B1.out.size)⟩
end Go.Proofs.Ytlfffpgokemjbaa.U
