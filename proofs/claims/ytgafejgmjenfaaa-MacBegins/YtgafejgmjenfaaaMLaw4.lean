/- The law on keys that begin longer ones: walked. -/
import Derived.Test.YtgafejgmjenfaaaMAlive
import Derived.Test.YtgafejgmjenfaaaHAsk
namespace Go.Proofs.Ytgafejgmjenfaaa.S
set_option maxRecDepth 100000
open Go Go.RowKit

theorem tsK_pre (pw salt : List Nat) (r : Nat) {n m : Nat} (h : n ≤ m) : (tsK pw salt r m).take (20 * n) = tsK pw salt r n := by
  induction m with
  | zero =>
    obtain rfl : n = 0 := by omega
    rfl
  | succ m ih =>
    by_cases e : n = m + 1
    · subst e
      rw [List.take_of_length_le (by rw [tsK_length]; omega)]
    · rw [tsK, List.take_append_of_le_length (by rw [tsK_length]; omega)]
      exact ih (by omega)
theorem keyK_take (pw salt : List Nat) (rounds L : Nat) : (keyK pw salt rounds (L + 100)).take L = keyK pw salt rounds L := by
  unfold keyK
  rw [List.take_take, Nat.min_eq_left (by omega), ← tsK_pre pw salt (rounds - 1) (n := (L + 19) / 20) (m := (L + 100 + 19) / 20) (by omega), List.take_take, Nat.min_eq_left (by omega)]

set_option maxHeartbeats 4000000 in
theorem macBegins_walk (a b : Option Addr) (ca cb : Nat) (pw salt : List Nat) (r l : Int) (w : World) (h0 : BIn w a ca pw) (h1 : BIn w b cb salt) (hl0 : pw.length ≤ 140737488351232) (hl1 : salt.length ≤ 140737488351232) :
    Calls Try.prog 6 #[.slice a pw.length ca, .slice b salt.length cb, .agg #[.int .i64 r, .int .i64 l]] w (Yes w) := by
  have BA := hide ((Below.refl _ w).alloc (Nat.le_refl _) (.cells #[.int .i64 r, .int .i64 l] 28) : Below w.heap.size w _)
  have R0 := hide (heap_new w (.cells #[.int .i64 r, .int .i64 l] 28))
  have c0 := cells_of R0.out 0
  have c1 := cells_of R0.out 1
  simp only [List.getElem?_toArray, List.getElem?_cons_zero, List.getElem?_cons_succ] at c0 c1
  have H0 := hide h0
  have H1 := hide h1
  have HL1 := hide hl1
  have HL0 := hide hl0
  obtain ⟨N, hN⟩ : ∃ N, N = pw.length := ⟨_, rfl⟩
  obtain ⟨M, hM⟩ : ∃ M, M = salt.length := ⟨_, rfl⟩
  have HN := hide hN
  have HM := hide hM
  rw [← hN, ← hM]
  clear h0 h1 hl0 hl1 hN hM
  by_cases p0 : r < 1
  · go_enter Try.func6, Try.ntmps6
    go_wp2_with (go_at_call 9; refine (alive_c _).mono ?_; rintro e w1 ⟨rfl, b1⟩)
    go_ret
    exact ⟨rfl, BA.out.trans (b1.mono BA.out.size)⟩
  · by_cases p1 : 60 < r
    · go_enter Try.func6, Try.ntmps6
      go_wp2_with (go_at_call 9; refine (alive_c _).mono ?_; rintro e w1 ⟨rfl, b1⟩)
      go_ret
      exact ⟨rfl, BA.out.trans (b1.mono BA.out.size)⟩
    · by_cases p2 : l < 0
      · go_enter Try.func6, Try.ntmps6
        go_wp2_with (go_at_call 9; refine (alive_c _).mono ?_; rintro e w1 ⟨rfl, b1⟩)
        go_ret
        exact ⟨rfl, BA.out.trans (b1.mono BA.out.size)⟩
      · by_cases p3 : 900 < l
        · go_enter Try.func6, Try.ntmps6
          go_wp2_with (go_at_call 9; refine (alive_c _).mono ?_; rintro e w1 ⟨rfl, b1⟩)
          go_ret
          exact ⟨rfl, BA.out.trans (b1.mono BA.out.size)⟩
        · by_cases p4 : (3000 : Int) < (N : Int)
          · go_enter Try.func6, Try.ntmps6
            go_wp2_with (go_at_call 9; refine (alive_c _).mono ?_; rintro e w1 ⟨rfl, b1⟩)
            go_ret
            exact ⟨rfl, BA.out.trans (b1.mono BA.out.size)⟩
          · by_cases p5 : (3000 : Int) < (M : Int)
            · go_enter Try.func6, Try.ntmps6
              go_wp2_with (go_at_call 9; refine (alive_c _).mono ?_; rintro e w1 ⟨rfl, b1⟩)
              go_ret
              exact ⟨rfl, BA.out.trans (b1.mono BA.out.size)⟩
            · obtain ⟨R, hR⟩ : ∃ R : Nat, r = (R : Int) + 1 := ⟨(r - 1).toNat, by omega⟩
              obtain ⟨L, hL⟩ : ∃ L : Nat, l = (L : Int) := ⟨l.toNat, by omega⟩
              subst hR hL
              have hLl : L ≤ 900 := by omega
              have HK := hide (key_c a b ca cb pw salt R L _ H0.out.by_ (H0.out.text.below BA.out) H0.out.cap_ H0.out.most (by have := HL0.out; omega) H1.out.by_ (H1.out.text.below BA.out) H1.out.nil HL1.out (by omega) (by omega))
              have HK2 := fun W (k : Below w.heap.size w W) => hide (show Calls Try.prog 13 #[.slice a pw.length ca, .slice b salt.length cb, .int .i64 ((R : Int) + 1), .int .i64 ((L : Int) + 100)] W (KeyOk pw salt R (L + 100) W) from by
                have := key_c a b ca cb pw salt R (L + 100) W H0.out.by_ (H0.out.text.below k) H0.out.cap_ H0.out.most (by have := HL0.out; omega) H1.out.by_ (H1.out.text.below k) H1.out.nil HL1.out (by omega) (by omega)
                push_cast at this
                exact this)
              rw [← HN.out, ← HM.out] at HK HK2
              go_enter Try.func6, Try.ntmps6
              go_upto_region 4 with (go_at_call 13; refine HK.out.mono ?_; rintro e w1 ⟨k1, rfl, t1, _, b1⟩; have T1 := hide t1; have B1 := hide (BA.out.trans (b1.mono BA.out.size)); have d0 := (b1.cell (p := ⟨w.heap.size, 0, none⟩) (by simp)).trans c0; have d1 := (b1.cell (p := ⟨w.heap.size, 1, none⟩) (by simp)).trans c1; have Q1 := hide ((b1.block _ (by simp)).trans R0.out); clear b1 t1)
              have HQ := hide (HK2 w1 B1.out).out
              clear HK HK2 c0 c1
              go_upto_region 5 with (go_at_call 13; refine HQ.out.mono ?_; rintro e w2 ⟨k2, rfl, t2, _, b2⟩; have T2 := hide t2; have T1' := hide (T1.out.below b2); have B2 := hide (B1.out.trans (b2.mono B1.out.size)); have Q2 := hide ((b2.block _ (lt_of_block' Q1.out)).trans Q1.out); clear b2 t2)
              obtain ⟨kb, ko, rfl⟩ : ∃ kb ko, k2 = some ⟨kb, ko, none⟩ := by
                rcases T2.out with h0 | ⟨kb, ko, e, _⟩
                · rw [keyK_length] at h0; omega
                · exact ⟨kb, ko, e⟩
              have T3 := hide (T2.out.take L)
              rw [keyK_take pw salt (R + 1) L] at T3
              have HV1 := fun W (k : Below w2.heap.size w2 W) => hide (conv_at (cap := L) (T1'.out.below k))
              have HV2 := fun W (k : Below w2.heap.size w2 W) => hide (conv_at (cap := L + 100) (T3.out.below k))
              rw [keyK_length] at HV1 HV2
              have hsh := fun W => slice_h .i64 W kb ko (L + 100) (L + 100) L (by omega)
              generalize strOfNums ((keyK pw salt (R + 1) L).map fun (x : Nat) => (x : Int)) = S at HV1 HV2
              clear HQ T1 T1' T2 T3 d0 d1
              have l0 : (0 : Int) ≤ (L : Int) := by omega
              have hwr : IntKind.i64.wrap ((L : Int) + 100) = (L : Int) + 100 := by rw [IntKind.wrap_i64]; omega
              have HCD := fun W (k : Below w2.heap.size w2 W) => hide (show W.cell? ⟨w.heap.size, 1, none⟩ = some (.int .i64 (L : Int)) from cells_of ((k.block _ (lt_of_block' Q2.out)).trans Q2.out) 1)
              have HKS := fun W (k : Below w2.heap.size w2 W) => hide (And.intro (HCD W k).out (And.intro (HV1 W k).out (HV2 W k).out))
              have KS := hide (HKS w2.drew ⟨rfl, rfl, rfl, Nat.le_refl _, fun _ _ => rfl⟩).out
              clear HCD HV1 HV2
              go_region_held3 (fun W => W.cell? ⟨w.heap.size, 1, none⟩ = some (.int .i64 (L : Int)) ∧ (convert 22 9 (.slice k1 L L)).run Try.prog W = .ok (.string S) W ∧ (convert 22 9 (.slice (some ⟨kb, ko, none⟩) L (L + 100))).run Try.prog W = .ok (.string S) W) (first | exact KS.out | exact KS3.out) ((go_at_call 9; refine (alive_c _).mono ?_; rintro e w3 ⟨rfl, b3⟩; have b3' := (⟨b3.os, b3.tape, b3.output, b3.size, b3.block⟩ : Below w2.heap.size w2 w3); have B3 := hide (B2.out.trans (b3'.mono B2.out.size)); have KS3 := hide (HKS w3 b3').out; clear b3 b3' HKS))
              all_goals go_wp2_with fail
              all_goals go_ret
              all_goals exact ⟨rfl, B3.out⟩
end Go.Proofs.Ytgafejgmjenfaaa.S
