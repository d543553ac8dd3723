/- The law on what is given staying as it was: walked. -/
import Derived.Test.YtgafejgmjenfaaaMAlive
import Derived.Deep.RegionHeld3
namespace Go.Proofs.Ytgafejgmjenfaaa.S
set_option maxRecDepth 100000
open Go Go.RowKit

theorem slice_l (W : World) (b o len cap m : Nat) (h1 : m ≤ len) (h2 : m < cap) : (Instr.sliceAt 22 (.slice (some ⟨b, o, none⟩) len cap) (some (.int .i64 (m : Int))) none none).run Try.prog W = .ok (.slice (some ⟨b, o + m, none⟩) (len - m) (cap - m)) W := by
  rw [run_sliceAt_slice _ _ _ _ _ _ (by kernel_rfl), run_slice_l W 22 (some ⟨b, o, none⟩) len cap (by kernel_rfl) .i64 (m : Int) (by omega) (by omega), elemB, size5]
  simp only [Result.andThen_ok, sliced, Int.toNat_natCast]
  rw [if_neg (by omega)]
  simp [addr_plain]
theorem TextAt.drop {w : World} {b o : Nat} {ys : List Nat} (h : TextAt w (some ⟨b, o, none⟩) ys) (n : Nat) : TextAt w (some ⟨b, o + n, none⟩) (ys.drop n) := by
  rcases h with h | ⟨b', o', e, hb, hs⟩
  · exact .inl (by rw [List.length_drop]; omega)
  · simp only [Option.some.injEq, Addr.mk.injEq, and_true] at e
    obtain ⟨rfl, rfl⟩ := e
    refine .inr ⟨b, o + n, rfl, hb, fun i hi => ?_⟩
    rw [List.length_drop] at hi
    have := hs (n + i) (by omega)
    rw [show o + n + i = o + (n + i) by omega, this]
    simp [List.getD]
def six : List Nat := [1, 2, 3, 4, 5, 6]
theorem six_text (w : World) : TextAt (w.alloc (.cells #[.int .u8 1, .int .u8 2, .int .u8 3, .int .u8 4, .int .u8 5, .int .u8 6] 5)) (some ⟨w.heap.size, 0, none⟩) six := lit_text (by kernel_rfl) (heap_new w _)

set_option maxHeartbeats 4000000 in
theorem macKeeps_walk (a b : Option Addr) (ca cb : Nat) (pw salt : List Nat) (w : World) (h0 : BIn w a ca pw) (h1 : BIn w b cb salt) :
    Calls Try.prog 7 #[.slice a pw.length ca, .slice b salt.length cb] w (Yes w) := by
  have H0 := hide h0
  have H1 := hide h1
  obtain ⟨N, hN⟩ : ∃ N, N = pw.length := ⟨_, rfl⟩
  obtain ⟨M, hM⟩ : ∃ M, M = salt.length := ⟨_, rfl⟩
  have HN := hide hN
  have HM := hide hM
  rw [← hN, ← hM]
  have HC0 := fun W (k : Below w.heap.size w W) => hide (conv_at (cap := ca) (h0.text.below k))
  have HC1 := fun W (k : Below w.heap.size w W) => hide (conv_at (cap := cb) (h1.text.below k))
  rw [← hN] at HC0
  rw [← hM] at HC1
  generalize strOfNums (pw.map fun (x : Nat) => (x : Int)) = S0 at HC0
  generalize strOfNums (salt.map fun (x : Nat) => (x : Int)) = S1 at HC1
  clear h0 h1 hN hM
  by_cases p0 : (3000 : Int) < (N : Int)
  · go_enter Try.func7, Try.ntmps7
    go_wp2_with (go_at_call 9; refine (alive_c _).mono ?_; rintro e w1 ⟨rfl, b1⟩)
    go_ret
    exact ⟨rfl, b1⟩
  · by_cases p1 : (3000 : Int) < (M : Int)
    · go_enter Try.func7, Try.ntmps7
      go_wp2_with (go_at_call 9; refine (alive_c _).mono ?_; rintro e w1 ⟨rfl, b1⟩)
      go_ret
      exact ⟨rfl, b1⟩
    · have BD := hide (show Below w.heap.size w w.drew from ⟨rfl, rfl, rfl, Nat.le_refl _, fun _ _ => rfl⟩)
      have KS := hide (And.intro (HC0 w.drew BD.out).out (HC1 w.drew BD.out).out)
      go_enter Try.func7, Try.ntmps7
      go_upto_region 3 with fail
      go_region_held3 (fun W => (convert 22 9 (.slice a N ca)).run Try.prog W = .ok (.string S0) W ∧ (convert 22 9 (.slice b M cb)).run Try.prog W = .ok (.string S1) W) (exact KS.out) (fail)
      obtain ⟨w0, hw0⟩ : ∃ w0, w0 = w.drew := ⟨_, rfl⟩
      rw [← hw0] at KS BD ⊢
      clear hw0 KS
      have hs0 := BD.out.size
      obtain ⟨Y, hY⟩ : ∃ Y, Y = salt ++ six := ⟨_, rfl⟩
      obtain ⟨YL, hYL⟩ : ∃ YL, YL = Y.length := ⟨_, rfl⟩
      have hyl : YL = M + 6 := by rw [hYL, hY, List.length_append, HM.out]; rfl
      have HY := hide hY.symm
      have HYL := hide hYL
      have HYT := hide (show Y.take M = salt by rw [hY, HM.out, List.take_append_of_le_length (Nat.le_refl _), List.take_length])
      have HYD := hide (show Y.drop M = six by rw [hY, HM.out, List.drop_left])
      have hyb : M < YL ∧ YL ≤ 3006 ∧ YL - M = 6 := by omega
      have HYB := hide hyb
      clear hY hYL hyl hyb
      have E0 := hide (OwnsB.empty w0 w.heap.size hs0)
      have BE := hide (BD.out.alloc hs0 (.cells #[] 5))
      have T0 := hide (H1.out.text.below BE.out)
      have HSN := hide H1.out.nil
      rw [← HM.out] at HSN
      go_upto_region 5 with (first
        | (refine wpList_appB _ rfl (.tmp 23) (.tmp 24) rfl w.heap.size (.slice (some ⟨w0.heap.size, 0, none⟩) 0 0) [] (by rfl) E0.out b M cb (by rfl) salt salt (by rfl) HM.out.symm T0.out HSN.out (by simp; omega) (by simp; omega) ?_; intro v25 w1 h1 k1; have O1 := hide h1; have B1 := hide (growB E0.out BE.out k1); clear h1 k1)
        | (refine wpList_appB _ rfl (.tmp 25) (.tmp 26) rfl w.heap.size v25 salt (by rfl) (World.ownsRow.alloc O1.out _) (some ⟨w1.heap.size, 0, none⟩) 6 6 (by rfl) six Y HY.out rfl (six_text w1) (fun e => by cases e) (by rw [← HM.out]; omega) (by have := B1.out.size; simp; omega) ?_; intro v7 w2 h2 k2; obtain ⟨a7, c7, rfl, hc7, hm7, hn7⟩ := h2.form; have O2 := hide h2; have B2 := hide (growB (World.ownsRow.alloc O1.out _) (B1.out.alloc B1.out.size _) k2); rw [← HYL.out] at O2 hc7 ⊢; clear h2 k2 hn7))
      obtain ⟨g, rfl⟩ : ∃ g, a7 = some ⟨g, 0, none⟩ := by
        rcases O2.out.bs with h | ⟨g, e, _⟩
        · rw [← HYL.out] at h; have := HYB.out; omega
        · exact ⟨g, e⟩
      have hY1 := HYB.out
      have hsh := fun W => slice_h .i64 W g 0 YL c7 M (by omega)
      have hsl : ∀ W, (Instr.sliceAt 22 (.slice (some ⟨g, 0, none⟩) YL c7) (some (.int .i64 (M : Int))) none none).run Try.prog W = .ok (.slice (some ⟨g, M, none⟩) 6 (c7 - M)) W := fun W => by
        have := slice_l W g 0 YL c7 M (by omega) (by omega)
        rw [hY1.2.2, Nat.zero_add] at this
        exact this
      have TS := hide (O2.out.text.take M)
      have TD := hide (O2.out.text.drop M)
      rw [HYT.out] at TS
      rw [HYD.out, Nat.zero_add] at TD
      have HK := hide (show Calls Try.prog 13 #[.slice a pw.length ca, .slice (some ⟨g, 0, none⟩) salt.length c7, .int .i64 2, .int .i64 30] w2 (KeyOk pw salt 1 30 w2) from
        key_c a (some ⟨g, 0, none⟩) ca c7 pw salt 1 30 w2 H0.out.by_ (H0.out.text.below B2.out) H0.out.cap_ H0.out.most (by rw [← HN.out]; omega) H1.out.by_ TS.out (fun e => by cases e) (by rw [← HM.out]; omega) (by omega) (by omega))
      have HSU := fun W (k : Below w.heap.size w W) => hide (msum_c a b ca cb pw salt W H0.out.by_ (H0.out.text.below k) H0.out.cap_ H0.out.most (by rw [← HN.out]; omega) H1.out.by_ (H1.out.text.below k) H1.out.cap_ H1.out.most (by rw [← HM.out]; omega))
      rw [← HN.out, ← HM.out] at HK HSU
      have HV := fun W (k : Below w2.heap.size w2 W) => hide (show (convert 22 9 (.slice (some ⟨g, M, none⟩) 6 (c7 - M))).run Try.prog W = .ok (.string ⟨#[1, 2, 3, 4, 5, 6]⟩) W from conv_at (TD.out.below k))
      have hm0 : (M : Int) ≤ (YL : Int) := by omega
      clear E0 BE T0 O1 B1 O2 hc7 hm7 HSN HYB hY1
      go_wp2_with (first
        | (go_at_call 13; refine HK.out.mono ?_; rintro e w3 ⟨k3, rfl, _, _, b3⟩; have B3 := hide (B2.out.trans (b3.mono B2.out.size)); have K3 := hide b3; clear b3)
        | (go_at_call 10; refine (HSU w3 B3.out).out.mono ?_; rintro e w4 ⟨rfl, b4⟩; have B4 := hide (B3.out.trans (b4.mono B3.out.size)); have K4 := hide (K3.out.trans (b4.mono K3.out.size)); clear b4)
        | (go_at_call 9; refine (alive_c _).mono ?_; rintro e w5 ⟨rfl, b5⟩; have B5 := hide (B4.out.trans (b5.mono B4.out.size)); have hv0 := (HC0 w5 B5.out).out; have hv1 := (HC1 w5 B5.out).out; have hv2 := (HV w5 (K4.out.trans (b5.mono K4.out.size))).out; clear b5))
      go_ret
      exact ⟨rfl, B5.out⟩
end Go.Proofs.Ytgafejgmjenfaaa.S
