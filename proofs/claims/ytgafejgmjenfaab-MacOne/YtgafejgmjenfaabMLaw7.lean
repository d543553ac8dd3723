/- The law on keys of one round: walked. -/
import Derived.Test.YtgafejgmjenfaabMAlive
import Derived.Deep.RegionHeld3
namespace Go.Proofs.Ytgafejgmjenfaab.S
set_option maxRecDepth 100000
open Go Go.RowKit

theorem slice20_h (K : IntKind) (W : World) (b l : Nat) (hl : l ≤ 20) :
    (Instr.sliceAt 26 (.pointer (some ⟨b, 0, none⟩)) none (some (.int K (l : Int))) none).run Try.prog W = .ok (.slice (some ⟨b, 0, none⟩) l 20) W := by
  rw [run_sliceAt_array_h W 26 ⟨b, 0, none⟩ (by kernel_rfl) K (l : Int) (by omega) (by rw [all20]; omega), all20, elem20, size5]
  simp only [Result.andThen_ok, slicedAt, Int.toNat_natCast, Nat.mul_one]
  rw [if_neg (by omega), addr_plain]
  rfl
theorem keyK_one (pw salt : List Nat) {L : Nat} (h : L ≤ 20) : (outL (hmac pw (salt ++ be4 1))).take L = keyK pw salt 1 L := by
  unfold keyK
  by_cases h0 : L = 0
  · subst h0; rfl
  · rw [show (L + 19) / 20 = 1 by omega]
    rfl
theorem one_text (w : World) : TextAt (w.alloc (.cells #[.int .u8 0, .int .u8 0, .int .u8 0, .int .u8 1] 5)) (some ⟨w.heap.size, 0, none⟩) (be4 1) := lit_text (by kernel_rfl) (heap_new w _)

set_option maxHeartbeats 4000000 in
theorem macOne_walk (a b : Option Addr) (ca cb : Nat) (pw salt : List Nat) (x : Int) (w : World) (h0 : BIn w a ca pw) (h1 : BIn w b cb salt) (hl0 : pw.length ≤ 140737488351232) (hl1 : salt.length ≤ 140737488351232) :
    Calls Try.prog 3 #[.slice a pw.length ca, .slice b salt.length cb, .int .i64 x] w (Yes w) := by
  have H0 := hide h0
  have H1 := hide h1
  have HL0 := hide hl0
  have HL1 := hide hl1
  obtain ⟨N, hN⟩ : ∃ N, N = pw.length := ⟨_, rfl⟩
  obtain ⟨M, hM⟩ : ∃ M, M = salt.length := ⟨_, rfl⟩
  have HN := hide hN
  have HM := hide hM
  have hM1 : M ≤ 140737488351232 := by rw [hM]; exact hl1
  rw [← hN, ← hM]
  clear h0 h1 hl0 hl1 hN hM
  by_cases p0 : x < 0
  · go_enter Try.func3, Try.ntmps3
    go_wp2_with (go_at_call 4; refine (alive_c _).mono ?_; rintro e w1 ⟨rfl, b1⟩)
    go_ret
    exact ⟨rfl, b1⟩
  by_cases p1 : 20 < x
  · go_enter Try.func3, Try.ntmps3
    go_wp2_with (go_at_call 4; refine (alive_c _).mono ?_; rintro e w1 ⟨rfl, b1⟩)
    go_ret
    exact ⟨rfl, b1⟩
  obtain ⟨L, rfl⟩ : ∃ L : Nat, x = (L : Int) := ⟨x.toNat, by omega⟩
  have hL : L ≤ 20 := by omega
  have HK := hide (show Calls Try.prog 5 #[.slice a pw.length ca, .slice b salt.length cb, .int .i64 1, .int .i64 (L : Int)] w (KeyOk pw salt 0 L w) from
    key_c a b ca cb pw salt 0 L w H0.out.by_ H0.out.text H0.out.cap_ H0.out.most (by have := HL0.out; omega) H1.out.by_ H1.out.text H1.out.nil HL1.out (by omega) (by omega))
  obtain ⟨Y, hY⟩ : ∃ Y, Y = salt ++ be4 1 := ⟨_, rfl⟩
  have hYl : Y.length ≤ 140737488351236 := by
    have : Y.length = M + 4 := by rw [hY, List.length_append, HM.out]; rfl
    omega
  have HY := hide hY.symm
  have HYB : Hid (By Y) := by rw [hY]; exact H1.out.by_.append (be4_by 1)
  have HKO := hide (show (outL (hmac pw Y)).take L = keyK pw salt 1 L by rw [hY]; exact keyK_one pw salt hL)
  have HSU := fun W (k : Below w.heap.size w W) v (o : OwnsB W w.heap.size v Y) => hide (show Calls Try.prog 6 #[.slice a pw.length ca, v] W (fun e w' => e = .returned (.agg (oA (hmac pw Y) 20)) ∧ Below W.heap.size W w') from by
    obtain ⟨a', c', rfl, hc', hm', _⟩ := o.form
    exact msum_c a a' ca c' pw Y W H0.out.by_ (H0.out.text.below k) H0.out.cap_ H0.out.most (by have := HL0.out; omega) HYB.out o.text hc' (by unfold maxLen at hm'; omega) (by omega))
  have hz : ∀ w, (zeroValue 26).run Try.prog w = .ok (.agg (oA st0 0)) w := (zero20 _).1
  have H20 := fun s => hide (info20 (oB s) 20)
  rw [← HN.out] at HK HSU
  rw [← HM.out] at HK
  have HSN := hide H1.out.nil
  rw [← HM.out] at HSN
  clear hY
  go_enter Try.func3, Try.ntmps3
  go_upto_region 4 with (go_at_call 5; refine HK.out.mono ?_; rintro e w1 ⟨k1, rfl, t1, _, b1⟩; have T1 := hide t1; have B1 := hide b1; clear b1 t1)
  have hs1 := B1.out.size
  have E0 := hide (OwnsB.empty w1 w1.heap.size (Nat.le_refl _))
  have BE := hide ((Below.refl _ w1).alloc (Nat.le_refl _) (.cells #[] 5) : Below w1.heap.size w1 _)
  have T0 := hide ((H1.out.text.below B1.out).below BE.out)
  clear HK
  go_upto_region 5 with (first
    | (refine wpList_appB _ rfl (.tmp 25) (.tmp 26) rfl w1.heap.size (.slice (some ⟨w1.heap.size, 0, none⟩) 0 0) [] (by rfl) E0.out b M cb (by rfl) salt salt (by rfl) HM.out.symm T0.out HSN.out (by simp; omega) (by simp) ?_; intro v2 w2 h2 k2; have O2 := hide h2; have B2 := hide (growB E0.out BE.out k2); clear h2 k2)
    | (refine wpList_appB _ rfl (.tmp 27) (.tmp 28) rfl w1.heap.size v2 salt (by rfl) (World.ownsRow.alloc O2.out _) (some ⟨w2.heap.size, 0, none⟩) 4 4 (by rfl) (be4 1) Y HY.out rfl (one_text w2) (fun e => by cases e) (by rw [← HM.out]; omega) (by have := B2.out.size; simp; omega) ?_; intro v3 w3 h3 k3; have B3 := hide (growB (World.ownsRow.alloc O2.out _) (B2.out.alloc B2.out.size _) k3); have HC := hide (HSU w3 (B1.out.trans (B3.out.mono B1.out.size)) v3 (h3.low hs1)).out; clear h3 k3)
    | (go_at_call 6; refine HC.out.mono ?_; rintro e w4 ⟨rfl, b4⟩; have B4 := hide (B3.out.trans (b4.mono B3.out.size)); clear b4)
    | (refine wpList_store_row rfl 26 (.tmp 9) (.tmp 30) rfl w4.heap.size (oA (hmac pw Y) 20) (by rfl) (by rfl) (oA st0 0) 26 (heap_new _ _) (H20 _).out (by rw [oA, oA, fA_size, fA_size]) (fA_one _ _ _ _) ?_; intro w5 G5 K5))
  have hs4 := B4.out.size
  have B5 := hide ((B4.out.alloc hs4 (.cells (oA st0 0) 26)).trans (K5.out.below (by simp; omega) (fun i hi e => by omega)))
  have T5 := hide ((text20 G5.out).take L)
  rw [HKO.out] at T5
  have hsl := fun W => slice20_h .i64 W w4.heap.size L hL
  have T1' := hide (T1.out.below B5.out)
  have HV1 := fun W (k : Below w5.heap.size w5 W) => hide (conv_at (cap := L) (T1'.out.below k))
  have HV2 := fun W (k : Below w5.heap.size w5 W) => hide (conv_at (cap := 20) (T5.out.below k))
  rw [show (0 : Nat) + 1 = 1 from rfl, keyK_length] at HV1
  rw [keyK_length] at HV2
  generalize strOfNums ((keyK pw salt 1 L).map fun (x : Nat) => (x : Int)) = S at HV1 HV2
  obtain ⟨d, hd⟩ : ∃ d, d = w4.heap.size := ⟨_, rfl⟩
  rw [← hd] at hsl HV2 ⊢
  clear hd K5 G5 B4 hs4 HC E0 BE T0 O2 B2 B3 T1 T1' T5 hz
  have BW := hide (B1.out.trans (B5.out.mono B1.out.size))
  have HKS := fun W (k : Below w5.heap.size w5 W) => hide (And.intro (HV1 W k).out (HV2 W k).out)
  have KS := hide (HKS w5.drew ⟨rfl, rfl, rfl, Nat.le_refl _, fun _ _ => rfl⟩).out
  have l0 : (0 : Int) ≤ (L : Int) := by omega
  clear HV1 HV2
  go_region_held3 (fun W => (convert 22 9 (.slice k1 L L)).run Try.prog W = .ok (.string S) W ∧ (convert 22 9 (.slice (some ⟨d, 0, none⟩) L 20)).run Try.prog W = .ok (.string S) W) (first | exact KS.out | exact KS3.out) ((go_at_call 4; refine (alive_c _).mono ?_; rintro e w6 ⟨rfl, b6⟩; have b6' := (⟨b6.os, b6.tape, b6.output, b6.size, b6.block⟩ : Below w5.heap.size w5 w6); have B6 := hide (BW.out.trans (b6'.mono BW.out.size)); have KS3 := hide (HKS w6 b6').out; clear b6 b6' HKS))
  all_goals go_wp2_with fail
  all_goals go_ret
  all_goals exact ⟨rfl, B6.out⟩
end Go.Proofs.Ytgafejgmjenfaab.S
