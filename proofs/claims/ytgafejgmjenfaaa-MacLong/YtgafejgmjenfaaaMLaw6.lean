/- The law on long keys, and on bytes 0 behind short ones: walked. -/
import Derived.Test.YtgafejgmjenfaaaMAlive
import Derived.Test.YtgafejgmjenfaaaMZero
import Derived.Test.YtgafejgmjenfaaaSRef
import Derived.Test.YtgafejgmjenfaaaSEq
namespace Go.Proofs.Ytgafejgmjenfaaa.S
set_option maxRecDepth 100000
open Go Go.RowKit

theorem hmac_same {key key' : List Nat} (h : k64 key' = k64 key) (b : List Nat) : hmac key' b = hmac key b := by
  unfold hmac kX
  rw [h]
theorem k64_long {key : List Nat} (h : 64 < key.length) : k64 (outL (sum key)) = k64 key := by
  have h1 : kB key = outL (sum key) := if_pos h
  have h2 : kB (outL (sum key)) = outL (sum key) := if_neg (by rw [outL_length]; omega)
  unfold k64
  rw [h1, h2]
theorem k64_zero {key : List Nat} {n : Nat} (h : key.length + n ≤ 64) : k64 (key ++ List.replicate n 0) = k64 key := by
  have h1 : kB key = key := if_neg (by omega)
  have h2 : kB (key ++ List.replicate n 0) = key ++ List.replicate n 0 := if_neg (by simp; omega)
  unfold k64
  rw [h1, h2, List.append_assoc, List.replicate_append_replicate]
  congr 2
  simp
  omega
theorem by_zeros {key : List Nat} (h : By key) (n : Nat) : By (key ++ List.replicate n 0) := h.append (fun x hx => by simp at hx; omega)

set_option maxHeartbeats 4000000 in
theorem macLong_walk (a b : Option Addr) (ca cb : Nat) (key ys : List Nat) (x : Int) (w : World) (h0 : BIn w a ca key) (h1 : BIn w b cb ys) (hl1 : ys.length ≤ 140737488351232) :
    Calls Try.prog 8 #[.slice a key.length ca, .slice b ys.length cb, .int .i64 x] w (Yes w) := by
  have H0 := hide h0
  have H1 := hide h1
  have HL1 := hide hl1
  obtain ⟨N, hN⟩ : ∃ N, N = key.length := ⟨_, rfl⟩
  obtain ⟨M, hM⟩ : ∃ M, M = ys.length := ⟨_, rfl⟩
  have HN := hide hN
  have HM := hide hM
  rw [← hN, ← hM]
  clear h0 h1 hl1 hN hM
  by_cases p0 : (5000 : Int) < (N : Int)
  · go_enter Try.func8, Try.ntmps8
    go_wp2_with (go_at_call 9; refine (alive_c _).mono ?_; rintro e w1 ⟨rfl, b1⟩)
    go_ret
    exact ⟨rfl, b1⟩
  by_cases p1 : x < 0
  · go_enter Try.func8, Try.ntmps8
    go_wp2_with (go_at_call 9; refine (alive_c _).mono ?_; rintro e w1 ⟨rfl, b1⟩)
    go_ret
    exact ⟨rfl, b1⟩
  obtain ⟨oc, hoc⟩ : ∃ oc, oc = oA (hmac key ys) 20 := ⟨_, rfl⟩
  have heq := fun W => eq20 (hmac key ys) W
  have HP := fun W (k : Below w.heap.size w W) => hide (msum_c a b ca cb key ys W H0.out.by_ (H0.out.text.below k) H0.out.cap_ H0.out.most (by rw [← HN.out]; omega) H1.out.by_ (H1.out.text.below k) H1.out.cap_ H1.out.most (by have := HL1.out; omega))
  rw [← HN.out, ← HM.out, ← hoc] at HP
  rw [← hoc] at heq
  have HOC := hide hoc
  clear hoc
  by_cases p2 : (64 : Int) < (N : Int)
  · have hz : ∀ w, (zeroValue 24).run Try.prog w = .ok (.agg (oA st0 0)) w := (zero20 _).1
    have H20 := hide (info20 (oB (sum key)) 20)
    have HQ := hide (rsum_c a ca key w H0.out.by_ H0.out.text H0.out.nil (by rw [← HN.out]; omega))
    have HP2 := fun W (k : Below w.heap.size w W) d (t : TextAt W (some ⟨d, 0, none⟩) (outL (sum key))) => hide (msum_c (some ⟨d, 0, none⟩) b 20 cb (outL (sum key)) ys W (outL_by _) t (by rw [outL_length]; omega) (by omega) (by rw [outL_length]; omega) H1.out.by_ (H1.out.text.below k) H1.out.cap_ H1.out.most (by have := HL1.out; omega))
    rw [← HN.out] at HQ
    rw [outL_length, ← HM.out, hmac_same (k64_long (by rw [← HN.out]; omega)), ← HOC.out] at HP2
    go_enter Try.func8, Try.ntmps8
    go_upto_region 5 with (first
      | (go_at_call 15; refine HQ.out.mono ?_; rintro e w1 ⟨rfl, b1⟩; have B1 := hide b1; clear b1)
      | (refine wpList_store_row rfl 24 (.tmp 7) (.tmp 21) rfl w1.heap.size (oA (sum key) 20) (by rfl) (by rfl) (oA st0 0) 24 (heap_new _ _) H20.out (by rw [oA, oA, fA_size, fA_size]) (fA_one _ _ _ _) ?_; intro w2 G2 K2))
    have hs1 := B1.out.size
    have B2 := hide ((B1.out.alloc hs1 (.cells (oA st0 0) 24)).trans (K2.out.below (by simp; omega) (fun i hi e => by omega)))
    have T2 := hide (text20 G2.out)
    have hsl := fun W => slice20 W w1.heap.size
    obtain ⟨d, hd⟩ : ∃ d, d = w1.heap.size := ⟨_, rfl⟩
    rw [← hd] at T2 hsl ⊢
    clear hd K2 G2 B1 hs1 HQ H20 hz
    go_region_with (first
      | (go_at_call 9; refine (alive_c _).mono ?_; rintro e w3 ⟨rfl, b3⟩; have b3' := (⟨b3.os, b3.tape, b3.output, b3.size, b3.block⟩ : Below w2.heap.size w2 w3); have B3 := hide (B2.out.trans (b3'.mono B2.out.size)); have T3 := hide (T2.out.below b3'); have HPA := hide (HP w3 B3.out).out; clear b3 b3')
      | (go_at_call 10; refine HPA.out.mono ?_; rintro e w4 ⟨rfl, b4⟩; have B4 := hide (B3.out.trans (b4.mono B3.out.size)); have HPB := hide (HP2 w4 B4.out d (T3.out.below b4)).out; clear b4 HPA)
      | (go_at_call 10; refine HPB.out.mono ?_; rintro e w5 ⟨rfl, b5⟩; have B5 := hide (B4.out.trans (b5.mono B4.out.size)); clear b5))
    all_goals go_wp2_with fail
    all_goals go_ret
    all_goals exact ⟨rfl, B5.out⟩
  · by_cases p3 : 64 - (N : Int) < x
    · obtain ⟨m, hA⟩ : ∃ m : Nat, (64 : Int) - (N : Int) = (m : Int) := ⟨64 - N, by omega⟩
      have hm2 : N + m ≤ 64 := by omega
      rw [hA] at p3
      have E0 := hide (OwnsB.empty w w.heap.size (Nat.le_refl _))
      have BE := hide ((Below.refl _ w).alloc (Nat.le_refl _) (.cells #[] 5) : Below w.heap.size w _)
      have T0 := hide (H0.out.text.below BE.out)
      have HNN := hide H0.out.nil
      rw [← HN.out] at HNN
      have HZ := fun W v (o : OwnsB W w.heap.size v key) (k : Below w.heap.size w W) => hide (run_zeros W 22 w.heap.size v key o m (by rw [← HN.out]; omega) k.size)
      have HP2 := fun W (k : Below w.heap.size w W) v (o : OwnsB W w.heap.size v (key ++ List.replicate m 0)) => hide (show Calls Try.prog 10 #[v, .slice b ys.length cb] W (fun e w' => e = .returned (.agg (oA (hmac (key ++ List.replicate m 0) ys) 20)) ∧ Below W.heap.size W w') from by
        obtain ⟨a', c', rfl, hc', hm', _⟩ := o.form
        exact msum_c a' b c' cb (key ++ List.replicate m 0) ys W (by_zeros H0.out.by_ m) o.text hc' (by unfold maxLen at hm'; omega) (by rw [List.length_append, List.length_replicate, ← HN.out]; omega) H1.out.by_ (H1.out.text.below k) H1.out.cap_ H1.out.most (by have := HL1.out; omega))
      rw [← HM.out, hmac_same (k64_zero (by rw [← HN.out]; omega)), ← HOC.out] at HP2
      go_enter Try.func8, Try.ntmps8
      go_upto_region 7 with (first
        | (refine wpList_appB _ rfl (.tmp 32) (.tmp 33) rfl w.heap.size (.slice (some ⟨w.heap.size, 0, none⟩) 0 0) [] (by rfl) E0.out a N ca (by rfl) key key (by rfl) HN.out.symm T0.out HNN.out (by simp; omega) (by simp) ?_; intro v1 w1 h1 k1; have O1 := hide h1; have B1 := hide (growB E0.out BE.out k1); obtain ⟨v2, w2, hr, o2, k2⟩ := (HZ w1 v1 O1.out B1.out).out; have HR := hide hr; have O2 := hide o2; have B2 := hide (growB O1.out B1.out k2); clear h1 k1 hr o2 k2)
        | (refine Lib.wpList_append_run w1 rfl (.tmp 34) (.tmp 39) 22 3 rfl v1 (.int .i64 (m : Int)) (by rfl) (by rfl) _ _ HR.out ?_))
      clear E0 BE T0 HNN HZ O1 B1 HR
      go_wp2_with (first
        | (go_at_call 9; refine (alive_c _).mono ?_; rintro e w3 ⟨rfl, b3⟩; have B3 := hide (B2.out.trans (b3.mono B2.out.size)); have O3 := hide (O2.out.stay b3); have HPA := hide (HP w3 B3.out).out; clear b3)
        | (go_at_call 10; refine HPA.out.mono ?_; rintro e w4 ⟨rfl, b4⟩; have B4 := hide (B3.out.trans (b4.mono B3.out.size)); have HPB := hide (HP2 w4 B4.out v2 (O3.out.stay b4)).out; clear b4 HPA)
        | (go_at_call 10; refine HPB.out.mono ?_; rintro e w5 ⟨rfl, b5⟩; have B5 := hide (B4.out.trans (b5.mono B4.out.size)); clear b5))
      go_ret
      exact ⟨rfl, B5.out⟩
    · obtain ⟨m, rfl⟩ : ∃ m : Nat, x = (m : Int) := ⟨x.toNat, by omega⟩
      have hm2 : N + m ≤ 64 := by omega
      have E0 := hide (OwnsB.empty w w.heap.size (Nat.le_refl _))
      have BE := hide ((Below.refl _ w).alloc (Nat.le_refl _) (.cells #[] 5) : Below w.heap.size w _)
      have T0 := hide (H0.out.text.below BE.out)
      have HNN := hide H0.out.nil
      rw [← HN.out] at HNN
      have HZ := fun W v (o : OwnsB W w.heap.size v key) (k : Below w.heap.size w W) => hide (run_zeros W 22 w.heap.size v key o m (by rw [← HN.out]; omega) k.size)
      have HP2 := fun W (k : Below w.heap.size w W) v (o : OwnsB W w.heap.size v (key ++ List.replicate m 0)) => hide (show Calls Try.prog 10 #[v, .slice b ys.length cb] W (fun e w' => e = .returned (.agg (oA (hmac (key ++ List.replicate m 0) ys) 20)) ∧ Below W.heap.size W w') from by
        obtain ⟨a', c', rfl, hc', hm', _⟩ := o.form
        exact msum_c a' b c' cb (key ++ List.replicate m 0) ys W (by_zeros H0.out.by_ m) o.text hc' (by unfold maxLen at hm'; omega) (by rw [List.length_append, List.length_replicate, ← HN.out]; omega) H1.out.by_ (H1.out.text.below k) H1.out.cap_ H1.out.most (by have := HL1.out; omega))
      rw [← HM.out, hmac_same (k64_zero (by rw [← HN.out]; omega)), ← HOC.out] at HP2
      go_enter Try.func8, Try.ntmps8
      go_upto_region 7 with (first
        | (refine wpList_appB _ rfl (.tmp 32) (.tmp 33) rfl w.heap.size (.slice (some ⟨w.heap.size, 0, none⟩) 0 0) [] (by rfl) E0.out a N ca (by rfl) key key (by rfl) HN.out.symm T0.out HNN.out (by simp; omega) (by simp) ?_; intro v1 w1 h1 k1; have O1 := hide h1; have B1 := hide (growB E0.out BE.out k1); obtain ⟨v2, w2, hr, o2, k2⟩ := (HZ w1 v1 O1.out B1.out).out; have HR := hide hr; have O2 := hide o2; have B2 := hide (growB O1.out B1.out k2); clear h1 k1 hr o2 k2)
        | (refine Lib.wpList_append_run w1 rfl (.tmp 34) (.tmp 39) 22 3 rfl v1 (.int .i64 (m : Int)) (by rfl) (by rfl) _ _ HR.out ?_))
      clear E0 BE T0 HNN HZ O1 B1 HR
      go_wp2_with (first
        | (go_at_call 9; refine (alive_c _).mono ?_; rintro e w3 ⟨rfl, b3⟩; have B3 := hide (B2.out.trans (b3.mono B2.out.size)); have O3 := hide (O2.out.stay b3); have HPA := hide (HP w3 B3.out).out; clear b3)
        | (go_at_call 10; refine HPA.out.mono ?_; rintro e w4 ⟨rfl, b4⟩; have B4 := hide (B3.out.trans (b4.mono B3.out.size)); have HPB := hide (HP2 w4 B4.out v2 (O3.out.stay b4)).out; clear b4 HPA)
        | (go_at_call 10; refine HPB.out.mono ?_; rintro e w5 ⟨rfl, b5⟩; have B5 := hide (B4.out.trans (b5.mono B4.out.size)); clear b5))
      go_ret
      exact ⟨rfl, B5.out⟩
end Go.Proofs.Ytgafejgmjenfaaa.S
