/- The reference's sum with a key: contract. -/
import Derived.Test.YtgafejgmjenfaaaPWith
namespace Go.Proofs.Ytgafejgmjenfaaa.S
set_option maxRecDepth 100000
open Go Go.RowKit

set_option maxHeartbeats 4000000 in
theorem hsumr_c (a b : Option Addr) (ca cb : Nat) (key ys : List Nat) (w : World) (hk : By key) (hka : TextAt w a key) (hkn : a = none → key.length = 0 ∧ ca = 0) (hkl : key.length ≤ 140737488351232) (hy : By ys) (hyb : TextAt w b ys) (hyn : b = none → ys.length = 0 ∧ cb = 0) (hyl : ys.length ≤ 140737488351232) :
    Calls Try.prog 11 #[.slice a key.length ca, .slice b ys.length cb] w fun e w' => e = .returned (.agg (oA (hmac key ys) 20)) ∧ Below w.heap.size w w' := by
  have HW := fun W x (hx : x < 256) (k : Below w.heap.size w W) => hide (with_c a ca key x W hk (hka.below k) hkn hkl hx)
  have HYT := hide hyb
  have HYN := hide hyn
  have HKB := hide hk
  have HYB := hide hy
  have hz : ∀ w, (zeroValue 24).run Try.prog w = .ok (.agg (oA (hmac key ys) 0)) w := (zero20 _).1
  have hz' : oA (hmac key ys) 0 = oA (sum (kX key 54 ++ ys)) 0 := by rw [oA, oA, fA_zero, fA_zero]
  have H20 := fun s => hide (info20 (oB s) 20)
  obtain ⟨N, hN⟩ : ∃ N, N = key.length := ⟨_, rfl⟩
  obtain ⟨M, hM⟩ : ∃ M, M = ys.length := ⟨_, rfl⟩
  have HM := hide hM
  rw [← hN] at HW hkl ⊢
  rw [← hM] at hyl HYN ⊢
  have BA := hide ((Below.refl _ w).alloc (Nat.le_refl _) (.cells (oA (hmac key ys) 0) 24) : Below w.heap.size w _)
  have HZ := hide hz'
  have hRB : By (kX key 54 ++ ys) := (kX_by hk (by omega)).append hy
  have HQ1 := fun W v (o : OwnsB W w.heap.size v (kX key 54 ++ ys)) => hide (show Calls Try.prog 15 #[v] W fun e w' => e = .returned (.agg (oA (sum (kX key 54 ++ ys)) 20)) ∧ Below W.heap.size W w' by
    obtain ⟨a', c', rfl, _, _, hn⟩ := o.form
    exact rsum_big a' c' _ W hRB o.text hn (by rw [List.length_append, kX_length, ← HM.out]; omega))
  clear hk hka hkn hy hyb hyn hN hM hz' hRB
  go_enter Try.func11, Try.ntmps11
  go_upto_region 2 with (first
    | (go_at_call 17; refine (HW _ 54 (by omega) BA.out).out.mono ?_; rintro e w1 ⟨v7, rfl, o1, b1⟩; have O1 := hide (o1.low BA.out.size); have B1 := hide (BA.out.trans (b1.mono BA.out.size)); have R1 := hide ((b1.block w.heap.size (by simp)).trans (heap_new w _)); clear o1 b1)
    | (refine wpList_appB _ rfl (.tmp 7) (.tmp 8) rfl w.heap.size v7 (kX key 54) (by rfl) O1.out b M cb (by rfl) ys (kX key 54 ++ ys) rfl HM.out.symm (HYT.out.below B1.out) HYN.out (by rw [kX_length]; omega) B1.out.size ?_; intro v9 w2 h2 k2; have O2 := hide h2; have B2 := hide (growB O1.out B1.out k2); have R2 := hide ((Kept.of_grown k2).heap R1.out (own_not O1.out R1.out)); clear h2 k2)
    | (go_at_call 15; refine (HQ1 _ _ O2.out).out.mono ?_; rintro e w3 ⟨rfl, b3⟩; have B3 := hide (B2.out.trans (b3.mono B2.out.size)); have R3 := hide ((b3.block _ (lt_of_block' R2.out)).trans R2.out); clear b3)
    | (refine wpList_store_row rfl 24 (.tmp 5) (.tmp 10) rfl w3.heap.size (oA (sum (kX key 54 ++ ys)) 20) (by rfl) (by rfl) (oA (hmac key ys) 0) 24 (heap_new _ _) (H20 _).out (by rw [oA, oA, fA_size, fA_size]) (fA_one _ _ _ _) ?_; intro w4 G4 K4))
  have hs3 := B3.out.size
  have B4 := hide ((B3.out.alloc hs3 (.cells (oA (hmac key ys) 0) 24)).trans (K4.out.below (by simp; omega) (fun i hi e => by omega)))
  have R4 := hide (K4.out.heap (heap_old R3.out) (by have := lt_of_block' R3.out; omega))
  have T4 := hide (text20 G4.out)
  have hsl := fun W => slice20 W w3.heap.size
  obtain ⟨bi, hbi⟩ : ∃ bi, bi = w3.heap.size := ⟨_, rfl⟩
  rw [← hbi] at T4 hsl ⊢
  have HW2 := hide (HW w4.drew 92 (by omega) ⟨B4.out.os, B4.out.tape, B4.out.output, B4.out.size, B4.out.block⟩).out
  clear hbi K4 G4 R3 B3 R2 B2 R1 B1 O1 O2 HQ1 HW BA hs3
  simp only [Act.put]
  refine wp_region_any (by kernel_rfl) ?_
  try (change wpAny _ _ _ _ _ _ _ (World.drew _))
  (refine wpAny_take (i := 0) (v := ?_) rfl (by kernel_rfl) (by kernel_rfl) (by kernel_rfl) (fun _ _ _ h => h) (Or.inl ⟨by rfl, ?_⟩) ?_; rotate_left; (intro w; go_simp); (try with_reducible rfl); try simp only [Act.put, List.getElem_toArray, List.getElem_cons_zero, List.setIfInBounds_toArray, List.set_cons_zero, List.set_cons_succ])
  (refine wpAny_take (i := 2) (v := ?_) rfl (by kernel_rfl) (by kernel_rfl) (by kernel_rfl) (fun _ _ _ h => h) (Or.inl ⟨by rfl, ?_⟩) ?_; rotate_left; (intro w; go_simp); (try with_reducible rfl); try simp only [Act.put, List.getElem_toArray, List.getElem_cons_zero, List.getElem_cons_succ, List.setIfInBounds_toArray, List.set_cons_zero, List.set_cons_succ])
  refine wpAny_ready (rs := [1]) (by kernel_rfl) (by simp) ?_
  refine AllReady.cons rfl (fun K hK => ?_) AllReady.nil
  refine step_call rfl 17 #[.slice a N ca, .int .u8 92] (by kernel_rfl) HW2.out ?_
  rintro e w5 ⟨v12, rfl, o5, b5⟩
  refine ⟨v12, rfl, hK _ _ ?_⟩
  clear hK K
  have hs4 := B4.out.size
  have O5 := hide (o5.low (show w.heap.size ≤ w4.drew.heap.size from hs4))
  have B5 : Hid (Below w.heap.size w w5) := B4.out.trans ((⟨b5.os, b5.tape, b5.output, b5.size, b5.block⟩ : Below w4.heap.size w4 w5).mono hs4)
  have T5 := hide (T4.out.below (⟨b5.os, b5.tape, b5.output, b5.size, b5.block⟩ : Below w4.heap.size w4 w5))
  have R5 := hide ((b5.block w.heap.size (lt_of_block' R4.out)).trans R4.out)
  clear o5 b5 HW2 hs4
  simp only [Act.put, List.getElem_toArray, List.getElem_cons_zero, List.getElem_cons_succ, List.setIfInBounds_toArray, List.set_cons_zero, List.set_cons_succ]
  refine wpAny_ready (rs := [3]) (by kernel_rfl) (by simp) ?_
  refine AllReady.cons rfl (fun K hK => ?_) AllReady.nil
  refine step_appB w5 rfl (.tmp 12) (.tmp 13) rfl w.heap.size v12 (kX key 92) rfl O5.out ⟨bi, 0, none⟩ 20 20 rfl (outL (sum (kX key 54 ++ ys))) (outL_length _) T5.out (by rw [kX_length]; omega) B5.out.size ?_
  intro v14 w6 o6 g6
  refine hK _ _ ?_
  clear hK K
  have O6 := hide o6
  have B6 := hide (growB O5.out B5.out g6)
  have R6 := hide ((Kept.of_grown g6).heap R5.out (own_not O5.out R5.out))
  clear o6 g6
  simp only [Act.put, List.getElem_toArray, List.getElem_cons_zero, List.getElem_cons_succ, List.setIfInBounds_toArray, List.set_cons_zero, List.set_cons_succ]
  refine wpAny_ready (rs := [4]) (by kernel_rfl) (by simp) ?_
  refine AllReady.cons rfl (fun K hK => ?_) AllReady.nil
  have HQ2 : Hid (Calls Try.prog 15 #[v14] w6 fun e w' => e = .returned (.agg (oA (hmac key ys) 20)) ∧ Below w6.heap.size w6 w') := by
    obtain ⟨a', c', rfl, _, _, hn⟩ := O6.out.form
    exact rsum_c a' c' _ w6 ((kX_by HKB.out (by omega)).append (outL_by _)) O6.out.text hn (by rw [List.length_append, kX_length, outL_length]; omega)
  refine step_call rfl 15 #[v14] (by kernel_rfl) HQ2.out ?_
  rintro e w7 ⟨rfl, b7⟩
  refine ⟨_, rfl, hK _ _ ?_⟩
  clear hK K
  have R7 := hide ((b7.block w.heap.size (lt_of_block' R6.out)).trans R6.out)
  have B7 := hide (B6.out.trans (b7.mono B6.out.size))
  simp only [Act.put, List.getElem_toArray, List.getElem_cons_zero, List.getElem_cons_succ, List.setIfInBounds_toArray, List.set_cons_zero, List.set_cons_succ]
  refine wpAny_ready (rs := [5]) (by kernel_rfl) (by simp) ?_
  refine AllReady.cons rfl (fun K hK => ?_) AllReady.nil
  refine step_store rfl 24 (.tmp 4) (.tmp 15) rfl w.heap.size (oA (hmac key ys) 20) rfl rfl (oA (hmac key ys) 0) 24 R7.out (H20 _).out (by rw [oA, oA, fA_size, fA_size]) (fA_one _ _ _ _) ?_
  intro w8 G8 K8
  refine hK _ _ ?_
  clear hK K
  refine wpAny_done (by kernel_rfl) ?_ _
  go_wp2_with fail
  have hld : (loadVar 24 ⟨w.heap.size, 0, none⟩).run Try.prog w8 = .ok (.agg (oA (hmac key ys) 20)) w8 :=
    run_loadVar_row _ _ 24 24 (oA (hmac key ys) 20) (0, 0) _ G8.out Try.underlying24 rfl (H20 _).out
  refine bodyPost_ret (v := .agg (oA (hmac key ys) 20)) ?_ rfl ⟨rfl, B7.out.trans (K8.out.below B7.out.size (fun i hi e => by omega))⟩
  simp [results, asAddr, Act.put, hld]
end Go.Proofs.Ytgafejgmjenfaaa.S
