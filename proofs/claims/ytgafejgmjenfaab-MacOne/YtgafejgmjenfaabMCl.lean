/- The closure that bind tells: contract. -/
import Derived.Test.YtgafejgmjenfaabMBeh
namespace Go.Proofs.Ytgafejgmjenfaab.S
set_option maxRecDepth 100000
open Go Go.RowKit

set_option maxHeartbeats 4000000 in
theorem bind1_c (bi bo : Nat) (I O : List Nat) (a : Option Addr) (cap : Nat) (ys : List Nat) (w : World) (hI : I.length = 64) (hIb : By I) (hO : O.length = 64) (hOb : By O) (ri : w.heap[bi]? = some (.cells (kA I) 33 (0, 0))) (ro : w.heap[bo]? = some (.cells (kA O) 33 (0, 0)))
    (hy : By ys) (hb : TextAt w a ys) (hcap : ys.length ≤ cap) (hcm : cap ≤ 9223372036854775807) (hyl : ys.length ≤ 999999999999000) :
    Calls Try.prog 12 #[.slice a ys.length cap, .pointer (some ⟨bi, 0, none⟩), .pointer (some ⟨bo, 0, none⟩)] w fun e w' => e = .returned (.agg (oA (sum (O ++ outL (sum (I ++ ys)))) 20)) ∧ Below w.heap.size w w' := by
  obtain ⟨S, hS⟩ : ∃ S, S = sum (O ++ outL (sum (I ++ ys))) := ⟨_, rfl⟩
  obtain ⟨T, hT⟩ : ∃ T, T = sum (I ++ ys) := ⟨_, rfl⟩
  have hz : ∀ w, (zeroValue 26).run Try.prog w = .ok (.agg (oA S 0)) w := (zero20 _).1
  have HI64 := hide (info64 hI)
  have HO64 := hide (info64 hO)
  have BA := hide ((Below.refl _ w).alloc (Nat.le_refl _) (.cells (oA S 0) 26) : Below w.heap.size w _)
  have RI := hide (heap_old (o := .cells (oA S 0) 26) ri)
  have RO := hide (heap_old (o := .cells (oA S 0) 26) ro)
  have R0 := hide (heap_new w (.cells (oA S 0) 26))
  have H20 := fun s => hide (info20 (oB s) 20)
  have HB1 := hide (behind_c I a cap ys _ hI hIb hy (hb.below BA.out) hcap hcm hyl)
  have HB2 := fun W b (h : TextAt W (some ⟨b, 0, none⟩) (outL T)) => hide (behind_c O (some ⟨b, 0, none⟩) 20 (outL T) W hO hOb (outL_by _) h (by rw [outL_length]; omega) (by omega) (by rw [outL_length]; omega))
  rw [← hT] at HB1 hS
  simp only [← hS, outL_length] at HB2
  rw [← hT, ← hS]
  have hlo := lt_of_block' ro
  obtain ⟨N, hN⟩ : ∃ N, N = ys.length := ⟨_, rfl⟩
  rw [← hN] at HB1 ⊢
  clear hI hIb hO hOb ri ro hy hb hcap hcm hyl hS hT hN
  go_enter Try.func12, Try.ntmps12
  go_upto_region 2 with (first
    | (refine wpList_load_row rfl 33 (.tmp 1) rfl bi (by rfl) (kA I) 33 (0, 0) RI.out _ Try.underlying33 rfl HI64.out ?_)
    | (go_at_call 13; refine HB1.out.mono ?_; rintro e w1 ⟨rfl, b1⟩; have B1 := hide (BA.out.trans (b1.mono BA.out.size)); have O1 := hide ((b1.block _ (by simp; omega)).trans RO.out); have R1 := hide ((b1.block _ (by simp)).trans R0.out); clear b1)
    | (refine wpList_store_row rfl 26 (.tmp 5) (.tmp 8) rfl w1.heap.size (oA T 20) (by rfl) (by rfl) (oA S 0) 26 (heap_new _ _) (H20 _).out (by rw [oA, oA, fA_size, fA_size]) (fA_one _ _ _ _) ?_; intro w2 G2 K2))
  have hs1 := B1.out.size
  have hr1 := lt_of_block' R1.out
  have ho1 := lt_of_block' O1.out
  have B2 := hide ((B1.out.alloc hs1 (.cells (oA S 0) 26)).trans (K2.out.below (by simp; omega) (fun i hi e => by omega)))
  have O2 := hide (K2.out.heap (heap_old O1.out) (by omega))
  have R2 := hide (K2.out.heap (heap_old R1.out) (by omega))
  have T2 := hide (text20 G2.out)
  have hsl := fun W => slice20 W w1.heap.size
  have HC := hide (HB2 w2.drew w1.heap.size T2.out).out
  obtain ⟨b5, hb5⟩ : ∃ b5, b5 = w1.heap.size := ⟨_, rfl⟩
  rw [← hb5] at HC hsl ⊢
  clear hb5 K2 G2 HB1 HB2 BA RI RO R0 B1 O1 R1 hs1 hr1 ho1 T2
  simp only [Act.put]
  refine wp_region_any (by kernel_rfl) ?_
  try (change wpAny _ _ _ _ _ _ _ (World.drew _))
  (refine wpAny_take (i := 1) (v := ?_) rfl (by kernel_rfl) (by kernel_rfl) (by kernel_rfl) (fun _ _ _ h => h) (Or.inl ⟨by rfl, ?_⟩) ?_; rotate_left; (intro w; go_simp); (try with_reducible rfl); try simp only [Act.put, List.getElem_toArray, List.getElem_cons_zero, List.getElem_cons_succ, List.setIfInBounds_toArray, List.set_cons_zero, List.set_cons_succ])
  refine wpAny_ready (rs := [0]) (by kernel_rfl) (by simp) ?_
  refine AllReady.cons rfl (fun K hK => ?_) AllReady.nil
  refine step_load rfl 33 (.tmp 2) rfl bo rfl (kA O) 33 (0, 0) O2.out _ Try.underlying33 rfl HO64.out ?_
  refine hK _ _ ?_
  clear hK K
  simp only [Act.put, List.getElem_toArray, List.getElem_cons_zero, List.setIfInBounds_toArray, List.set_cons_zero, List.set_cons_succ]
  refine wpAny_ready (rs := [2]) (by kernel_rfl) (by simp) ?_
  refine AllReady.cons rfl (fun K hK => ?_) AllReady.nil
  refine step_call rfl 13 #[.agg (kA O), .slice (some ⟨b5, 0, none⟩) 20 20] (by kernel_rfl) HC.out ?_
  rintro e w3 ⟨rfl, b3⟩
  refine ⟨_, rfl, hK _ _ ?_⟩
  clear hK K
  have hs2 := B2.out.size
  have B3 : Hid (Below w.heap.size w w3) := B2.out.trans ((⟨b3.os, b3.tape, b3.output, b3.size, b3.block⟩ : Below w2.heap.size w2 w3).mono hs2)
  have R3 := hide ((b3.block w.heap.size (lt_of_block' R2.out)).trans R2.out)
  clear b3 HC hs2
  simp only [Act.put, List.getElem_toArray, List.getElem_cons_zero, List.getElem_cons_succ, List.setIfInBounds_toArray, List.set_cons_zero, List.set_cons_succ]
  refine wpAny_ready (rs := [3]) (by kernel_rfl) (by simp) ?_
  refine AllReady.cons rfl (fun K hK => ?_) AllReady.nil
  refine step_store rfl 26 (.tmp 4) (.tmp 11) rfl w.heap.size (oA S 20) rfl rfl (oA S 0) 26 R3.out (H20 _).out (by rw [oA, oA, fA_size, fA_size]) (fA_one _ _ _ _) ?_
  intro w4 G4 K4
  refine hK _ _ ?_
  clear hK K
  refine wpAny_done (by kernel_rfl) ?_ _
  go_wp2_with fail
  have hld : (loadVar 26 ⟨w.heap.size, 0, none⟩).run Try.prog w4 = .ok (.agg (oA S 20)) w4 :=
    run_loadVar_row _ _ 26 26 (oA S 20) (0, 0) _ G4.out Try.underlying26 rfl (H20 _).out
  refine bodyPost_ret (v := .agg (oA S 20)) ?_ rfl ⟨rfl, B3.out.trans (K4.out.below B3.out.size (fun i hi e => by omega))⟩
  simp [results, asAddr, Act.put, hld]
end Go.Proofs.Ytgafejgmjenfaab.S
