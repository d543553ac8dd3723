/- sumBehind: contract. -/
import Derived.Test.YtgafejgmjenfaabHOwn
namespace Go.Proofs.Ytgafejgmjenfaab.S
set_option maxRecDepth 100000
open Go Go.RowKit

set_option maxHeartbeats 4000000 in
theorem behind_c (xs : List Nat) (a : Option Addr) (cap : Nat) (ys : List Nat) (w : World) (hl : xs.length = 64) (hx : By xs) (hy : By ys) (hb : TextAt w a ys) (hcap : ys.length ≤ cap) (hcm : cap ≤ 9223372036854775807) (hyl : ys.length ≤ 999999999999000) :
    Calls Try.prog 13 #[.agg (kA xs), .slice a ys.length cap] w fun e w' => e = .returned (.agg (oA (sum (xs ++ ys)) 20)) ∧ Below w.heap.size w w' := by
  obtain ⟨oc, hoc⟩ : ∃ oc, oc = oA (sum (xs ++ ys)) 20 := ⟨_, rfl⟩
  have HOC := hide hoc
  obtain ⟨o0, ho0⟩ : ∃ o0, o0 = oA (sum (xs ++ ys)) 0 := ⟨_, rfl⟩
  have HO0 := hide (show o0.size = oc.size by rw [hoc, ho0, oA, oA, fA_size, fA_size])
  have HO1 : Hid (oc.all (·.oneCell') = true) := by rw [hoc]; exact fA_one _ _ _ _
  have H20 : Hid ((Try.prog.info? 26).map (·.size) = some oc.size) := by rw [hoc]; exact info20 _ _
  have hz : ∀ w, (zeroValue 26).run Try.prog w = .ok (.agg o0) w := by rw [ho0]; exact (zero20 _).1
  have HB := hide hb
  have HY := hide hy
  have HX := hide hx
  have HL := hide hl
  have hsl := fun W => slice64 W w.heap.size
  have X0 := hide (heap_new1 w (.cells (kA xs) 33) (.cells o0 26))
  have O0 := hide (heap_new2 w (.cells (kA xs) 33) (.cells o0 26))
  have B0 := hide (((Below.refl _ w).alloc (Nat.le_refl _) (.cells (kA xs) 33)).alloc (by simp) (.cells o0 26) : Below w.heap.size w _)
  obtain ⟨N, hN⟩ : ∃ N, N = ys.length := ⟨_, rfl⟩
  have HN := hide hN
  rw [← hoc]
  rw [← hN] at hcap hyl ⊢
  clear hoc ho0 hb hy hx hl hN
  go_enter Try.func13, Try.ntmps13
  go_upto_region 2 with (go_at_call 16; refine (new_c _).mono ?_; rintro e w1 ⟨bh, rfl, h1, h2, h3⟩; have H1 := hide h2; have b1 := hide h3; clear h2 h3)
  have hbg : w.heap.size + 2 ≤ bh := by simpa using h1
  have B1 := hide (B0.out.trans (b1.out.mono (by simp; omega)))
  have X1 := hide ((b1.out.block _ (by simp; omega)).trans X0.out)
  have O1 := hide ((b1.out.block _ (by simp)).trans O0.out)
  clear h1 b1 X0 O0 B0
  have HW1 := hide (write_c bh (some ⟨w.heap.size, 0, none⟩) 64 [] xs w1 H1.out HX.out (.inr ⟨_, 0, rfl, lt_of_block' X1.out, by omega, text64 X1.out⟩) (by rw [HL.out]; omega) (by omega) (by rw [HL.out]; simp))
  rw [HL.out] at HW1
  go_upto_region 3 with (go_at_call 17; refine HW1.out.mono ?_; rintro e w2 ⟨rfl, h2, k2⟩; have H2 := hide h2; have K2 := hide k2; clear h2 k2)
  have B2 := hide (B1.out.trans (K2.out.below B1.out.size (fun i hi e => by omega)))
  have O2 := hide (K2.out.heap O1.out (by omega))
  clear H1 X1 O1 B1 HW1 K2
  have HW2 := hide (write_c bh a cap ([] ++ xs) ys w2 H2.out HY.out (HB.out.imp_right fun ⟨b, off, e, h, k⟩ => ⟨b, off, e, Nat.lt_of_lt_of_le h B2.out.size, by omega, k.below B2.out h⟩) (by rw [← HN.out]; exact hcap) hcm (by rw [← HN.out, List.nil_append, HL.out]; omega))
  rw [← HN.out] at HW2
  go_upto_region 4 with (go_at_call 17; refine HW2.out.mono ?_; rintro e w3 ⟨rfl, h3, k3⟩; have H3 := hide h3; have K3 := hide k3; clear h3 k3)
  have B3 := hide (B2.out.trans (K3.out.below B2.out.size (fun i hi e => by omega)))
  have O3 := hide (K3.out.heap O2.out (by omega))
  clear H2 O2 B2 HW2 K3
  have HS : Hid (Calls Try.prog 18 #[.pointer (some ⟨bh, 0, none⟩)] w3 fun e w' => e = .returned (.agg oc) ∧ Below w3.heap.size w3 w') := by
    rw [HOC.out]; exact hsum_c bh _ w3 H3.out (by rw [List.length_append, ← HN.out, HL.out]; omega)
  have hs3 := lt_of_block' O3.out
  clear H3
  go_wp2_with (first
    | (go_at_call 18; refine HS.out.mono ?_; rintro e w5 ⟨rfl, k5⟩; have K5 := hide k5; clear k5)
    | (refine wpList_store_row rfl 26 (.tmp 4) (.tmp 14) rfl (w.heap.size + 1) oc (by rfl) (by rfl) o0 26 ((K5.out.block _ hs3).trans O3.out) H20.out HO0.out HO1.out ?_; intro w6 G6 K6))
  have hld : (loadVar 26 ⟨w.heap.size + 1, 0, none⟩).run Try.prog w6 = .ok (.agg oc) w6 :=
    run_loadVar_row _ _ 26 26 oc (0, 0) _ G6.out Try.underlying26 rfl H20.out
  have B5 := B3.out.trans (K5.out.mono B3.out.size)
  refine bodyPost_ret (v := .agg oc) ?_ rfl ⟨rfl, B5.trans (K6.out.below B5.size (fun i hi e => by omega))⟩
  simp [results, asAddr, Act.put, hld]
end Go.Proofs.Ytgafejgmjenfaab.S
