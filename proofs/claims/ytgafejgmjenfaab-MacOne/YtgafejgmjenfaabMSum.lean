/- Sum with a key: contract. -/
import Derived.Test.YtgafejgmjenfaabMBind
import Derived.Test.YtgafejgmjenfaabMCl
namespace Go.Proofs.Ytgafejgmjenfaab.S
set_option maxRecDepth 100000
open Go Go.RowKit

/-- A bound sum, called. -/
theorem bound_c {bi bo : Nat} {key : List Nat} (hk : By key) (a : Option Addr) (cap : Nat) (ys : List Nat) (w : World) (ri : w.heap[bi]? = some (.cells (kA (kX key 54)) 33 (0, 0))) (ro : w.heap[bo]? = some (.cells (kA (kX key 92)) 33 (0, 0)))
    (hy : By ys) (hb : TextAt w a ys) (hcap : ys.length ≤ cap) (hcm : cap ≤ 9223372036854775807) (hyl : ys.length ≤ 999999999999000) :
    Calls Try.prog 12 #[.slice a ys.length cap, .pointer (some ⟨bi, 0, none⟩), .pointer (some ⟨bo, 0, none⟩)] w fun e w' => e = .returned (.agg (oA (hmac key ys) 20)) ∧ Below w.heap.size w w' :=
  bind1_c bi bo (kX key 54) (kX key 92) a cap ys w (kX_length _ _) (kX_by hk (by omega)) (kX_length _ _) (kX_by hk (by omega)) ri ro hy hb hcap hcm hyl

set_option maxHeartbeats 4000000 in
theorem msum_c (a b : Option Addr) (ca cb : Nat) (key ys : List Nat) (w : World) (hk : By key) (hka : TextAt w a key) (hkc : key.length ≤ ca) (hkm : ca ≤ 9223372036854775807) (hkl : key.length ≤ 1000000000000000)
    (hy : By ys) (hb : TextAt w b ys) (hcap : ys.length ≤ cb) (hcm : cb ≤ 9223372036854775807) (hyl : ys.length ≤ 999999999999000) :
    Calls Try.prog 6 #[.slice a key.length ca, .slice b ys.length cb] w fun e w' => e = .returned (.agg (oA (hmac key ys) 20)) ∧ Below w.heap.size w w' := by
  obtain ⟨S, hS⟩ : ∃ S, S = hmac key ys := ⟨_, rfl⟩
  have hz : ∀ w, (zeroValue 26).run Try.prog w = .ok (.agg (oA S 0)) w := (zero20 _).1
  have BA := hide ((Below.refl _ w).alloc (Nat.le_refl _) (.cells (oA S 0) 26) : Below w.heap.size w _)
  have R0 := hide (heap_new w (.cells (oA S 0) 26))
  have H20 := hide (info20 (oB S) 20)
  have HBI := hide (bind_c a ca key _ hk (hka.below BA.out) hkc hkm hkl)
  have HCL := fun W bi bo ri ro (k : Below w.heap.size w W) => hide (bound_c hk b cb ys W (bi := bi) (bo := bo) ri ro hy (hb.below k) hcap hcm hyl)
  rw [← hS] at HCL ⊢
  obtain ⟨N, hN⟩ : ∃ N, N = key.length := ⟨_, rfl⟩
  obtain ⟨M, hM⟩ : ∃ M, M = ys.length := ⟨_, rfl⟩
  rw [← hN] at HBI ⊢
  rw [← hM] at HCL ⊢
  clear hk hka hkc hkm hkl hy hb hcap hcm hyl hS hN hM
  go_enter Try.func6, Try.ntmps6
  go_wp2_with (first
    | (go_at_call 8; refine HBI.out.mono ?_; rintro e w1 ⟨v, rfl, ⟨bi, bo, rfl, _, _, hbi, hbo⟩, b1⟩; have RI := hide hbi; have RO := hide hbo; have B1 := hide (BA.out.trans (b1.mono BA.out.size)); have R1 := hide ((b1.block _ (by simp)).trans R0.out); clear b1 hbi hbo)
    | (go_at_call 12; refine (HCL w1 bi bo RI.out RO.out B1.out).out.mono ?_; rintro e w2 ⟨rfl, b2⟩; have B2 := hide (B1.out.trans (b2.mono B1.out.size)); have R2 := hide ((b2.block _ (lt_of_block' R1.out)).trans R1.out); clear b2)
    | (refine wpList_store_row rfl 26 (.tmp 4) (.tmp 8) rfl w.heap.size (oA S 20) (by rfl) (by rfl) (oA S 0) 26 R2.out H20.out (by rw [oA, oA, fA_size, fA_size]) (fA_one _ _ _ _) ?_; intro w3 G3 K3))
  have hld : (loadVar 26 ⟨w.heap.size, 0, none⟩).run Try.prog w3 = .ok (.agg (oA S 20)) w3 :=
    run_loadVar_row _ _ 26 26 (oA S 20) (0, 0) _ G3.out Try.underlying26 rfl H20.out
  refine bodyPost_ret (v := .agg (oA S 20)) ?_ rfl ⟨rfl, B2.out.trans (K3.out.below B2.out.size (fun i hi e => by omega))⟩
  simp [results, asAddr, Act.put, hld]
end Go.Proofs.Ytgafejgmjenfaab.S
