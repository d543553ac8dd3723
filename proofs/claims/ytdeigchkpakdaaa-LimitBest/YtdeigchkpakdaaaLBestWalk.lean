/- The law on the least cost: walked. -/
import Derived.Test.YtdeigchkpakdaaaLLeast
import Derived.Test.YtdeigchkpakdaaaLWalks
namespace Go.Proofs.Ytdeigchkpakdaaa
open Go Go.RowKit

set_option maxHeartbeats 2000000 in
set_option maxRecDepth 100000 in
theorem best_walk (U : Nat) (a : Option Addr) (cap : Nat) (ls : List Int) (most : Int) (w : World) (hA : Ints 0 U w a ls) (hla : ls.length ≤ 17592186043904) :
    Calls Try.prog 4 #[.slice a ls.length cap, .int .i64 most] w (Yes w) := by
  have HA := hide hA
  by_cases h40 : (40 : Int) < (ls.length : Int)
  · clear hA
    go_enter Try.func4, Try.ntmps4
    go_wp2_with (go_at_call 11; refine (alive_any _).mono ?_; rintro e w5 ⟨rfl, b3⟩; have BA := hide b3; clear b3)
    go_ret
    exact ⟨rfl, BA.out⟩
  · by_cases hf : FitsP ls most
    · obtain ⟨L, rfl⟩ : ∃ L : Nat, most = L := ⟨most.toNat, by have := hf.1.2.1; omega⟩
      have HL := hide (lengths_yes U a cap ls L w hA hf)
      have HFT := hide hf
      clear hf hA
      go_enter Try.func4, Try.ntmps4
      go_upto_region 4 with (go_at_call 9; refine HL.out.mono ?_; rintro e w1 ⟨gl, F, rfl, k1, k2, k3, k4⟩; have HR := hide k2; have HGD := hide k3; have HB := hide k4; clear k1 k2 k3 k4)
      have hcF : ∀ W, Below w1.heap.size w1 W → Calls Try.prog 14 #[.slice a ls.length cap, .slice (some ⟨gl, 0, none⟩) ls.length ls.length] W fun e w' => e = .returned (.int .i64 ((cst (zOf ls F (occ ls ls.length)) : Nat) : Int)) ∧ ∃ q, w' = W.drewN q := by
        intro W hW
        have hI := HR.out.ints (lo := 0) (hi := gl + 1) (Nat.zero_le _) (by omega)
        have := cost_c 0 U 0 (gl + 1) a (some ⟨gl, 0, none⟩) cap ls.length ls F W (HA.out.stay (HB.out.trans (hW.mono HB.out.size))) (hI.stay hW) hla
        rw [HGD.out.cost HFT.out.1, HGD.out.len] at this
        exact this
      have hls : ∀ W, Below w1.heap.size w1 W → Calls Try.prog 15 #[.slice a ls.length cap, .int .i64 L] W (LeastOk ((cst (zOf ls F (occ ls ls.length)) : Nat) : Int) W) := fun W hW =>
        least_c U a cap ls F L W (by omega) (HA.out.stay (HB.out.trans (hW.mono HB.out.size))) HFT.out.1 HGD.out
      have HCF := hide hcF
      have HLS := hide hls
      clear hcF hls
      generalize ((cst (zOf ls F (occ ls ls.length)) : Nat) : Int) = C at HCF HLS
      go_wp2_with (first
        | (go_at_call 11; refine (alive_any _).mono ?_; rintro e w5 ⟨rfl, b3⟩; have B5 := hide b3; have BA := hide (HB.out.trans (b3.mono HB.out.size)); clear b3)
        | (go_at_call 14; refine (HCF.out w5 B5.out).mono ?_; rintro e w6 ⟨rfl, q6, rfl⟩; have B6 := hide (below_drewN B5.out q6))
        | (go_at_call 15; refine (HLS.out (w5.drewN q6) B6.out).mono ?_; rintro e w7 ⟨rfl, b7⟩; have B7 := hide ((below_drewN BA.out q6).trans (b7.mono (below_drewN BA.out q6).size)); clear b7))
      go_ret
      exact ⟨by simp, B7.out⟩
    · have HL := hide (lengths_no U a cap ls most w hA hf)
      clear hf hA
      go_enter Try.func4, Try.ntmps4
      go_wp2_with (first
        | (go_at_call 9; refine HL.out.mono ?_; rintro e w1 ⟨rfl, k4⟩; have HB := hide k4; clear k4)
        | (go_at_call 11; refine (alive_any _).mono ?_; rintro e w3 ⟨rfl, b3⟩; have BA := hide (HB.out.trans (b3.mono HB.out.size)); clear b3))
      go_ret
      exact ⟨rfl, BA.out⟩
#print axioms best_walk
end Go.Proofs.Ytdeigchkpakdaaa
