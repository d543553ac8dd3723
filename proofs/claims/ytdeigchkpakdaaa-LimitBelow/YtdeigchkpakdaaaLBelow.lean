/- The law on other lengths: walked. -/
import Derived.Test.YtdeigchkpakdaaaLWalks
namespace Go.Proofs.Ytdeigchkpakdaaa
open Go Go.RowKit

set_option maxHeartbeats 2000000 in
set_option maxRecDepth 100000 in
theorem below_walk (U : Nat) (a b : Option Addr) (cap cap' : Nat) (ls G : List Int) (most : Int) (w : World) (hA : Ints 0 U w a ls) (hB : Ints 0 U w b G) (hla : ls.length ≤ 17592186043904) :
    Calls Try.prog 5 #[.slice a ls.length cap, .slice b G.length cap', .int .i64 most] w (Yes w) := by
  have HA := hide hA
  have HG2 := hide hB
  by_cases hf : FitsP ls most
  · obtain ⟨L, rfl⟩ : ∃ L : Nat, most = L := ⟨most.toNat, by have := hf.1.2.1; omega⟩
    have HL := hide (lengths_yes U a cap ls L w hA hf)
    have hL1 := hf.1.2.1
    have hL15 := hf.1.2.2.1
    have h320 := hf.1.1
    have HFT := hide hf
    clear hf hA hB
    by_cases hlen : G.length = ls.length
    · have HLEN := hide hlen
      rw [hlen]
      have hrm : ∀ W, Below w.heap.size w W → Calls Try.prog 13 #[.slice a ls.length cap, .slice b ls.length cap', .int .i64 L] W (RoomSays ls G L W) := fun W hW => room_c 0 U 0 U a b cap cap' ls G L W (HA.out.stay hW) (HG2.out.stay hW) hlen HFT.out.1.2.2.2 h320 (by omega)
      have HRM := hide hrm
      clear hrm hlen
      have hwp := wrap_pow (show L ≤ 62 by omega)
      go_enter Try.func5, Try.ntmps5
      go_upto_region 5 with (first
        | (go_at_call 9; refine HL.out.mono ?_; rintro e w1 ⟨gl, F, rfl, k1, k2, k3, k4⟩; have HG := hide k1; have HR := hide k2; have HGD := hide k3; have HB := hide k4; clear k1 k2 k3 k4)
        | (go_at_call 13; refine (HRM.out _ HB.out).mono ?_; rintro e w2 ⟨R, rfl, rfl, k⟩; have HK := hide k; clear k))
      by_cases hR0 : R < 0
      · go_wp2_with (go_at_call 11; refine (alive_any _).mono ?_; rintro e w5 ⟨rfl, b3⟩; have BA := hide (HB.out.trans (b3.mono HB.out.size)); clear b3)
        go_ret
        exact ⟨rfl, BA.out⟩
      · obtain ⟨hv, hR⟩ := HK.out.resolve_left (by omega)
        by_cases hR1 : (2 : Int) ^ L < R
        · clear hR
          go_wp2_with (go_at_call 11; refine (alive_any _).mono ?_; rintro e w5 ⟨rfl, b3⟩; have BA := hide (HB.out.trans (b3.mono HB.out.size)); clear b3)
          go_ret
          exact ⟨rfl, BA.out⟩
        · have hcmp : (cst (zOf ls F (occ ls ls.length)) : Int) ≤ (cst (zOf ls G (occ ls ls.length)) : Int) := by
            have hk : krf L (zOf ls G (occ ls ls.length)) ≤ 2 ^ L := by
              have e : ((2 ^ L : Nat) : Int) = (2 : Int) ^ L := by simp
              omega
            have := cst_least HGD.out hv hk
            omega
          have hcF : ∀ W, Below w2.heap.size w2 W → Calls Try.prog 14 #[.slice a ls.length cap, .slice (some ⟨gl, 0, none⟩) ls.length ls.length] W fun e w' => e = .returned (.int .i64 ((cst (zOf ls F (occ ls ls.length)) : Nat) : Int)) ∧ ∃ q, w' = W.drewN q := by
            intro W hW
            have hI := HR.out.ints (lo := 0) (hi := gl + 1) (Nat.zero_le _) (by omega)
            have := cost_c 0 U 0 (gl + 1) a (some ⟨gl, 0, none⟩) cap ls.length ls F W (HA.out.stay (HB.out.trans (hW.mono HB.out.size))) (hI.stay hW) hla
            rw [HGD.out.cost HFT.out.1, HGD.out.len] at this
            exact this
          have hcG : ∀ W, Below w2.heap.size w2 W → Calls Try.prog 14 #[.slice a ls.length cap, .slice b ls.length cap'] W fun e w' => e = .returned (.int .i64 ((cst (zOf ls G (occ ls ls.length)) : Nat) : Int)) ∧ ∃ q, w' = W.drewN q := by
            intro W hW
            have hBW := HB.out.trans (hW.mono HB.out.size)
            have := cost_c 0 U 0 U a b cap cap' ls G W (HA.out.stay hBW) (HG2.out.stay hBW) hla
            rw [HLEN.out, Nat.min_self, cw_cst HFT.out.1.2.2.2 hv (by omega) h320] at this
            exact this
          have HCF := hide hcF
          have HCG := hide hcG
          clear hcF hcG hv hR
          generalize ((cst (zOf ls F (occ ls ls.length)) : Nat) : Int) = CF at hcmp HCF
          generalize ((cst (zOf ls G (occ ls ls.length)) : Nat) : Int) = CG at hcmp HCG
          go_wp2_with (first
            | (go_at_call 11; refine (alive_any _).mono ?_; rintro e w5 ⟨rfl, b3⟩; have B5 := hide b3; have BA := hide (HB.out.trans (b3.mono HB.out.size)); clear b3)
            | (go_at_call 14; refine (HCG.out w5 B5.out).mono ?_; rintro e w6 ⟨rfl, q6, rfl⟩; have B6 := hide (below_drewN B5.out q6); clear B5)
            | (go_at_call 14; refine (HCF.out (w5.drewN q6) B6.out).mono ?_; rintro e w7 ⟨rfl, q7, rfl⟩))
          go_ret
          exact ⟨by simp, below_drewN BA.out _⟩
    · have hl1 : ((G.length : Int) != (ls.length : Int)) = true := by simp; omega
      have hl2 : ¬ (G.length : Int) = (ls.length : Int) := by omega
      clear hlen
      go_enter Try.func5, Try.ntmps5
      go_wp2_with (first
        | (go_at_call 9; refine HL.out.mono ?_; rintro e w1 ⟨gl, F, rfl, k1, k2, k3, k4⟩; have HB := hide k4; clear k1 k2 k3 k4)
        | (go_at_call 11; refine (alive_any _).mono ?_; rintro e w3 ⟨rfl, b3⟩; have BA := hide (HB.out.trans (b3.mono HB.out.size)); clear b3))
      go_ret
      exact ⟨rfl, BA.out⟩
  · have HL := hide (lengths_no U a cap ls most w hA hf)
    clear hf hA hB
    go_enter Try.func5, Try.ntmps5
    go_wp2_with (first
      | (go_at_call 9; refine HL.out.mono ?_; rintro e w1 ⟨rfl, k4⟩; have HB := hide k4; clear k4)
      | (go_at_call 11; refine (alive_any _).mono ?_; rintro e w3 ⟨rfl, b3⟩; have BA := hide (HB.out.trans (b3.mono HB.out.size)); clear b3))
    go_ret
    exact ⟨rfl, BA.out⟩
#print axioms below_walk
end Go.Proofs.Ytdeigchkpakdaaa
