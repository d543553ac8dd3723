/- The law on longer lengths: walked. -/
import Derived.Test.YtdeigchkpakdaaaLWalks
namespace Go.Proofs.Ytdeigchkpakdaaa
open Go Go.RowKit

/-- Whatever Lengths is asked it tells something. -/
def LensAny (w : World) (e : Ending) (w' : World) : Prop := ∃ v b, e = .returned (.tuple #[v, .bool b]) ∧ Below w.heap.size w w'
theorem lengths_any (B : Nat) (a : Option Addr) (cap : Nat) (ls : List Int) (most : Int) (w : World) (hI : Ints 0 B w a ls) :
    Calls Try.prog 9 #[.slice a ls.length cap, .int .i64 most] w (LensAny w) := by
  by_cases hf : FitsP ls most
  · obtain ⟨L, rfl⟩ : ∃ L : Nat, most = L := ⟨most.toNat, by have := hf.1.2.1; omega⟩
    refine (lengths_yes B a cap ls L w hI hf).mono ?_
    rintro e w' ⟨gl, F, rfl, _, _, _, h⟩
    exact ⟨_, _, rfl, h⟩
  · refine (lengths_no B a cap ls most w hI hf).mono ?_
    rintro e w' ⟨rfl, h⟩
    exact ⟨_, _, rfl, h⟩
theorem cst_wider {ls F G : List Int} {L m : Nat} (h : LGoodR ls L F) (k : LGoodR ls (L + m) G) : cst (zOf ls G (occ ls ls.length)) ≤ cst (zOf ls F (occ ls ls.length)) := by
  by_cases h0 : nocc ls = 0
  · rw [List.eq_nil_of_length_eq_zero (show (occ ls ls.length).length = 0 from h0)]; exact Nat.le_refl _
  · by_cases h1 : nocc ls = 1
    · obtain ⟨x, hx⟩ := List.length_eq_one_iff.1 (show (occ ls ls.length).length = 1 from h1)
      have hm : x ∈ occ ls ls.length := by rw [hx]; simp
      obtain ⟨i, rfl, hi, h0⟩ := (occ_mem ls ls.length x).1 hm
      have e := h.one h1 i hi h0
      have e' := k.one h1 i hi h0
      rw [hx]
      simp [zOf, cst, keyOf, e, e']
    · have h2 : 2 ≤ (occ ls ls.length).length := by have : nocc ls = (occ ls ls.length).length := rfl; omega
      exact (h.best h2).wider (k.best h2) (by rw [zOf_fst, zOf_fst])
theorem fits_wider {ls : List Int} {L m : Nat} (h : FitsP ls L) (hm : L + m ≤ 15) : FitsP ls ((L + m : Nat) : Int) := by
  obtain ⟨⟨h1, h2, h3, h4⟩, h5⟩ := h
  refine ⟨⟨h1, by omega, by omega, h4⟩, ?_⟩
  rw [Int.toNat_natCast] at h5 ⊢
  exact Nat.le_trans h5 (Nat.pow_le_pow_right (by decide) (by omega))

set_option maxHeartbeats 2000000 in
set_option maxRecDepth 100000 in
theorem wider_walk (U : Nat) (a : Option Addr) (cap : Nat) (ls : List Int) (most more : Int) (w : World) (hA : Ints 0 U w a ls) (hla : ls.length ≤ 17592186043904) :
    Calls Try.prog 8 #[.slice a ls.length cap, .int .i64 most, .int .i64 more] w (Yes w) := by
  have HA := hide hA
  clear hA
  by_cases c0 : more < 0
  · go_enter Try.func8, Try.ntmps8
    go_wp2_with (go_at_call 11; refine (alive_any _).mono ?_; rintro e w5 ⟨rfl, b3⟩; have BA := hide b3; clear b3)
    go_ret
    exact ⟨rfl, BA.out⟩
  · by_cases c1 : 15 < more
    · go_enter Try.func8, Try.ntmps8
      go_wp2_with (go_at_call 11; refine (alive_any _).mono ?_; rintro e w5 ⟨rfl, b3⟩; have BA := hide b3; clear b3)
      go_ret
      exact ⟨rfl, BA.out⟩
    · by_cases c2 : 15 - more < most
      · go_enter Try.func8, Try.ntmps8
        go_wp2_with (go_at_call 11; refine (alive_any _).mono ?_; rintro e w5 ⟨rfl, b3⟩; have BA := hide b3; clear b3)
        go_ret
        exact ⟨rfl, BA.out⟩
      · obtain ⟨m, rfl⟩ : ∃ m : Nat, more = m := ⟨more.toNat, by omega⟩
        by_cases hf : FitsP ls most
        · obtain ⟨L, rfl⟩ : ∃ L : Nat, most = L := ⟨most.toNat, by have := hf.1.2.1; omega⟩
          have HL := hide (lengths_yes U a cap ls L w HA.out hf)
          have hf2 := fits_wider hf (show L + m ≤ 15 by omega)
          have HL2 : Hid (∀ W, Below w.heap.size w W → Calls Try.prog 9 #[.slice a ls.length cap, .int .i64 ((L : Int) + (m : Int))] W (LensYes ls (L + m) W)) := fun W hW => by
            have := lengths_yes U a cap ls (L + m) W (HA.out.stay hW) hf2
            rw [show (((L + m : Nat)) : Int) = (L : Int) + (m : Int) by simp] at this
            exact this
          have HFT := hide hf
          have HFT2 := hide hf2
          clear hf hf2
          go_enter Try.func8, Try.ntmps8
          go_upto_region 5 with (first
            | (go_at_call 9; refine HL.out.mono ?_; rintro e w1 ⟨gl, F, rfl, k1, k2, k3, k4⟩; have HR := hide k2; have HGD := hide k3; have HB := hide k4; have HSZ := hide k2.lt; clear k1 k2 k3 k4 HL)
            | (go_at_call 9; refine (HL2.out w1 HB.out).mono ?_; rintro e w2 ⟨gk, G, rfl, k1, k2, k3, k4⟩; have HR2 := hide k2; have HGD2 := hide k3; have HB2 := hide k4; clear k1 k2 k3 k4))
          have hBW : Below w.heap.size w w2 := HB.out.trans (HB2.out.mono HB.out.size)
          have hcmp : (cst (zOf ls G (occ ls ls.length)) : Int) ≤ (cst (zOf ls F (occ ls ls.length)) : Int) := by
            have := cst_wider HGD.out HGD2.out
            omega
          have hcF : ∀ W, Below w2.heap.size w2 W → Calls Try.prog 14 #[.slice a ls.length cap, .slice (some ⟨gl, 0, none⟩) ls.length ls.length] W fun e w' => e = .returned (.int .i64 ((cst (zOf ls F (occ ls ls.length)) : Nat) : Int)) ∧ ∃ q, w' = W.drewN q := by
            intro W hW
            have hI := (HR.out.ints (lo := 0) (hi := gl + 1) (Nat.zero_le _) (by omega)).stay HB2.out
            have := cost_c 0 U 0 (gl + 1) a (some ⟨gl, 0, none⟩) cap ls.length ls F W (HA.out.stay (hBW.trans (hW.mono hBW.size))) (hI.stay hW) hla
            rw [HGD.out.cost HFT.out.1, HGD.out.len] at this
            exact this
          have hcG : ∀ W, Below w2.heap.size w2 W → Calls Try.prog 14 #[.slice a ls.length cap, .slice (some ⟨gk, 0, none⟩) ls.length ls.length] W fun e w' => e = .returned (.int .i64 ((cst (zOf ls G (occ ls ls.length)) : Nat) : Int)) ∧ ∃ q, w' = W.drewN q := by
            intro W hW
            have hI := HR2.out.ints (lo := 0) (hi := gk + 1) (Nat.zero_le _) (by omega)
            have := cost_c 0 U 0 (gk + 1) a (some ⟨gk, 0, none⟩) cap ls.length ls G W (HA.out.stay (hBW.trans (hW.mono hBW.size))) (hI.stay hW) hla
            rw [HGD2.out.cost HFT2.out.1, HGD2.out.len] at this
            exact this
          have HCF := hide hcF
          have HCG := hide hcG
          have HBW := hide hBW
          clear hcF hcG hBW
          generalize ((cst (zOf ls F (occ ls ls.length)) : Nat) : Int) = CF at hcmp HCF
          generalize ((cst (zOf ls G (occ ls ls.length)) : Nat) : Int) = CG at hcmp HCG
          go_wp2_with (first
            | (go_at_call 11; refine (alive_any _).mono ?_; rintro e w5 ⟨rfl, b3⟩; have B5 := hide b3; have BA := hide (HBW.out.trans (b3.mono HBW.out.size)); clear b3)
            | (go_at_call 14; refine (HCG.out w5 B5.out).mono ?_; rintro e w6 ⟨rfl, q6, rfl⟩; have B6 := hide (below_drewN B5.out q6); clear B5)
            | (go_at_call 14; refine (HCF.out (w5.drewN q6) B6.out).mono ?_; rintro e w7 ⟨rfl, q7, rfl⟩))
          go_ret
          exact ⟨by simp, below_drewN BA.out _⟩
        · have HL := hide (lengths_no U a cap ls most w HA.out hf)
          have HL2 : Hid (∀ W M, Below w.heap.size w W → Calls Try.prog 9 #[.slice a ls.length cap, .int .i64 M] W (LensAny W)) := fun W M hW => lengths_any U a cap ls M W (HA.out.stay hW)
          clear hf
          go_enter Try.func8, Try.ntmps8
          go_wp2_with (first
            | (go_at_call 9; refine HL.out.mono ?_; rintro e w1 ⟨rfl, k4⟩; have HB := hide k4; clear k4 HL)
            | (go_at_call 9; refine (HL2.out w1 _ HB.out).mono ?_; rintro e w2 ⟨v2, b2, rfl, k4⟩; have HB2 := hide (HB.out.trans (k4.mono HB.out.size)); clear k4)
            | (go_at_call 11; refine (alive_any _).mono ?_; rintro e w5 ⟨rfl, b3⟩; have BA := hide (HB2.out.trans (b3.mono HB2.out.size)); clear b3))
          go_ret
          exact ⟨rfl, BA.out⟩
#print axioms wider_walk
end Go.Proofs.Ytdeigchkpakdaaa
