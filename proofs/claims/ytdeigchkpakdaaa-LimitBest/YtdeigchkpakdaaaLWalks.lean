/- The laws on Cost, on what is found, on other lengths, on longer ones: walked. -/
import Derived.Test.YtdeigchkpakdaaaLLaw
namespace Go.Proofs.Ytdeigchkpakdaaa
open Go Go.RowKit

theorem fits_yes (lo hi : Nat) (a : Option Addr) (cap : Nat) (ls : List Int) (most : Int) (w : World) (hI : Ints lo hi w a ls) (h : FitsP ls most) :
    Calls Try.prog 10 #[.slice a ls.length cap, .int .i64 most] w fun e w' => e = .returned (.bool true) ∧ w' = w := by
  refine (fits_c lo hi a cap ls most w hI).mono ?_
  rintro e w' ⟨b, rfl, hb, rfl⟩
  rw [hb.2 h]; exact ⟨rfl, rfl⟩
theorem fits_no (lo hi : Nat) (a : Option Addr) (cap : Nat) (ls : List Int) (most : Int) (w : World) (hI : Ints lo hi w a ls) (h : ¬ FitsP ls most) :
    Calls Try.prog 10 #[.slice a ls.length cap, .int .i64 most] w fun e w' => e = .returned (.bool false) ∧ w' = w := by
  refine (fits_c lo hi a cap ls most w hI).mono ?_
  rintro e w' ⟨b, rfl, hb, rfl⟩
  cases b with
  | true => exact absurd (hb.1 rfl) h
  | false => exact ⟨rfl, rfl⟩
/-- The law answers true, and keeps what was there. -/
def Yes (w : World) (e : Ending) (w' : World) : Prop := e = .returned (.bool true) ∧ Below w.heap.size w w'
theorem below_drewN {B : Nat} {w w' : World} (h : Below B w w') (q : Nat) : Below B w (w'.drewN q) := ⟨h.os, h.tape, h.output, h.size, h.block⟩

theorem cw_stop (A B : List Int) (i : Nat) (h : B.length ≤ i) : cw A B (min i B.length) = cw A B (min (i + 1) B.length) := by rw [Nat.min_eq_right h, Nat.min_eq_right (by omega)]

set_option maxHeartbeats 1000000 in
set_option maxRecDepth 100000 in
theorem costs_walk (U : Nat) (a b : Option Addr) (cap cap' : Nat) (A B : List Int) (w : World) (hA : Ints 0 U w a A) (hB : Ints 0 U w b B) (hla : A.length ≤ 17592186043904) (hlb : B.length ≤ 17592186043904) :
    Calls Try.prog 7 #[.slice a A.length cap, .slice b B.length cap'] w (Yes w) := by
  have HA := hide hA
  have HB := hide hB
  clear hA hB
  go_enter Try.func7, Try.ntmps7
  go_wp2_with fail
  go_loopg [5, 9] A.length (fun gk v5 v9 wx => ∃ i q : Nat, i + gk = A.length ∧ v9 = .int .i64 i ∧ v5 = .int .i64 (cw A B (min i B.length)) ∧ wx = w.drewN q)
  case atStart => exact ⟨0, 0, by omega, rfl, by simp [cw], rfl⟩
  case round =>
    obtain ⟨i, q, hig, rfl, rfl, rfl⟩ := hrel
    cases gk with
    | zero =>
      obtain rfl : i = A.length := by omega
      have HC : Hid (∀ W, Below w.heap.size w W → Calls Try.prog 14 #[.slice a A.length cap, .slice b B.length cap'] W fun e w' => e = .returned (.int .i64 (cw A B (min A.length B.length))) ∧ ∃ q, w' = W.drewN q) := fun W hW => cost_c 0 U 0 U a b cap cap' A B W (HA.out.stay hW) (HB.out.stay hW) hla
      generalize cw A B (min A.length B.length) = C at HC ⊢
      go_wp2_with (first
        | (go_at_call 11; refine (alive_any _).mono ?_; rintro e w1 ⟨rfl, b1⟩; have BA : Hid (Below w.heap.size w w1) := (show Below w.heap.size w (w.drewN q) from below_drewN (Below.refl _ _) q).trans b1; clear b1)
        | (go_at_call 14; refine (HC.out _ BA.out).mono ?_; rintro e w2 ⟨rfl, q2, rfl⟩))
      go_ret
      exact ⟨by simp, below_drewN BA.out _⟩
    | succ g1 =>
      have hlt : (i : Int) < (A.length : Int) := by omega
      obtain ⟨ba, oa, _, _, hba, rfl, hca⟩ := HA.out.resolve_left (by omega)
      by_cases hiB : i < B.length
      · have hiB' : (i : Int) < (B.length : Int) := by omega
        obtain ⟨bb, ob, _, _, hbb, rfl, hcb⟩ := HB.out.resolve_left (by omega)
        have ca : (w.drewN q).cell? ⟨ba, oa + i, none⟩ = some (.int .i64 (ln A i)) := hca i (by omega)
        have cb : (w.drewN q).cell? ⟨bb, ob + i, none⟩ = some (.int .i64 (ln B i)) := hcb i (by omega)
        have hcw : cw A B (min (i + 1) B.length) = wrap64 (cw A B (min i B.length) + wrap64 (ln A i * ln B i)) := by rw [Nat.min_eq_left (by omega), Nat.min_eq_left (by omega)]; rfl
        have HCW := hide hcw
        have bd := cw_bd A B (min i B.length)
        clear hca hcb hcw
        generalize ln A i = X at ca HCW
        generalize ln B i = Y at cb HCW
        generalize cw A B (min i B.length) = C at HCW bd ⊢
        generalize hwq : w.drewN q = wq at ca cb ⊢
        have HWQ := hide hwq
        clear hwq
        go_wp2_with fail
        go_region
        go_wp2_with fail
        go_roundg g1
        case measure => omega
        case rel => exact ⟨i + 1, q + 1, by omega, by go_num, by rw [HCW.out], by rw [← HWQ.out]; rfl⟩
      · have hiB' : ¬ (i : Int) < (B.length : Int) := by omega
        have HCW := hide (cw_stop A B i (by omega))
        clear hca
        go_wp2_with fail
        go_roundg g1
        case measure => omega
        case rel => exact ⟨i + 1, q, by omega, by go_num, by rw [HCW.out], rfl⟩
#print axioms costs_walk

/-- What there is to be said of the room. -/
theorem room_of {ls F : List Int} {L : Nat} (h : LGoodR ls L F) : (nocc ls = 0 → krf L (zOf ls F (occ ls ls.length)) = 0) ∧ (nocc ls = 1 → krf L (zOf ls F (occ ls ls.length)) = 2 ^ (L - 1)) ∧ (2 ≤ nocc ls → krf L (zOf ls F (occ ls ls.length)) = 2 ^ L) := by
  refine ⟨fun h0 => ?_, fun h1 => ?_, fun h2 => ?_⟩
  · rw [List.eq_nil_of_length_eq_zero (show (occ ls ls.length).length = 0 from h0)]; rfl
  · obtain ⟨x, hx⟩ := List.length_eq_one_iff.1 (show (occ ls ls.length).length = 1 from h1)
    have hm : x ∈ occ ls ls.length := by rw [hx]; simp
    obtain ⟨i, rfl, hi, h0⟩ := (occ_mem ls ls.length x).1 hm
    have := h.one h1 i hi h0
    rw [hx]
    simp [zOf, krf, keyOf, this]
  · have hb := h.best h2
    refine hb.full (by rw [zOf, List.length_map]; exact h2) ?_
    intro z hz
    obtain ⟨x, hx, rfl⟩ := List.mem_map.1 hz
    obtain ⟨i, rfl, hi, h0⟩ := (occ_mem ls ls.length x).1 hx
    simp only [keyOf, Int.toNat_natCast]
    omega

/-- No other lengths that may be cost less. -/
theorem cst_least {ls F G : List Int} {L : Nat} (h : LGoodR ls L F) (hv : Valid ls G L ls.length) (hk : krf L (zOf ls G (occ ls ls.length)) ≤ 2 ^ L) : cst (zOf ls F (occ ls ls.length)) ≤ cst (zOf ls G (occ ls ls.length)) := by
  by_cases h0 : nocc ls = 0
  · rw [List.eq_nil_of_length_eq_zero (show (occ ls ls.length).length = 0 from h0)]; exact Nat.le_refl _
  · have hlens : ∀ z ∈ zOf ls G (occ ls ls.length), 1 ≤ z.2 ∧ z.2 ≤ L := by
      intro z hz
      obtain ⟨x, hx, rfl⟩ := List.mem_map.1 hz
      obtain ⟨i, rfl, hi, h0⟩ := (occ_mem ls ls.length x).1 hx
      have := hv i hi
      simp only [keyOf, Int.toNat_natCast]
      omega
    by_cases h1 : nocc ls = 1
    · obtain ⟨x, hx⟩ := List.length_eq_one_iff.1 (show (occ ls ls.length).length = 1 from h1)
      have hm : x ∈ occ ls ls.length := by rw [hx]; simp
      obtain ⟨i, rfl, hi, h0⟩ := (occ_mem ls ls.length x).1 hm
      have e := h.one h1 i hi h0
      have hg := hlens ((ln ls i).toNat, (ln G i).toNat) (List.mem_map.2 ⟨(i : Int), hm, by simp [keyOf]⟩)
      rw [hx]
      simp only [zOf, cst, keyOf, List.map_cons, List.map_nil, List.sum_cons, List.sum_nil, Int.toNat_natCast, e]
      exact Nat.mul_le_mul_left _ (by simpa using hg.1)
    · exact (h.best (by have : nocc ls = (occ ls ls.length).length := rfl; omega)).least ⟨hlens, hk⟩ (by rw [zOf_fst, zOf_fst])

set_option maxHeartbeats 2000000 in
set_option maxRecDepth 100000 in
theorem finds_walk (U : Nat) (a : Option Addr) (cap : Nat) (ls : List Int) (most : Int) (w : World) (hA : Ints 0 U w a ls) :
    Calls Try.prog 3 #[.slice a ls.length cap, .int .i64 most] w (Yes w) := by
  have HA := hide hA
  by_cases hf : FitsP ls most
  · obtain ⟨L, rfl⟩ : ∃ L : Nat, most = L := ⟨most.toNat, by have := hf.1.2.1; omega⟩
    have HL := hide (lengths_yes U a cap ls L w hA hf)
    have hL1 := hf.1.2.1
    have hL15 := hf.1.2.2.1
    have h320 := hf.1.1
    have HF : Hid (∀ W, Below w.heap.size w W → Calls Try.prog 10 #[.slice a ls.length cap, .int .i64 L] W fun e w' => e = .returned (.bool true) ∧ w' = W) := fun W hW => fits_yes 0 U a cap ls L W (HA.out.stay hW) hf
    have HO : Hid (∀ W, Below w.heap.size w W → Calls Try.prog 12 #[.slice a ls.length cap] W fun e w' => e = .returned (.int .i64 (nocc ls : Int)) ∧ w' = W) := fun W hW => occur_c 0 U a cap ls W (HA.out.stay hW) h320
    have HFT := hide hf
    clear hf hA
    go_enter Try.func3, Try.ntmps3
    go_upto_region 9 with (first
      | (go_at_call 9; refine HL.out.mono ?_; rintro e w1 ⟨gl, F, rfl, k1, k2, k3, k4⟩; have HG := hide k1; have HR := hide k2; have HGD := hide k3; have HB := hide k4; clear k1 k2 k3 k4)
      | (go_at_call 10; refine (HF.out _ HB.out).mono ?_; rintro e w2 ⟨rfl, rfl⟩)
      | (go_at_call 12; refine (HO.out _ HB.out).mono ?_; rintro e w3 ⟨rfl, rfl⟩))
    have hv := HGD.out.valid HFT.out.1.2.2.2 (by omega)
    have hrm : Calls Try.prog 13 #[.slice a ls.length cap, .slice (some ⟨gl, 0, none⟩) ls.length ls.length, .int .i64 L] w3 fun e w' => e = .returned (.int .i64 ((krf L (zOf ls F (occ ls ls.length)) : Nat) : Int)) ∧ w' = w3 := by
      refine (room_c 0 U 0 (gl + 1) a (some ⟨gl, 0, none⟩) cap ls.length ls F L w3 (HA.out.stay HB.out) (HR.out.ints (Nat.zero_le _) (by omega)) HGD.out.len HFT.out.1.2.2.2 h320 (by omega)).mono ?_
      rintro e w' ⟨R, rfl, rfl, h | h⟩
      · exact absurd hv h.2
      · rw [h.2]; exact ⟨rfl, rfl⟩
    have HRM := hide hrm
    obtain ⟨r0, r1, r2⟩ := room_of HGD.out
    clear hrm hv
    by_cases n0 : nocc ls = 0
    · have e := r0 n0
      rw [e] at HRM
      rw [n0]
      clear r0 r1 r2 e n0
      go_wp2_with (first
        | (go_at_call 13; refine HRM.out.mono ?_; rintro e w4 ⟨rfl, rfl⟩)
        | (go_at_call 11; refine (alive_any _).mono ?_; rintro e w5 ⟨rfl, b3⟩; have BA := hide (HB.out.trans (b3.mono HB.out.size)); clear b3))
      go_ret
      exact ⟨rfl, BA.out⟩
    · by_cases n1 : nocc ls = 1
      · have e := r1 n1
        rw [e] at HRM
        rw [n1]
        obtain ⟨D, hD⟩ : ∃ D : Nat, (L : Int) - 1 = (D : Int) := ⟨L - 1, by omega⟩
        rw [show L - 1 = D by omega] at HRM
        have hwp := wrap_pow (show D ≤ 62 by omega)
        have hcast : ((2 ^ D : Nat) : Int) = (2 : Int) ^ D := by simp
        rw [hcast] at HRM
        clear r0 r1 r2 e n1 n0 hcast
        go_wp2_with (first
          | (go_at_call 13; refine HRM.out.mono ?_; rintro e w4 ⟨rfl, rfl⟩)
          | (go_at_call 11; refine (alive_any _).mono ?_; rintro e w5 ⟨rfl, b3⟩; have BA := hide (HB.out.trans (b3.mono HB.out.size)); clear b3))
        go_ret
        exact ⟨by simp, BA.out⟩
      · have e := r2 (by omega)
        rw [e] at HRM
        have hcast : ((2 ^ L : Nat) : Int) = (2 : Int) ^ L := by simp
        rw [hcast] at HRM
        have hwp := wrap_pow (show L ≤ 62 by omega)
        have g0 : ((nocc ls : Int) == 0) = false := by simp; omega
        have g1 : ((nocc ls : Int) == 1) = false := by simp; omega
        have g2 : (1 : Int) < (nocc ls : Int) := by omega
        have g3 : ¬ (nocc ls : Int) = 0 := by omega
        have g4 : ¬ (nocc ls : Int) = 1 := by omega
        clear r0 r1 r2 e n1 n0 hcast
        go_wp2_with (first
          | (go_at_call 13; refine HRM.out.mono ?_; rintro e w4 ⟨rfl, rfl⟩)
          | (go_at_call 11; refine (alive_any _).mono ?_; rintro e w5 ⟨rfl, b3⟩; have BA := hide (HB.out.trans (b3.mono HB.out.size)); clear b3))
        go_ret
        exact ⟨by simp, BA.out⟩
  · have HL := hide (lengths_no U a cap ls most w hA hf)
    have HF : Hid (∀ W, Below w.heap.size w W → Calls Try.prog 10 #[.slice a ls.length cap, .int .i64 most] W fun e w' => e = .returned (.bool false) ∧ w' = W) := fun W hW => fits_no 0 U a cap ls most W (HA.out.stay hW) hf
    clear hf hA
    go_enter Try.func3, Try.ntmps3
    go_wp2_with (first
      | (go_at_call 9; refine HL.out.mono ?_; rintro e w1 ⟨rfl, k4⟩; have HB := hide k4; clear k4)
      | (go_at_call 10; refine (HF.out _ HB.out).mono ?_; rintro e w2 ⟨rfl, rfl⟩)
      | (go_at_call 11; refine (alive_any _).mono ?_; rintro e w3 ⟨rfl, b3⟩; have BA := hide (HB.out.trans (b3.mono HB.out.size)); clear b3))
    go_ret
    exact ⟨rfl, BA.out⟩
#print axioms finds_walk

end Go.Proofs.Ytdeigchkpakdaaa
