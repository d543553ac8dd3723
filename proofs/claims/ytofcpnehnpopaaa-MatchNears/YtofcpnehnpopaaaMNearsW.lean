/- The law on places side by side: walked. -/
import Derived.Test.YtofcpnehnpopaaaMNears
namespace Go.Proofs.Ytofcpnehnpopaaa
set_option maxRecDepth 100000
open Go Go.RowKit

theorem near_drew (a : Option Addr) (cap : Nat) (zs : List Int) (p : Nat) (w : World) (h : Bys w a zs) (hl : zs.length ≤ 1000000000) (hp : p < zs.length) (q : Nat) (β : Bool) (hβ : β = true ↔ Nr zs p) :
    Calls Try.prog 16 #[.slice a zs.length cap, .int .i64 (p : Int)] (w.drewN q) fun e w' => e = .returned (.bool β) ∧ ∃ q', w' = w.drewN q' :=
  (near_c a cap zs p (w.drewN q) (h.drewN q) hl hp).mono fun e w' ⟨β', he, hb, q', hw⟩ => ⟨by
    rw [he]
    have : β' = β := by
      cases β <;> cases β' <;> simp_all
    rw [this], q + q', by rw [hw, World.drewN_drewN]⟩

set_option maxHeartbeats 8000000 in
theorem nears_walk (a : Option Addr) (cap : Nat) (zs : List Int) (lv : Int) (w : World) (h : BIn w a cap zs) :
    Calls Try.prog 6 #[.slice a zs.length cap, .int .i64 lv] w (Yes w) := by
  by_cases hl : 3000 < zs.length
  case pos =>
    have hl' : (3000 : Int) < (zs.length : Int) := by omega
    clear h hl
    go_enter Try.func6, Try.ntmps6
    go_wp2_with (go_at_call 9; refine (alive_c _).mono ?_; rintro e w1 ⟨rfl, b1⟩)
    go_ret
    exact ⟨rfl, b1⟩
  have hl' : ¬ (3000 : Int) < (zs.length : Int) := by omega
  by_cases hlv : lv < 1
  case pos =>
    clear h
    go_enter Try.func6, Try.ntmps6
    go_wp2_with (go_at_call 9; refine (alive_c _).mono ?_; rintro e w1 ⟨rfl, b1⟩)
    go_ret
    exact ⟨rfl, b1⟩
  have HT := hide h.by_
  have HF := hide ((find_c a cap zs lv w h.by_ (by omega) h.cap_ h.most).mono fun _ _ k => k.all h.by_.rng)
  clear h
  have HAL : Hid (∀ (a1 : Option Addr) (c1 : Nat) (xs : List Tk) (w1 : World), Toks w1 a1 xs → FdTo zs zs.length xs → Calls Try.prog 15 #[.slice a1 xs.length c1] w1 fun e w' => ∃ o oc, e = .returned (.slice o zs.length oc) ∧ OSt w1 w' (.slice o zs.length oc) (alo xs)) := fun a1 c1 xs w1 h1 h2 => by
    have := alones_c a1 c1 xs w1 h1 (by have := h2.many; omega) h2.rt
    rw [h2.alen] at this
    exact this
  go_enter Try.func6, Try.ntmps6
  go_wp2_with (first
    | (go_at_call 14; refine HF.out.mono ?_; rintro e w1 ⟨a1, c1, xs, rfl, k1, k2, _, _, _, _, k7, _⟩; have T1 := hide k1; have B1 := hide k2; have F1 := hide (k7 (by omega)); clear k1 k2 k7 HF)
    | (go_at_call 15; refine (HAL.out a1 c1 xs w1 T1.out F1.out).mono ?_; rintro e w2 ⟨o2, c2, rfl, k2⟩; have B2 := hide (B1.out.trans (k2.2.mono B1.out.size)); have O2 := hide k2.1; clear k2 T1))
  have HNR := hide F1.out.near
  have HLN := hide F1.out.alen
  clear F1 HAL
  generalize alo xs = A at O2 HNR HLN
  have HT2 := hide (HT.out.stay B2.out)
  clear HT
  go_loopg [7] zs.length (fun gk v7 wx => ∃ i q : Nat, i + gk = zs.length ∧ v7 = .int .i64 i ∧ wx = w2.drewN q)
  case atStart => exact ⟨0, 0, by omega, rfl, rfl⟩
  case round =>
    obtain ⟨i, q, hig, rfl, rfl⟩ := hrel
    by_cases hlt : i + 1 < zs.length
    case neg =>
      have hge : ¬ (i : Int) + 1 < (zs.length : Int) := by omega
      have B3 : Hid (Below w.heap.size w (w2.drewN q)) := ⟨B2.out.os, B2.out.tape, B2.out.output, B2.out.size, B2.out.block⟩
      go_wp2_with (go_at_call 9; refine (alive_c _).mono ?_; rintro e w4 ⟨rfl, b4⟩)
      go_ret
      exact ⟨rfl, B3.out.trans (b4.mono B3.out.size)⟩
    cases gk with
    | zero => omega
    | succ g1 =>
    have hlt' : (i : Int) + 1 < (zs.length : Int) := by omega
    obtain ⟨g, rfl, hgl, hca⟩ := by
      have := O2.out
      rw [← HLN.out] at this
      exact this.at_.resolve_left (by rw [HLN.out]; omega)
    have d0 : (w2.drewN q).cell? ⟨g, i, none⟩ = some (.bool (al A i)) := hca i (by rw [HLN.out]; omega)
    have d1 : (w2.drewN q).cell? ⟨g, i + 1, none⟩ = some (.bool (al A (i + 1))) := hca (i + 1) (by rw [HLN.out]; omega)
    have hnr := HNR.out i (by omega)
    clear hca
    obtain ⟨β0, hβ0⟩ : ∃ β : Bool, (β = true ↔ Nr zs i) := by
      by_cases h : Nr zs i
      · exact ⟨true, fun _ => h, fun _ => rfl⟩
      · exact ⟨false, fun e => (by cases e), fun e => absurd e h⟩
    have HA0 : Hid (∀ q, Calls Try.prog 16 #[.slice a zs.length cap, .int .i64 (i : Int)] (w2.drewN q) fun e w' => e = .returned (.bool β0) ∧ ∃ q', w' = w2.drewN q') := fun q => near_drew a cap zs i w2 HT2.out (by omega) (by omega) q β0 hβ0
    have hno : al A i = true → al A (i + 1) = true → β0 = false := fun h1 h2 => by
      cases β0 with
      | false => rfl
      | true =>
        rcases hnr h1 with h3 | ⟨_, h3⟩
        · exact absurd (hβ0.1 rfl) h3
        · rw [h2] at h3; cases h3
    clear hnr hβ0
    generalize al A i = p0 at d0 hno
    generalize al A (i + 1) = p1 at d1 hno
    cases p0 with
    | false =>
      clear hno
      go_wp2_with fail
      go_roundg g1
      case measure => omega
      case rel => exact ⟨i + 1, q, by omega, by go_num, rfl⟩
    | true =>
      cases p1 with
      | false =>
        clear hno
        go_wp2_with fail
        go_roundg g1
        case measure => omega
        case rel => exact ⟨i + 1, q, by omega, by go_num, rfl⟩
      | true =>
        obtain rfl := hno rfl rfl
        clear hno
        go_wp2_with (go_at_call 16; refine (HA0.out q).mono ?_; rintro e w3 ⟨rfl, q3, rfl⟩)
        go_roundg g1
        case measure => omega
        case rel => exact ⟨i + 1, q3, by omega, by go_num, rfl⟩
end Go.Proofs.Ytofcpnehnpopaaa
