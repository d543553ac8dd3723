/- HuffRises' walk. -/
import Derived.Test.YtoeebdjmedkldabHCodesWalk
namespace Go.Proofs.Ytoeebdjmedkldab
open Go Go.RowKit

theorem lt_shr {x y n : Nat} (h : x < y / 2 ^ n) : decide ((y : Int) / 2 ^ n ≤ (x : Int)) = false := by
  rw [shr_nat, decide_eq_false_iff_not, Int.ofNat_le]; omega

set_option maxHeartbeats 2000000 in
set_option maxRecDepth 100000 in
theorem rises_walk (B : Nat) (a : Option Addr) (cap : Nat) (ls : List Int) (w : World) (hi : Ints 0 B w a ls) :
    Calls Try.prog 3 #[.slice a ls.length cap] w fun e w' => e = .returned (.bool true) ∧ Below w.heap.size w w' := by
  have HC : ∀ W, Below w.heap.size w W → Hid (Calls Try.prog 5 #[.slice a ls.length cap, .bool true] W fun e w' => e = .returned (.int .i64 (check ls true)) ∧ w' = W) := fun W hW => check_c B a cap ls true W (hi.stay hW)
  by_cases hc : check ls true = 0
  · have HH : Hid (Calls Try.prog 4 #[.slice a ls.length cap] w fun e w' => ∃ gc, e = .returned (.slice (some ⟨gc, 0, none⟩) ls.length ls.length) ∧ w'.heap[gc]? = some (.cells (valA (codesL ls)) 3 (0, 0)) ∧ w.heap.size ≤ gc ∧ Below w.heap.size w w') := codes_ok B a cap ls w hc hi
    rw [hc] at HC
    obtain ⟨h3, hf, hA⟩ := check_ok hc
    have HI : Hid (Ints 0 B w a ls) := hi
    have HF : Hid (Fit ls) := hf
    clear hc hi hA hf
    go_enter Try.func3, Try.ntmps3
    go_wp2_with (first
      | (go_at_call 4; refine HH.out.mono ?_; rintro e w1 ⟨gc, rfl, h1, hge, b1⟩; have B1 : Hid (Below w.heap.size w w1) := b1; have C1 : Hid (w1.heap[gc]? = some (.cells (valA (codesL ls)) 3 (0, 0))) := h1; have hgl := lt_of_block h1; clear b1 h1)
      | (go_at_call 5; refine (HC _ B1.out).out.mono ?_; rintro e w3 ⟨rfl, hw3⟩; obtain rfl : w1 = w3 := hw3.symm))
    go_loopw [26] (fun v wr => ∃ s : Nat, s ≤ ls.length ∧ v = .int .i64 s ∧ ∃ n, wr = w1.drewN n) (fun v _ => ls.length - (intOf v).toNat)
    case atStart => exact ⟨0, by omega, rfl, 0, rfl⟩
    case round =>
      obtain ⟨s, hs, rfl, n0, rfl⟩ := hrel
      by_cases hlt : s < ls.length
      · obtain ⟨b, off, _, _, hb, rfl, hcell⟩ := (HI.out.stay B1.out).resolve_left (by omega)
        have hcs := hcell s hlt
        have hls : w1.cell? ⟨gc, s, none⟩ = some (.int .i64 (ln (codesL ls) s)) := by rw [cells_of C1.out]; exact valA_at _ (by rw [codesL_length]; exact hlt)
        have HCELL : Hid (∀ i, i < ls.length → w1.cell? ⟨b, off + i, none⟩ = some (.int .i64 (ln ls i))) := hcell
        clear hcell
        go_wp2
        go_loopw [30] (fun v wr => ∃ t : Nat, t ≤ s ∧ v = .int .i64 t ∧ ∃ n, wr = w1.drewN n) (fun v _ => s - (intOf v).toNat)
        case atStart => exact ⟨0, by omega, rfl, n0, rfl⟩
        case round =>
          obtain ⟨t, ht, rfl, n1, rfl⟩ := hrel
          by_cases hts : t < s
          · have hct := HCELL.out t (by omega)
            have hlt2 : w1.cell? ⟨gc, t, none⟩ = some (.int .i64 (ln (codesL ls) t)) := by rw [cells_of C1.out]; exact valA_at _ (by rw [codesL_length]; omega)
            have bS := ln_fit HF.out s
            have bT := ln_fit HF.out t
            have eCS := codesL_at ls hlt
            have eCT := codesL_at ls (show t < ls.length by omega)
            have LG1 : Hid (1 ≤ ln ls t → ln ls t < ln ls s → cd ls t < cd ls s / 2 ^ (ln ls s - ln ls t).toNat) := fun h1 h2 => longer_greater (by omega) h1 h2
            have LG3 : Hid (ln ls s = ln ls t → cd ls t < cd ls s) := fun h => later_greater hlt hts h
            have i1 : (0 : Int) ≤ (s : Int) := by omega
            have i2 : (s : Int) < (ls.length : Int) := by omega
            have i3 : (0 : Int) ≤ (t : Int) := by omega
            have i4 : (t : Int) < (ls.length : Int) := by omega
            generalize ln (codesL ls) s = CS at hls eCS
            generalize ln (codesL ls) t = CT at hlt2 eCT
            generalize cd ls s = DS at eCS LG1 LG3
            generalize cd ls t = DT at eCT LG1 LG3
            generalize ln ls s = S at hcs bS eCS LG1 LG3
            generalize ln ls t = T at hct bT eCT LG1 LG3
            go_upto_region 10 with fail
            go_cut [59] (fun v59 wx => v59 = .bool false ∧ ∃ n, wx = w1.drewN n)
            case first =>
              by_cases hS : 0 < S
              · have d0 : decide (0 < S) = true := by simp; omega
                by_cases hST : S = T
                · have hlt3 := LG3.out hST
                  rw [if_pos (by omega)] at eCS
                  rw [if_pos (by omega)] at eCT
                  subst eCS eCT
                  have d1 : (S == T) = true := by simp [hST]
                  have d2 : decide ((DS : Int) ≤ (DT : Int)) = false := by simp; omega
                  clear LG1 LG3 hST
                  go_wp2
                  go_quiet (fail)
                  go_wp2
                  go_meet
                  case rel => exact ⟨by simp; omega, _, World.drewN_drewN _ _ _⟩
                · have d1 : (S == T) = false := by simp [hST]
                  clear LG1 LG3 eCS eCT
                  go_wp2
                  go_quiet (fail)
                  go_wp2
                  go_meet
                  case rel => exact ⟨rfl, _, World.drewN_drewN _ _ _⟩
              · have d0 : decide (0 < S) = false := by simp; omega
                clear LG1 LG3 eCS eCT
                go_wp2
                go_quiet (fail)
                go_wp2
                go_meet
                case rel => exact ⟨by simp, _, World.drewN_drewN _ _ _⟩
            case rest =>
              obtain ⟨rfl, n2, rfl⟩ := hcut
              go_upto_region 12 with fail
              go_cut [96] (fun v96 wx => v96 = .bool false ∧ ∃ n, wx = w1.drewN n)
              case first =>
                by_cases hT : 0 < T
                · have d0 : decide (0 < T) = true := by simp; omega
                  by_cases hTS : T < S
                  · have hlt3 := LG1.out (by omega) hTS
                    rw [if_pos (by omega)] at eCS
                    rw [if_pos (by omega)] at eCT
                    subst eCS eCT
                    have d1 : decide (T < S) = true := by simp; omega
                    have hw : IntKind.i64.wrap (S - T) = S - T := by rw [IntKind.wrap_i64]; omega
                    have d2 := lt_shr hlt3
                    have hge : 0 ≤ S - T := by omega
                    clear LG1 LG3 hlt3
                    go_wp2
                    go_quiet (fail)
                    go_wp2
                    go_meet
                    case rel => exact ⟨by first | rfl | (rw [d2]) | (simp; simpa using d2), _, World.drewN_drewN _ _ _⟩
                  · have d1 : decide (T < S) = false := by simp; omega
                    clear LG1 LG3 eCS eCT
                    go_wp2
                    go_quiet (fail)
                    go_wp2
                    go_meet
                    case rel => exact ⟨by first | rfl | simp, _, World.drewN_drewN _ _ _⟩
                · have d0 : decide (0 < T) = false := by simp; omega
                  clear LG1 LG3 eCS eCT
                  go_wp2
                  go_quiet (fail)
                  go_wp2
                  go_meet
                  case rel => exact ⟨by first | rfl | simp, _, World.drewN_drewN _ _ _⟩
              case rest =>
                obtain ⟨rfl, n3, rfl⟩ := hcut
                go_wp2
                go_roundw
                case rel => exact ⟨t + 1, by omega, by go_num, _, rfl⟩
                case measure => simp [intOf]; omega
          · obtain rfl : t = s := by omega
            go_wp2
            go_roundw
            case rel => exact ⟨t + 1, by omega, by go_num, _, rfl⟩
            case measure => simp [intOf]; omega
      · obtain rfl : s = ls.length := by omega
        have BN : Hid (Below w.heap.size w (w1.drewN n0)) := ⟨B1.out.os, B1.out.tape, B1.out.output, B1.out.size, B1.out.block⟩
        generalize w1.drewN n0 = w2 at BN ⊢
        go_wp2_with (go_at_call 6; refine (alive_any _).mono ?_; rintro e w3 ⟨rfl, b3⟩; have B3 : Hid (Below w.heap.size w w3) := BN.out.trans (b3.mono BN.out.size); clear b3)
        go_ret
        exact ⟨rfl, B3.out⟩
  · have HH : Hid (Calls Try.prog 4 #[.slice a ls.length cap] w fun e w' => e = .returned (.slice none 0 0) ∧ Below w.heap.size w w') := codes_err B a cap ls w hc hi
    generalize check ls true = C at hc HC
    go_enter Try.func3, Try.ntmps3
    go_wp2_with (first
      | (go_at_call 4; refine HH.out.mono ?_; rintro e w1 ⟨rfl, b1⟩; have B1 : Hid (Below w.heap.size w w1) := b1; clear b1)
      | (go_at_call 5; refine (HC _ B1.out).out.mono ?_; rintro e w3 ⟨rfl, hw3⟩; obtain rfl : w1 = w3 := hw3.symm)
      | (go_at_call 6; refine (alive_any _).mono ?_; rintro e w4 ⟨rfl, b4⟩; have B4 : Hid (Below w.heap.size w w4) := B1.out.trans (b4.mono B1.out.size); clear b4))
    go_ret
    exact ⟨rfl, B4.out⟩
end Go.Proofs.Ytoeebdjmedkldab
