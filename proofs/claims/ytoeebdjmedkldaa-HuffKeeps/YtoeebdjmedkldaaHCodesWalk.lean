/- No code is the beginning of another one; later and longer codes are greater; HuffCodes' walk. -/
import Derived.Test.YtoeebdjmedkldaaHOpen
namespace Go.Proofs.Ytoeebdjmedkldaa
open Go Go.RowKit

theorem fc_up (ls : List Int) (n d : Nat) : (fc ls n + ct ls n) * 2 ^ (d + 1) ≤ fc ls (n + d + 1) := by
  induction d with
  | zero => simp [fc]; omega
  | succ d ih =>
    rw [Nat.pow_succ, ← Nat.mul_assoc]
    have e : fc ls (n + (d + 1) + 1) = 2 * (fc ls (n + d + 1) + ct ls (n + d + 1)) := rfl
    rw [e]; omega
theorem longer_greater {ls : List Int} {s t : Nat} (ht : t < ls.length) (h1 : 1 ≤ ln ls t) (h : ln ls t < ln ls s) : cd ls t < cd ls s / 2 ^ (ln ls s - ln ls t).toNat := by
  obtain ⟨d, hd⟩ : ∃ d, (ln ls s).toNat = (ln ls t).toNat + d + 1 := ⟨(ln ls s).toNat - (ln ls t).toNat - 1, by omega⟩
  have e : (ln ls s - ln ls t).toNat = d + 1 := by omega
  have u := fc_up ls (ln ls t).toNat d
  rw [← hd] at u
  have r := rk_lt ht h1
  rw [e]
  have q : (fc ls (ln ls t).toNat + ct ls (ln ls t).toNat) * 2 ^ (d + 1) ≤ cd ls s := by
    have : cd ls s = fc ls (ln ls s).toNat + rk ls s := rfl
    omega
  have := (Nat.le_div_iff_mul_le (Nat.two_pow_pos (d + 1))).2 q
  have : cd ls t = fc ls (ln ls t).toNat + rk ls t := rfl
  omega
theorem later_greater {ls : List Int} {s t : Nat} (hs : s < ls.length) (hst : t < s) (h : ln ls s = ln ls t) : cd ls t < cd ls s := by
  have := rk_mono hs hst h
  unfold cd; rw [h]; omega
theorem ne_shr {x y n : Nat} (h : x ≠ y / 2 ^ n) : ((x : Int) == (y : Int) / 2 ^ n) = false := by
  have e : (y : Int) / 2 ^ n = ((y / 2 ^ n : Nat) : Int) := by rw [Int.natCast_ediv, Int.natCast_pow]; rfl
  rw [e, beq_eq_false_iff_ne]
  exact fun h' => h (Int.ofNat_inj.1 h')
theorem shr_nat (x : Nat) (n : Nat) : (x : Int) / 2 ^ n = ((x / 2 ^ n : Nat) : Int) := by
  rw [Int.natCast_ediv, Int.natCast_pow]; rfl

theorem same_codes (gc : Nat) (ls : List Int) (w : World) (h3 : ls.length ≤ 320) (h : w.heap[gc]? = some (.cells (valA (codesL ls)) 3 (0, 0))) : Calls Try.prog 13 #[.slice (some ⟨gc, 0, none⟩) ls.length ls.length, .slice (some ⟨w.heap.size, 0, none⟩) ls.length ls.length] (w.alloc (.cells (valA (codesL ls)) 3)) fun e w' => e = .returned (.bool true) ∧ Below w.heap.size w w' := by
  have hs := same_c gc (gc + 1) w.heap.size (w.heap.size + 1) _ _ ls.length ls.length (codesL ls) (w.alloc (.cells (valA (codesL ls)) 3)) (by rw [codesL_length]; omega) (ints_of (heap_old h)) (ints_of (lit4 w (codesL ls)))
  rw [codesL_length] at hs
  refine hs.mono ?_
  rintro e w' ⟨rfl, n, rfl⟩
  have b : Below w.heap.size w (w.alloc (.cells (valA (codesL ls)) 3)) := (Below.refl _ w).alloc (Nat.le_refl _) _
  exact ⟨rfl, ⟨b.os, b.tape, b.output, b.size, b.block⟩⟩

set_option maxHeartbeats 2000000 in
set_option maxRecDepth 100000 in
theorem codes_walk (B : Nat) (a : Option Addr) (cap : Nat) (ls : List Int) (w : World) (hi : Ints 0 B w a ls) :
    Calls Try.prog 4 #[.slice a ls.length cap] w fun e w' => e = .returned (.bool true) ∧ Below w.heap.size w w' := by
  have HC : ∀ W, Below w.heap.size w W → Hid (Calls Try.prog 11 #[.slice a ls.length cap, .bool true] W fun e w' => e = .returned (.int .i64 (check ls true)) ∧ w' = W) := fun W hW => check_c B a cap ls true W (hi.stay hW)
  by_cases hc : check ls true = 0
  · have HH : Hid (Calls Try.prog 12 #[.slice a ls.length cap] w fun e w' => ∃ gc, e = .returned (.slice (some ⟨gc, 0, none⟩) ls.length ls.length) ∧ w'.heap[gc]? = some (.cells (valA (codesL ls)) 3 (0, 0)) ∧ w.heap.size ≤ gc ∧ Below w.heap.size w w') := codes_ok B a cap ls w hc hi
    rw [hc] at HC
    obtain ⟨h3, hf, hA⟩ := check_ok hc
    have HG : Hid (Good ls) := check_good hc
    have HI : Hid (Ints 0 B w a ls) := hi
    have HF : Hid (Fit ls) := hf
    clear hc hi hA hf
    go_enter Try.func4, Try.ntmps4
    go_wp2_with (first
      | (go_at_call 12; refine HH.out.mono ?_; rintro e w1 ⟨gc, rfl, h1, hge, b1⟩; have B1 : Hid (Below w.heap.size w w1) := b1; have C1 : Hid (w1.heap[gc]? = some (.cells (valA (codesL ls)) 3 (0, 0))) := h1; have hgl := lt_of_block h1; clear b1 h1)
      | (go_at_call 11; refine (HC _ B1.out).out.mono ?_; rintro e w3 ⟨rfl, hw3⟩; obtain rfl : w1 = w3 := hw3.symm))
    go_loopw [21] (fun v wr => ∃ s : Nat, s ≤ ls.length ∧ v = .int .i64 s ∧ ∃ n, wr = w1.drewN n) (fun v _ => ls.length - (intOf v).toNat)
    case atStart => exact ⟨0, by omega, rfl, 0, rfl⟩
    case round =>
      obtain ⟨s, hs, rfl, n0, rfl⟩ := hrel
      by_cases hlt : s < ls.length
      · obtain ⟨b, off, _, _, hb, rfl, hcell⟩ := (HI.out.stay B1.out).resolve_left (by omega)
        have hcs := hcell s hlt
        have hls : w1.cell? ⟨gc, s, none⟩ = some (.int .i64 (ln (codesL ls) s)) := by rw [cells_of C1.out]; exact valA_at _ (by rw [codesL_length]; exact hlt)
        have HCELL : Hid (∀ i, i < ls.length → w1.cell? ⟨b, off + i, none⟩ = some (.int .i64 (ln ls i))) := hcell
        clear hcell
        go_wp2
        go_loopw [25] (fun v wr => ∃ t : Nat, t ≤ s ∧ v = .int .i64 t ∧ ∃ n, wr = w1.drewN n) (fun v _ => s - (intOf v).toNat)
        case atStart => exact ⟨0, by omega, rfl, n0, rfl⟩
        case round =>
          obtain ⟨t, ht, rfl, n1, rfl⟩ := hrel
          by_cases hts : t < s
          · have hct := HCELL.out t (by omega)
            have hlt2 : w1.cell? ⟨gc, t, none⟩ = some (.int .i64 (ln (codesL ls) t)) := by rw [cells_of C1.out]; exact valA_at _ (by rw [codesL_length]; omega)
            have bS := ln_fit HF.out s
            have bT := ln_fit HF.out t
            go_upto_region 10 with fail
            go_cut [6, 7] (fun v6 v7 wx => v6 = .int .i64 (min (ln ls s) (ln ls t)) ∧ v7 = .int .i64 (max (ln ls s) (ln ls t)) ∧ ∃ n, wx = w1.drewN n)
            case first =>
              obtain ⟨S, hS⟩ : ∃ S, S = ln ls s := ⟨_, rfl⟩
              obtain ⟨T, hT⟩ : ∃ T, T = ln ls t := ⟨_, rfl⟩
              have HS : Hid (S = ln ls s) := hS
              have HT : Hid (T = ln ls t) := hT
              rw [← hS] at hcs bS
              rw [← hT] at hct bT
              clear hS hT
              have i1 : (0 : Int) ≤ (s : Int) := by omega
              have i2 : (s : Int) < (ls.length : Int) := by omega
              have i3 : (0 : Int) ≤ (t : Int) := by omega
              have i4 : (t : Int) < (ls.length : Int) := by omega
              go_region_held3 (fun w' => w'.cell? ⟨b, off + s, none⟩ = some (.int .i64 S) ∧ w'.cell? ⟨b, off + t, none⟩ = some (.int .i64 T)) (first | go_keep | assumption) (fail)
              all_goals (go_wp2_with fail)
              all_goals go_meet
              all_goals (rw [← HS.out, ← HT.out]; exact ⟨congrArg (Value.int .i64) (by omega), congrArg (Value.int .i64) (by omega), _, rfl⟩)
            case rest =>
              obtain ⟨rfl, rfl, n2, rfl⟩ := hcut
              have eCS := codesL_at ls hlt
              have eCT := codesL_at ls (show t < ls.length by omega)
              have LG1 : Hid (1 ≤ ln ls t → ln ls t < ln ls s → cd ls t < cd ls s / 2 ^ (ln ls s - ln ls t).toNat) := fun h1 h2 => longer_greater (by omega) h1 h2
              have LG2 : Hid (1 ≤ ln ls s → ln ls s < ln ls t → cd ls s < cd ls t / 2 ^ (ln ls t - ln ls s).toNat) := fun h1 h2 => longer_greater hlt h1 h2
              have LG3 : Hid (ln ls s = ln ls t → cd ls t < cd ls s) := fun h => later_greater hlt hts h
              generalize ln (codesL ls) s = CS at hls eCS
              generalize ln (codesL ls) t = CT at hlt2 eCT
              generalize cd ls s = DS at eCS LG1 LG2 LG3
              generalize cd ls t = DT at eCT LG1 LG2 LG3
              generalize ln ls s = S at hcs bS eCS LG1 LG2 LG3 ⊢
              generalize ln ls t = T at hct bT eCT LG1 LG2 LG3 ⊢
              by_cases h0 : 1 ≤ S ∧ 1 ≤ T
              · obtain ⟨hS1, hT1⟩ := h0
                rw [if_pos hS1] at eCS
                rw [if_pos hT1] at eCT
                subst eCS eCT
                have dS : 0 < S := by omega
                have dT : 0 < T := by omega
                rcases Int.lt_trichotomy S T with hST | hST | hST
                · have e6 : min S T = S := by omega
                  have e7 : max S T = T := by omega
                  have hw : IntKind.i64.wrap (T - S) = T - S := by rw [IntKind.wrap_i64]; omega
                  have hne : ((DS : Int) == (DT : Int) / 2 ^ (T - S).toNat) = false := ne_shr (by have := LG2.out hS1 hST; omega)
                  have d1 : decide (S ≤ T) = true := by simp; omega
                  have d2 : decide (T ≤ S) = false := by simp; omega
                  have hle : S ≤ T := by omega
                  rw [e6, e7]
                  clear LG1 LG2 LG3 e6 e7
                  go_wp2
                  go_quiet (fail)
                  go_wp2
                  go_roundw
                  case rel => exact ⟨t + 1, by omega, by go_num, _, rfl⟩
                  case measure => simp [intOf]; omega
                · have e6 : min S T = S := by omega
                  have e7 : max S T = T := by omega
                  have e0 : (T - S).toNat = 0 := by omega
                  have hw : IntKind.i64.wrap (T - S) = T - S := by rw [IntKind.wrap_i64]; omega
                  have hne : ((DS : Int) == (DT : Int) / 2 ^ (T - S).toNat) = false := ne_shr (by have := LG3.out hST; rw [e0]; simp; omega)
                  have hne' : ((DT : Int) == (DS : Int) / 2 ^ (T - S).toNat) = false := ne_shr (by have := LG3.out hST; rw [e0]; simp; omega)
                  have d1 : decide (S ≤ T) = true := by simp; omega
                  have d2 : decide (T ≤ S) = true := by simp; omega
                  have hle : S ≤ T := by omega
                  have hge : 0 ≤ T - S := by omega
                  rw [e6, e7]
                  clear LG1 LG2 LG3 e6 e7 e0 hST
                  go_wp2
                  go_quiet (fail)
                  go_wp2
                  go_roundw
                  case rel => exact ⟨t + 1, by omega, by go_num, _, rfl⟩
                  case measure => simp [intOf]; omega
                · have e6 : min S T = T := by omega
                  have e7 : max S T = S := by omega
                  have hw : IntKind.i64.wrap (S - T) = S - T := by rw [IntKind.wrap_i64]; omega
                  have hne : ((DT : Int) == (DS : Int) / 2 ^ (S - T).toNat) = false := ne_shr (by have := LG1.out hT1 hST; omega)
                  have d1 : decide (S ≤ T) = false := by simp; omega
                  have d2 : decide (T ≤ S) = true := by simp; omega
                  have hle : T ≤ S := by omega
                  rw [e6, e7]
                  clear LG1 LG2 LG3 e6 e7
                  go_wp2
                  go_quiet (fail)
                  go_wp2
                  go_roundw
                  case rel => exact ⟨t + 1, by omega, by go_num, _, rfl⟩
                  case measure => simp [intOf]; omega
              · have e6 : min S T = 0 := by omega
                rw [e6]
                generalize max S T = M
                clear LG1 LG2 LG3 e6 eCS eCT h0
                have d1 : decide ((0 : Int) < 0) = false := by simp
                go_wp2
                go_quiet (fail)
                go_wp2
                go_roundw
                case rel => exact ⟨t + 1, by omega, by go_num, _, rfl⟩
                case measure => simp [intOf]; omega
          · obtain rfl : t = s := by omega
            go_wp2
            go_roundw
            case rel => exact ⟨t + 1, by omega, by go_num, _, rfl⟩
            case measure => simp [intOf]; omega
      · obtain rfl : s = ls.length := by omega
        have BN : Hid (Below w.heap.size w (w1.drewN n0)) := ⟨B1.out.os, B1.out.tape, B1.out.output, B1.out.size, B1.out.block⟩
        have IN : Hid (Ints 0 B (w1.drewN n0) a ls) := HI.out.stay BN.out
        have CN : Hid ((w1.drewN n0).heap[gc]? = some (.cells (valA (codesL ls)) 3 (0, 0))) := C1.out
        have hgn : gc < (w1.drewN n0).heap.size := lt_of_block CN.out
        clear B1 C1
        generalize w1.drewN n0 = w2 at BN IN CN hgn ⊢
        go_wp2_with (first
          | (go_at_call 10; refine (alive_any _).mono ?_; rintro e w3 ⟨rfl, b3⟩; have B3 : Hid (Below w.heap.size w w3) := BN.out.trans (b3.mono BN.out.size); have I3 : Hid (Ints 0 B w3 a ls) := IN.out.stay b3; have C3 : Hid (w3.heap[gc]? = some (.cells (valA (codesL ls)) 3 (0, 0))) := (b3.block gc hgn).trans CN.out; clear b3)
          | (go_at_call 14; refine (refCodes_c B a cap ls _ h3 HF.out HG.out.le I3.out).mono ?_; rintro e w4 ⟨rfl, rfl⟩)
          | (go_at_call 13; refine (same_codes gc ls _ h3 C3.out).mono ?_; rintro e w5 ⟨rfl, b5⟩; have B5 : Hid (Below w.heap.size w w5) := B3.out.trans (b5.mono B3.out.size); clear b5))
        go_ret
        exact ⟨rfl, B5.out⟩
  · have HH : Hid (Calls Try.prog 12 #[.slice a ls.length cap] w fun e w' => e = .returned (.slice none 0 0) ∧ Below w.heap.size w w') := codes_err B a cap ls w hc hi
    generalize check ls true = C at hc HC
    go_enter Try.func4, Try.ntmps4
    go_wp2_with (first
      | (go_at_call 12; refine HH.out.mono ?_; rintro e w1 ⟨rfl, b1⟩; have B1 : Hid (Below w.heap.size w w1) := b1; clear b1)
      | (go_at_call 11; refine (HC _ B1.out).out.mono ?_; rintro e w3 ⟨rfl, hw3⟩; obtain rfl : w1 = w3 := hw3.symm)
      | (go_at_call 10; refine (alive_any _).mono ?_; rintro e w4 ⟨rfl, b4⟩; have B4 : Hid (Below w.heap.size w w4) := B1.out.trans (b4.mono B1.out.size); clear b4))
    go_ret
    exact ⟨rfl, B4.out⟩
end Go.Proofs.Ytoeebdjmedkldaa
