/- The reference's many, Check and Same: contracts. -/
import Derived.Test.YtibolmgijaploaaDoorHMake
namespace Go.Proofs.YtibolmgijaploaaDoor
set_option maxRecDepth 100000
open Go Go.RowKit

/-- How many lengths are above 0. -/
def pos (ls : List Int) : Nat := ls.countP (fun x => decide (0 < x))
theorem pos_cons (x : Int) (r : List Int) : pos (x :: r) = (if 0 < x then 1 else 0) + pos r := by
  unfold pos
  by_cases h : 0 < x <;> simp [h]; omega
theorem sh_cons (x : Int) (r : List Int) (hx : 0 ≤ x ∧ x ≤ 15) : sh (x :: r) 15 = (if 0 < x then 1 else 0) + sh r 15 := by
  obtain ⟨n, rfl⟩ := Int.eq_ofNat_of_zero_le hx.1
  have hn : n ≤ 15 := by omega
  have e : ∀ m : Nat, ct ((n : Int) :: r) (m + 1) = ct r (m + 1) + if n = m + 1 then 1 else 0 := by
    intro m
    simp only [ct, List.count_cons]
    by_cases h : n = m + 1
    · subst h; simp
    · have : ¬ (n : Int) = (m : Int) + 1 := by omega
      simp [h, this]
  simp only [sh, e]
  rcases (show n = 0 ∨ n = 1 ∨ n = 2 ∨ n = 3 ∨ n = 4 ∨ n = 5 ∨ n = 6 ∨ n = 7 ∨ n = 8 ∨ n = 9 ∨ n = 10 ∨ n = 11 ∨ n = 12 ∨ n = 13 ∨ n = 14 ∨ n = 15 by omega) with h | h | h | h | h | h | h | h | h | h | h | h | h | h | h | h <;> subst h <;> simp <;> omega
theorem pos_sh (ls : List Int) (h : Fit ls) : pos ls = sh ls 15 := by
  induction ls with
  | nil => rfl
  | cons x r ih => rw [pos_cons, sh_cons x r (h x (by simp)), ih (fun y hy => h y (by simp [hy]))]
theorem pos_succ (ls : List Int) (k : Nat) (h : k < ls.length) : pos (ls.take (k + 1)) = pos (ls.take k) + if 0 < ln ls k then 1 else 0 := by
  have e : ln ls k = ls[k] := by simp [ln, List.getD, h]
  rw [List.take_succ_eq_append_getElem h, pos, pos, List.countP_append, e]
  by_cases hx : 0 < ls[k] <;> simp [hx]
theorem pos_le (ls : List Int) : pos ls ≤ ls.length := List.countP_le_length

theorem many0_c (B : Nat) (a : Option Addr) (cap : Nat) (ls : List Int) (w : World) (hn : ls.length ≤ 320) (hi : Ints 0 B w a ls) :
    Calls Tryd.prog 60 #[.slice a ls.length cap, .int .i64 0] w fun e w' => e = .returned (.int .i64 (pos ls : Int)) ∧ w' = w := by
  go_enter Tryd.func60, Tryd.ntmps60
  go_wp2
  go_loop [5, 6] (fun s i => ∃ k : Nat, k ≤ ls.length ∧ i = .int .i64 k ∧ s = .int .i64 (pos (ls.take k) : Int)) (fun _ i => ls.length - (intOf i).toNat)
  case atStart => exact ⟨0, by omega, rfl, rfl⟩
  case round =>
    obtain ⟨k, hk, rfl, rfl⟩ := hrel
    have hp : pos (ls.take k) ≤ 320 := by have := pos_le (ls.take k); simp at this; omega
    by_cases hlt : k < ls.length
    · obtain ⟨b, off, _, _, hb, rfl, hcell⟩ := hi.resolve_left (by omega)
      have hc := hcell k hlt
      have HS : Hid (pos (ls.take (k + 1)) = pos (ls.take k) + if 0 < ln ls k then 1 else 0) := pos_succ ls k hlt
      clear hcell hi
      generalize ln ls k = X at hc HS
      generalize pos (ls.take k) = P at hp HS ⊢
      by_cases hx : 0 < X
      · go_wp2
        go_round
        case rel => exact ⟨k + 1, by omega, by go_num, by rw [HS.out, if_pos hx]; go_num⟩
        case measure => simp [intOf]; omega
      · go_wp2
        go_round
        case rel => exact ⟨k + 1, by omega, by go_num, by rw [HS.out, if_neg hx]; go_num⟩
        case measure => simp [intOf]; omega
    · obtain rfl : k = ls.length := by omega
      go_wp2
      go_ret
      exact ⟨ret_int rfl, rfl⟩

theorem many1_c (B : Nat) (a : Option Addr) (cap : Nat) (ls : List Int) (w : World) (hn : ls.length ≤ 320) (hi : Ints 0 B w a ls) :
    Calls Tryd.prog 60 #[.slice a ls.length cap, .int .i64 1] w fun e w' => e = .returned (.int .i64 (ct ls 1 : Int)) ∧ w' = w := by
  have HC : Hid (ct ls 1 = ls.count 1) := rfl
  generalize ct ls 1 = C at HC ⊢
  go_enter Tryd.func60, Tryd.ntmps60
  go_wp2
  go_loop [5, 6] (fun s i => ∃ k : Nat, k ≤ ls.length ∧ i = .int .i64 k ∧ s = .int .i64 ((ls.take k).count 1 : Nat)) (fun _ i => ls.length - (intOf i).toNat)
  case atStart => exact ⟨0, by omega, rfl, rfl⟩
  case round =>
    obtain ⟨k, hk, rfl, rfl⟩ := hrel
    have hp : (ls.take k).count 1 ≤ 320 := by have := take_count_le ls k 1; have := List.count_le_length (a := 1) (l := ls); omega
    by_cases hlt : k < ls.length
    · obtain ⟨b, off, _, _, hb, rfl, hcell⟩ := hi.resolve_left (by omega)
      have hc := hcell k hlt
      have HS : Hid ((ls.take (k + 1)).count 1 = (ls.take k).count 1 + if ln ls k = 1 then 1 else 0) := take_count_succ ls k 1 hlt
      clear hcell hi
      generalize ln ls k = X at hc HS
      generalize (ls.take k).count 1 = P at hp HS ⊢
      by_cases hx : X = 1
      · have HS' : Hid ((ls.take (k + 1)).count 1 = P + 1) := by have := HS.out; rw [if_pos hx] at this; exact this
        subst hx
        go_wp2
        go_round
        case rel => exact ⟨k + 1, by omega, by go_num, by rw [HS'.out]; go_num⟩
        case measure => simp [intOf]; omega
      · have HS' : Hid ((ls.take (k + 1)).count 1 = P) := by have := HS.out; rw [if_neg hx] at this; exact this
        by_cases h0 : 0 < X
        all_goals
          go_wp2
          go_round
          case rel => exact ⟨k + 1, by omega, by go_num, by rw [HS'.out]⟩
          case measure => simp [intOf]; omega
    · obtain rfl : k = ls.length := by omega
      go_wp2
      go_ret
      exact ⟨ret_int (by rw [HC.out]), rfl⟩

theorem wt_append (a b : List Int) : wt (a ++ b) = wt a + wt b := by
  induction a with
  | nil => simp [wt]
  | cons x r ih => rw [List.cons_append, wt, ih, wt]; omega
theorem wt_succ (ls : List Int) (k : Nat) (h : k < ls.length) : wt (ls.take (k + 1)) = wt (ls.take k) + if ln ls k = 0 then 0 else 2 ^ (15 - (ln ls k).toNat) := by
  have e : ln ls k = ls[k] := by simp [ln, List.getD, h]
  rw [List.take_succ_eq_append_getElem h, wt_append, e]
  simp [wt]
theorem wt_le (ls : List Int) : wt ls ≤ ls.length * 32768 := by
  induction ls with
  | nil => simp [wt]
  | cons x r ih =>
    rw [wt, List.length_cons]
    have p : 2 ^ (15 - x.toNat) ≤ 2 ^ 15 := Nat.pow_le_pow_right (by decide) (by omega)
    split <;> omega
theorem shr_pow (x : Nat) (h : x ≤ 15) : (32768 : Int) / 2 ^ x = ((2 ^ (15 - x) : Nat) : Int) := by
  have e : (32768 : Nat) = 2 ^ (15 - x) * 2 ^ x := by rw [← Nat.pow_add, show 15 - x + x = 15 by omega]
  have : (32768 : Nat) / 2 ^ x = 2 ^ (15 - x) := by rw [e, Nat.mul_div_cancel _ (Nat.two_pow_pos x)]
  rw [← this, Int.natCast_ediv, Int.natCast_pow]; rfl
theorem amiss_wt (ls : List Int) (lone : Bool) (hf : Fit ls) : amiss ls lone = if 32768 < wt ls then 40 else if wt ls < 32768 ∧ ¬ (lone = true ∧ loneB ls = true) then 41 else 0 := by
  unfold amiss; rw [ws_wt ls hf]
theorem loneB_pos (ls : List Int) (hf : Fit ls) : loneB ls = (((pos ls : Int) == 0) || (((pos ls : Int) == 1) && ((ct ls 1 : Int) == 1))) := by
  unfold loneB; rw [pos_sh ls hf, Bool.eq_iff_iff]; simp; omega

set_option maxHeartbeats 1000000 in
set_option maxRecDepth 100000 in
theorem check_c (B : Nat) (a : Option Addr) (cap : Nat) (ls : List Int) (lone : Bool) (w : World) (hi : Ints 0 B w a ls) :
    Calls Tryd.prog 48 #[.slice a ls.length cap, .bool lone] w fun e w' => e = .returned (.int .i64 (check ls lone)) ∧ w' = w := by
  by_cases h3 : 320 < ls.length
  · rw [check_bad (.inl h3)]
    go_enter Tryd.func48, Tryd.ntmps48
    go_wp2
    go_ret
    exact ⟨rfl, rfl⟩
  · have h3' : ls.length ≤ 320 := by omega
    obtain ⟨CK, hCK⟩ : ∃ CK, CK = check ls lone := ⟨_, rfl⟩
    rw [← hCK]
    have HCK : Hid (CK = check ls lone) := hCK
    have HI : Hid (Ints 0 B w a ls) := hi
    clear h3 hCK
    go_enter Tryd.func48, Tryd.ntmps48
    go_wp2
    go_loop [5, 6] (fun s i => ∃ k : Nat, k ≤ ls.length ∧ i = .int .i64 k ∧ (∀ j, j < k → 0 ≤ ln ls j ∧ ln ls j ≤ 15) ∧ s = .int .i64 (wt (ls.take k) : Int)) (fun _ i => ls.length - (intOf i).toNat)
    case atStart => exact ⟨0, by omega, rfl, fun j h => absurd h (by omega), rfl⟩
    case round =>
      obtain ⟨k, hk, rfl, hso, rfl⟩ := hrel
      have hp : wt (ls.take k) ≤ 10485760 := by have := wt_le (ls.take k); simp at this; omega
      by_cases hlt : k < ls.length
      · obtain ⟨b, off, _, _, hb, rfl, hcell⟩ := hi.resolve_left (by omega)
        have hc := hcell k hlt
        have HS : Hid (wt (ls.take (k + 1)) = wt (ls.take k) + if ln ls k = 0 then 0 else 2 ^ (15 - (ln ls k).toNat)) := wt_succ ls k hlt
        have HSO : Hid (∀ j, j < k → 0 ≤ ln ls j ∧ ln ls j ≤ 15) := hso
        clear hcell hi hso
        generalize wt (ls.take k) = P at hp HS ⊢
        obtain ⟨X, hX⟩ : ∃ X, X = ln ls k := ⟨_, rfl⟩
        rw [← hX] at hc HS
        have HX : Hid (X = ln ls k) := hX
        clear hX
        by_cases hx0 : X < 0
        · have hbad : CK = 1 := by
            rw [HCK.out]; refine check_bad (.inr fun hf => ?_)
            have := ln_fit hf k; rw [← HX.out] at this; omega
          subst hbad
          go_wp2
          go_ret
          exact ⟨rfl, rfl⟩
        · by_cases hx1 : 15 < X
          · have hbad : CK = 1 := by
              rw [HCK.out]; refine check_bad (.inr fun hf => ?_)
              have := ln_fit hf k; rw [← HX.out] at this; omega
            subst hbad
            go_wp2
            go_ret
            exact ⟨rfl, rfl⟩
          · have hnew : Hid (∀ j, j < k + 1 → 0 ≤ ln ls j ∧ ln ls j ≤ 15) := fun j hj => by
              by_cases e : j = k
              · subst e; rw [← HX.out]; omega
              · exact HSO.out j (by omega)
            obtain ⟨x, rfl⟩ := Int.eq_ofNat_of_zero_le (show 0 ≤ X by omega)
            by_cases hz : 0 < x
            · have hsp := shr_pow x (by omega)
              have hq : 2 ^ (15 - x) ≤ 2 ^ 15 := Nat.pow_le_pow_right (by decide) (by omega)
              have HS' : Hid (wt (ls.take (k + 1)) = P + 2 ^ (15 - x)) := by have := HS.out; rw [if_neg (by omega), Int.toNat_natCast] at this; exact this
              generalize 2 ^ (15 - x) = Q at hsp hq HS'
              have hq' : (Q : Int) ≤ 32768 := by omega
              clear hq
              go_wp2
              go_round
              case rel => exact ⟨k + 1, by omega, by go_num, hnew.out, by rw [HS'.out]; go_num⟩
              case measure => simp [intOf]; omega
            · obtain rfl : x = 0 := by omega
              have HS' : Hid (wt (ls.take (k + 1)) = P) := by have := HS.out; simp at this; exact this
              go_wp2
              go_round
              case rel => exact ⟨k + 1, by omega, by go_num, hnew.out, by rw [HS'.out]⟩
              case measure => simp [intOf]; omega
      · obtain rfl : k = ls.length := by omega
        rw [List.take_length] at hp ⊢
        have hf : Fit ls := by
          intro x hx
          obtain ⟨j, hj, rfl⟩ := List.getElem_of_mem hx
          have := hso j hj
          simpa [ln, List.getD, hj] using this
        have HA : Hid (CK = if 32768 < wt ls then 40 else if wt ls < 32768 ∧ ¬ (lone = true ∧ loneB ls = true) then 41 else 0) := by
          have := HCK.out; rw [check_fit h3' hf, amiss_wt ls lone hf] at this; exact this
        have HL : Hid (loneB ls = (((pos ls : Int) == 0) || (((pos ls : Int) == 1) && ((ct ls 1 : Int) == 1)))) := loneB_pos ls hf
        obtain ⟨mz, hmz⟩ : ∃ mz : Int → Nat, mz = fun n => if n = 0 then pos ls else ct ls 1 := ⟨_, rfl⟩
        have MM : ∀ W n, (n = 0 ∨ n = 1) → W = w → Hid (Calls Tryd.prog 60 #[.slice a ls.length cap, .int .i64 n] W fun e w' => e = .returned (.int .i64 (mz n : Int)) ∧ w' = W) := fun W n hn hW => by
          subst hW
          rcases hn with rfl | rfl
          · have := many0_c B a cap ls W h3' HI.out
            rw [hmz]; exact this
          · have := many1_c B a cap ls W h3' HI.out
            rw [hmz]; exact this
        have z0 : mz 0 = pos ls := by rw [hmz]; rfl
        have z1 : mz 1 = ct ls 1 := by rw [hmz]; rfl
        clear hmz
        clear hso HCK hf hi
        have hLB : ∀ b, loneB ls = b → CK = if 32768 < wt ls then 40 else if wt ls < 32768 ∧ ¬ (lone = true ∧ b = true) then 41 else 0 := fun b hb => by rw [← hb]; exact HA.out
        clear HA
        have HLB : Hid _ := hLB
        clear hLB
        have hpl := pos_le ls
        have hcl := ct_le ls 1
        generalize pos ls = P at HL z0 hpl
        generalize ct ls 1 = C at HL z1 hcl
        generalize loneB ls = LB at HL HLB
        generalize wt ls = S at HLB hp ⊢
        by_cases hgt : 32768 < S
        · have : CK = 40 := by rw [HLB.out LB rfl, if_pos hgt]
          subst this
          have hgt' : 32768 < (S : Int) := by omega
          clear hgt HLB
          generalize (S : Int) = T at hgt' ⊢
          go_wp2
          go_ret
          exact ⟨rfl, rfl⟩
        · have hle' : (S : Int) ≤ 32768 := by omega
          have HC : Hid (CK = if (S : Int) < 32768 ∧ ¬ (lone = true ∧ LB = true) then 41 else 0) := by
            have := HLB.out LB rfl
            rw [if_neg hgt] at this
            rw [this]
            congr 1
            exact propext ⟨fun h => ⟨by omega, h.2⟩, fun h => ⟨by omega, h.2⟩⟩
          clear hgt HLB hp
          generalize (S : Int) = T at hle' HC ⊢
          go_upto_region 13 with fail
          go_cut [7] (fun v7 wx => v7 = .bool LB ∧ wx = w)
          case first =>
            have hLB := HL.out
            clear HL HC
            rcases P with _ | _ | P
            · have hh : LB = true := by rw [hLB]; simp
              subst hh
              clear hLB
              go_wp2_with (go_at_call 60; refine (MM _ _ (by simp) rfl).out.mono ?_; rintro e w1 ⟨rfl, rfl⟩)
              go_meet
              case rel => exact ⟨rfl, rfl⟩
            · have hh : LB = ((C : Int) == 1) := by rw [hLB]; simp
              subst hh
              clear hLB
              go_wp2_with (go_at_call 60; refine (MM _ _ (by simp) rfl).out.mono ?_; rintro e w1 ⟨rfl, rfl⟩)
              go_meet
              case rel => exact ⟨rfl, rfl⟩
            · have q0 : (((P + 1 + 1 : Nat) : Int) == 0) = false := by simp; omega
              have q1 : (((P + 1 + 1 : Nat) : Int) == 1) = false := by simp; omega
              have hh : LB = false := by rw [hLB, q0, q1]; rfl
              subst hh
              clear hLB
              have z0' : (mz 0 : Int) = ((P + 1 + 1 : Nat) : Int) := by rw [z0]
              clear z0
              generalize ((P + 1 + 1 : Nat) : Int) = T2 at q0 q1 z0'
              have q0' : ¬ T2 = 0 := by simpa using q0
              have q1' : ¬ T2 = 1 := by simpa using q1
              go_wp2_with (go_at_call 60; refine (MM _ _ (by simp) rfl).out.mono ?_; rintro e w1 ⟨rfl, rfl⟩)
              go_meet
              case rel => exact ⟨by simp, rfl⟩
          case rest =>
            obtain ⟨rfl, rfl⟩ := hcut
            have hCK := HC.out
            clear HC HL
            by_cases hlt' : T < 32768
            · cases lone <;> cases LB
              all_goals
                simp [hlt'] at hCK
                subst hCK
                go_wp2
                go_ret
                exact ⟨rfl, rfl⟩
            · have hge : 32768 ≤ T := by omega
              rw [if_neg (by rintro ⟨h1, _⟩; exact hlt' h1)] at hCK
              subst hCK
              go_wp2
              go_ret
              exact ⟨rfl, rfl⟩
end Go.Proofs.YtibolmgijaploaaDoor
