/- Several texts, laid together: RSmall, IBits. -/
import Derived.Test.YtibolmgijaploaaDoorG24RState
import Derived.Test.YtibolmgijaploaaDoorG26RRows
/- The reference's extra, further, power, Long and Far: contracts. -/
namespace Go.Proofs.YtibolmgijaploaaDoor
set_option maxRecDepth 100000
open Go Go.RowKit

set_option maxRecDepth 100000 in
theorem rextra_c (v : Nat) (w : World) (hv : v ≤ 285) : Calls Tryd.prog 58 #[.int .i64 (v : Int)] w fun x w' => x = .returned (.int .i64 ((if v < 265 then 0 else (v - 261) / 4 : Nat) : Int)) ∧ w' = w := by
  by_cases h : v < 265
  · rw [if_pos h]
    go_enter Tryd.func58, Tryd.ntmps58
    go_wp2
    go_ret
    exact ⟨rfl, rfl⟩
  · rw [if_neg h]
    have h1 : ((v : Int) - 261).tdiv 4 = ((v - 261) / 4 : Nat) := by
      rw [Int.tdiv_eq_ediv_of_nonneg (by omega)]; omega
    have h1' : ((v : Int) - 261) / 4 = ((v - 261) / 4 : Nat) := by omega
    go_enter Tryd.func58, Tryd.ntmps58
    go_wp2
    go_ret
    exact ⟨by go_num, rfl⟩
theorem rfurther_c (v : Nat) (w : World) (hv : v ≤ 31) : Calls Tryd.prog 59 #[.int .i64 (v : Int)] w fun x w' => x = .returned (.int .i64 (iDx v : Int)) ∧ w' = w := by
  unfold iDx
  by_cases h : v < 4
  · rw [if_pos h]
    go_enter Tryd.func59, Tryd.ntmps59
    go_wp2
    go_ret
    exact ⟨rfl, rfl⟩
  · rw [if_neg h]
    go_enter Tryd.func59, Tryd.ntmps59
    go_wp2
    go_ret
    exact ⟨by go_num, rfl⟩
theorem rpower_c (n : Nat) (w : World) (hn : n ≤ 16) : Calls Tryd.prog 57 #[.int .i64 (n : Int)] w fun x w' => x = .returned (.int .i64 ((2 ^ n : Nat) : Int)) ∧ w' = w := by
  go_enter Tryd.func57, Tryd.ntmps57
  go_wp2
  go_loop [3, 4] (fun q i => ∃ k : Nat, k ≤ n ∧ i = .int .i64 k ∧ q = .int .i64 ((2 ^ k : Nat) : Int)) (fun _ i => n - (intOf i).toNat)
  case atStart => exact ⟨0, by omega, rfl, rfl⟩
  case round =>
    obtain ⟨k, hk, rfl, rfl⟩ := hrel
    by_cases hlt : k < n
    · have h5 : Hid (2 ^ (k + 1) = 2 ^ k * 2) := Nat.pow_succ 2 k
      have h2 : 2 ^ k ≤ 2 ^ 16 := Nat.pow_le_pow_right (by decide) (by omega)
      generalize 2 ^ k = Q at h2 h5 ⊢
      go_wp2
      go_round
      case rel => exact ⟨k + 1, by omega, by go_num, by rw [h5.out]; go_num⟩
      case measure => simp [intOf]; omega
    · obtain rfl : k = n := by omega
      obtain ⟨Q, hQ⟩ : ∃ Q, Q = 2 ^ k := ⟨_, rfl⟩
      rw [← hQ]
      have HQ := hide hQ
      clear hQ
      go_wp2
      go_ret
      exact ⟨by rw [HQ.out]; rfl, rfl⟩

/-- How many bits more, as the reference has it. -/
def rX (v : Nat) : Nat := if v < 265 then 0 else (v - 261) / 4
theorem rX_le {v : Nat} (hv : v ≤ 285) : rX v ≤ 6 := by unfold rX; split <;> omega
theorem rX_eq {v : Nat} (hv : v ≤ 284) : rX v = iLx v := by unfold rX iLx; split; rfl; rw [if_neg (by omega)]
def rLs (k : Nat) : Nat := 3 + ((List.range k).map fun u => 2 ^ rX (257 + u)).sum
theorem rLs_succ (k : Nat) : rLs (k + 1) = rLs k + 2 ^ rX (257 + k) := by unfold rLs; rw [List.range_succ]; simp; omega
theorem rLs_le (k : Nat) (h : k ≤ 28) : rLs k ≤ 3 + 64 * k := by
  induction k with
  | zero => simp [rLs]
  | succ k ih =>
    have := ih (by omega)
    have h2 : 2 ^ rX (257 + k) ≤ 2 ^ 6 := Nat.pow_le_pow_right (by decide) (rX_le (by omega))
    rw [rLs_succ]; omega
theorem rLs_eq {v : Nat} (h : v ≤ 284) : rLs (v - 257) = iLb v := by
  have e : (List.range (v - 257)).map (fun u => 2 ^ rX (257 + u)) = (List.range (v - 257)).map (fun u => 2 ^ iLx (257 + u)) := by
    refine List.map_congr_left fun u hu => ?_
    have := List.mem_range.1 hu
    rw [rX_eq (by omega)]
  unfold rLs iLb
  rw [if_neg (by omega), e]
theorem iDb_succ (k : Nat) : iDb (k + 1) = iDb k + 2 ^ iDx k := by unfold iDb; rw [List.range_succ]; simp; omega
theorem iDx_leR {v : Nat} (hv : v ≤ 29) : iDx v ≤ 13 := by unfold iDx; split <;> omega
theorem iDb_leR (k : Nat) (h : k ≤ 30) : iDb k ≤ 1 + 8192 * k := by
  induction k with
  | zero => simp [iDb]
  | succ k ih =>
    have := ih (by omega)
    have h2 : 2 ^ iDx k ≤ 2 ^ 13 := Nat.pow_le_pow_right (by decide) (iDx_leR (by omega))
    rw [iDb_succ]; omega

set_option maxRecDepth 100000 in
theorem rLong_c (v : Nat) (w : World) (h1 : 257 ≤ v) (h2 : v ≤ 285) : Calls Tryd.prog 45 #[.int .i64 (v : Int)] w fun x w' => x = .returned (.tuple #[.int .i64 (iLb v : Int), .int .i64 (iLx v : Int)]) ∧ w' = w := by
  by_cases h5 : v = 285
  · subst h5
    go_enter Tryd.func45, Tryd.ntmps45
    go_wp2
    go_ret2
    exact ⟨rfl, rfl⟩
  · have H1 : Hid (rLs (v - 257) = iLb v) := rLs_eq (by omega)
    have H2 : Hid (rX v = iLx v) := rX_eq (by omega)
    rw [← H1.out, ← H2.out]
    have HX : ∀ (k : Nat) (w' : World), k ≤ 285 → Hid (Calls Tryd.prog 58 #[.int .i64 (k : Int)] w' fun x w'' => x = .returned (.int .i64 (rX k : Int)) ∧ w'' = w') := fun k w' hk => rextra_c k w' hk
    have HS : ∀ k, 257 ≤ k → Hid (rLs (k + 1 - 257) = rLs (k - 257) + 2 ^ rX k) := fun k hk => by
      have := rLs_succ (k - 257)
      rw [show 257 + (k - 257) = k by omega] at this
      rw [show k + 1 - 257 = k - 257 + 1 by omega]
      exact this
    have HLe : ∀ k, k ≤ 285 → rLs (k - 257) ≤ 2000 := fun k hk => by have := rLs_le (k - 257) (by omega); omega
    have HXl : ∀ k, k ≤ 285 → rX k ≤ 6 := fun k hk => rX_le hk
    have h5' : ¬ (v : Int) = 285 := by omega
    have h5b : ((v : Int) == 285) = false := by simp; omega
    clear H1 H2
    go_enter Tryd.func45, Tryd.ntmps45
    go_wp2
    go_loop [4, 5] (fun q i => ∃ k : Nat, 257 ≤ k ∧ k ≤ v ∧ i = .int .i64 (k : Int) ∧ q = .int .i64 (rLs (k - 257) : Int)) (fun _ i => v - (intOf i).toNat)
    case atStart => exact ⟨257, by omega, by omega, rfl, rfl⟩
    case round =>
      obtain ⟨k, hk0, hk, rfl, rfl⟩ := hrel
      have hle := HLe k (by omega)
      have hxl := HXl k (by omega)
      have HXk := fun w' => HX k w' (by omega)
      have hs := HS k hk0
      by_cases hlt : k < v
      · clear HX HS HLe HXl
        have HP : ∀ w', Hid (Calls Tryd.prog 57 #[.int .i64 (rX k : Int)] w' fun x w'' => x = .returned (.int .i64 ((2 ^ rX k : Nat) : Int)) ∧ w'' = w') := fun w' => rpower_c (rX k) w' (by omega)
        have h2 : 2 ^ rX k ≤ 2 ^ 6 := Nat.pow_le_pow_right (by decide) (by omega)
        generalize 2 ^ rX k = Q at HP h2 hs
        generalize rX k = X at HP HXk hxl
        generalize rLs (k - 257) = R at hle hs ⊢
        go_wp2_with (first
          | (go_at_call 58; refine (HXk _).out.mono ?_; rintro x w' ⟨rfl, rfl⟩)
          | (go_at_call 57; refine (HP _).out.mono ?_; rintro x w' ⟨rfl, rfl⟩))
        go_round
        case rel => exact ⟨k + 1, by omega, by omega, by go_num, by rw [hs.out]; go_num⟩
        case measure => simp [intOf]; omega
      · obtain rfl : k = v := by omega
        go_wp2_with (go_at_call 58; refine (HXk _).out.mono ?_; rintro x w' ⟨rfl, rfl⟩)
        go_ret2
        exact ⟨rfl, rfl⟩

set_option maxRecDepth 100000 in
theorem rFar_c (v : Nat) (w : World) (hv : v ≤ 29) : Calls Tryd.prog 46 #[.int .i64 (v : Int)] w fun x w' => x = .returned (.tuple #[.int .i64 (iDb v : Int), .int .i64 (iDx v : Int)]) ∧ w' = w := by
  have HX : ∀ (k : Nat) (w' : World), k ≤ 29 → Hid (Calls Tryd.prog 59 #[.int .i64 (k : Int)] w' fun x w'' => x = .returned (.int .i64 (iDx k : Int)) ∧ w'' = w') := fun k w' hk => rfurther_c k w' (by omega)
  have HS : ∀ k, Hid (iDb (k + 1) = iDb k + 2 ^ iDx k) := fun k => iDb_succ k
  have HLe : ∀ k, k ≤ 30 → iDb k ≤ 1 + 8192 * k := fun k hk => iDb_leR k hk
  have HXl : ∀ k, k ≤ 29 → iDx k ≤ 13 := fun k hk => iDx_leR hk
  go_enter Tryd.func46, Tryd.ntmps46
  go_wp2
  go_loop [4, 5] (fun q i => ∃ k : Nat, k ≤ v ∧ i = .int .i64 (k : Int) ∧ q = .int .i64 (iDb k : Int)) (fun _ i => v - (intOf i).toNat)
  case atStart => exact ⟨0, by omega, rfl, rfl⟩
  case round =>
    obtain ⟨k, hk, rfl, rfl⟩ := hrel
    have hle := HLe k (by omega)
    have hxl := HXl k (by omega)
    have HXk := fun w' => HX k w' (by omega)
    have hs := HS k
    by_cases hlt : k < v
    · clear HX HS HLe HXl
      have HP : ∀ w', Hid (Calls Tryd.prog 57 #[.int .i64 (iDx k : Int)] w' fun x w'' => x = .returned (.int .i64 ((2 ^ iDx k : Nat) : Int)) ∧ w'' = w') := fun w' => rpower_c (iDx k) w' (by omega)
      have h2 : 2 ^ iDx k ≤ 2 ^ 13 := Nat.pow_le_pow_right (by decide) (by omega)
      generalize 2 ^ iDx k = Q at HP h2 hs
      generalize iDx k = X at HP HXk hxl
      generalize iDb k = R at hle hs ⊢
      go_wp2_with (first
        | (go_at_call 59; refine (HXk _).out.mono ?_; rintro x w' ⟨rfl, rfl⟩)
        | (go_at_call 57; refine (HP _).out.mono ?_; rintro x w' ⟨rfl, rfl⟩))
      go_round
      case rel => exact ⟨k + 1, by omega, by go_num, by rw [hs.out]; go_num⟩
      case measure => simp [intOf]; omega
    · obtain rfl : k = v := by omega
      go_wp2_with (go_at_call 59; refine (HXk _).out.mono ?_; rintro x w' ⟨rfl, rfl⟩)
      go_ret2
      exact ⟨rfl, rfl⟩
end Go.Proofs.YtibolmgijaploaaDoor

/- The bits of bytes as the program's reader and as the reference tell them; the reference's bits and next over the plain functions; its Order. -/
namespace Go.Proofs.YtibolmgijaploaaDoor
set_option maxRecDepth 100000
open Go Go.RowKit

theorem lb_row (zs : List Int) : lb (rowOf zs) = ib zs := by
  funext i
  have := congrFun (row_bits zs 0) i
  simp only [bn, bz, Nat.zero_add] at this
  exact this

/-- The reference's bits, of a stream without an error. -/
theorem rbits_c (lo hi : Nat) (a o : Option Addr) (ac ol oc : Nat) (L : List Int) (p n : Nat) (m : Int) (w : World) (hL : L.length ≤ 1000000) (hb : Bin L) (hi_ : Ints lo hi w a L) (hn : n ≤ 16) (hp : p ≤ L.length) :
    Calls Tryd.prog 16 #[.agg (sA a L.length ac p o ol oc m 0), .int .i64 (n : Int)] w fun x w' => ((∃ q v, iTk (lb L) L.length p n = .ok (q, v) ∧ x = .returned (.tuple #[.agg (sA a L.length ac (q : Int) o ol oc m 0), .int .i64 (v : Int)])) ∨ (iTk (lb L) L.length p n = .error 60 ∧ x = .returned (.tuple #[.agg (sA a L.length ac p o ol oc m 60), .int .i64 0]))) ∧ Below w.heap.size w w' := by
  by_cases h : p + n ≤ L.length
  · refine (rbits_yes lo hi a o ac ol oc L p n m w hL hb hi_ hn h).mono ?_
    rintro x w' ⟨rfl, h2⟩
    exact ⟨.inl ⟨_, _, iTk_ok h, rfl⟩, h2⟩
  · refine (rbits_no a o L.length ac ol oc p n m 0 w hn hp (.inr (by omega))).mono ?_
    rintro x w' ⟨rfl, h2⟩
    exact ⟨.inr ⟨iTk_err (by omega), rfl⟩, h2⟩
/-- The reference's next, of a stream without an error. -/
theorem rnext_c (lo hi B : Nat) (a o ra : Option Addr) (ac ol oc rc : Nat) (ls L : List Int) (p : Nat) (m : Int) (w : World) (h3 : ls.length ≤ 320) (hg : Good ls) (hL : L.length ≤ 1000000) (hb : Bin L) (hp : p ≤ L.length) (hl : Ints lo hi w a L) (hr : RAt B w ra ls) (hBw : B ≤ w.heap.size) :
    Calls Tryd.prog 28 #[.agg (sA a L.length ac p o ol oc m 0), .slice ra ls.length rc] w fun x w' => ((∃ q v, iNx ls (lb L) L.length p = .ok (q, v) ∧ v < ls.length ∧ x = .returned (.tuple #[.agg (sA a L.length ac (q : Int) o ol oc m 0), .int .i64 (v : Int)])) ∨ (∃ e, (e = 60 ∨ e = 63) ∧ iNx ls (lb L) L.length p = .error e ∧ x = .returned (.tuple #[.agg (sA a L.length ac p o ol oc m e), .int .i64 0]))) ∧ Below w.heap.size w w' := by
  obtain ⟨N, hN⟩ := longest_ex hg.fit
  refine (rnext_is lo hi B a o ra ac ol oc rc ls L p N m w h3 hg hN hL hb hp hl hr hBw).mono ?_
  rintro x w' ⟨s, n, err, hx, rfl, h2⟩
  refine ⟨?_, h2⟩
  rcases iNx_of (b := lb L) (lb_le hb) (T := L.length) (p := p) hN hx with ⟨rfl, hh, e⟩ | ⟨rfl, e⟩ | ⟨rfl, e⟩
  · exact .inl ⟨_, _, e, hh.2.1, rfl⟩
  · rcases hx with ⟨h0, _⟩ | ⟨rfl, rfl, _⟩
    · exact absurd h0 (by decide)
    · exact .inr ⟨60, .inl rfl, e, rfl⟩
  · rcases hx with ⟨h0, _⟩ | ⟨rfl, rfl, _⟩
    · exact absurd h0 (by decide)
    · exact .inr ⟨63, .inr rfl, e, rfl⟩

theorem rOrder_c (w : World) : Calls Tryd.prog 47 #[] w fun x w' => x = .returned (.slice (some ⟨w.heap.size, 0, none⟩) 19 19) ∧ w' = w.alloc (.cells (valA (iOrd.map Int.ofNat)) 3) := by
  go_enter Tryd.func47, Tryd.ntmps47
  go_wp2
  go_ret
  exact ⟨rfl, rfl⟩
end Go.Proofs.YtibolmgijaploaaDoor
