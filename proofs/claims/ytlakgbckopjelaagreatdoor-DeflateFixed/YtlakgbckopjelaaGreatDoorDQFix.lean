/- The reference's Long and Far: the symbol of a run's length, and of its distance. -/
import Derived.Test.YtlakgbckopjelaaGreatDoorG34DAns
import Derived.Test.YtlakgbckopjelaaGreatDoorG35RFix
import Derived.Test.YtlakgbckopjelaaGreatDoorG36ROut
import Derived.Test.YtlakgbckopjelaaGreatDoorG02HMath
namespace Go.Proofs.YtlakgbckopjelaaGreatDoor
set_option maxRecDepth 100000
open Go Go.RowKit

/-- The greatest symbol among the first k whose least length is not above n. -/
def gL (n : Nat) : Nat → Nat
  | 0 => 257
  | k + 1 => if iLb (257 + k) ≤ n then 257 + k else gL n k
theorem gL_is (n : Nat) (h : 3 ≤ n) (h1 : n ≤ 257) : gL n 28 = (lmk n).1 := by
  have key : ∀ x : Fin 255, gL (x.val + 3) 28 = (lmk (x.val + 3)).1 := by decide +kernel
  have := key ⟨n - 3, by omega⟩
  simpa only [show n - 3 + 3 = n by omega] using this
theorem gL_le (n k : Nat) : gL n k ≤ 257 + k := by
  induction k with
  | zero => exact Nat.le_refl _
  | succ k ih => unfold gL; split <;> omega
/-- Likewise of distances. -/
def gF (n : Nat) : Nat → Nat
  | 0 => 0
  | k + 1 => if iDb k ≤ n then k else gF n k
theorem gF_le (n k : Nat) : gF n k ≤ k := by
  induction k with
  | zero => exact Nat.le_refl _
  | succ k ih => unfold gF; split <;> omega
theorem iDb_mono (a k : Nat) : iDb a ≤ iDb (a + k) := by
  induction k with
  | zero => exact Nat.le_refl _
  | succ k ih => rw [← Nat.add_assoc, iDb_succ]; exact Nat.le_trans ih (Nat.le_add_right _ _)
theorem gF_at {n s : Nat} (h1 : iDb s ≤ n) (h2 : n < iDb (s + 1)) : ∀ k, gF n (s + 1 + k) = s
  | 0 => by unfold gF; rw [if_pos h1]
  | k + 1 => by
    have := iDb_mono (s + 1) k
    rw [show s + 1 + (k + 1) = (s + 1 + k) + 1 by omega]
    unfold gF
    rw [if_neg (by omega)]
    exact gF_at h1 h2 k
theorem gF_is (d : Nat) (h : 1 ≤ d) (h1 : d ≤ 32768) : gF d 30 = (bmk d).1 := by
  obtain ⟨k1, k2, k3, k4, _⟩ := bmk_ok d ⟨h, h1⟩
  have hs := iDb_succ (bmk d).1
  rw [k2] at hs
  have := gF_at (n := d) (s := (bmk d).1) (by omega) (by omega) (29 - (bmk d).1)
  rwa [show (bmk d).1 + 1 + (29 - (bmk d).1) = 30 by omega] at this
theorem iLb_le8 (k : Nat) (hk : k ≤ 285) : iLb k ≤ 2000 := by
  by_cases h : k = 285
  · subst h; decide
  · rw [← rLs_eq (by omega)]
    have := rLs_le (k - 257) (by omega)
    omega
set_option maxRecDepth 100000 in
theorem q8Long_c (n : Nat) (w : World) (h : 3 ≤ n) (h1 : n ≤ 258) : Calls Tryz.prog 19 #[.int .i64 (n : Int)] w fun x w' => x = .returned (.int .i64 ((lmk n).1 : Int)) ∧ w' = w := by
  by_cases h5 : n = 258
  · subst h5
    have e : (lmk 258).1 = 285 := rfl
    rw [e]
    go_enter Tryz.func19, Tryz.ntmps19
    go_wp2
    go_ret
    exact ⟨rfl, rfl⟩
  · have HE : Hid (gL n 28 = (lmk n).1) := gL_is n h (by omega)
    rw [← HE.out]
    have HX : ∀ (k : Nat) (w' : World), k < 28 → Hid (Calls Tryz.prog 35 #[.int .i64 ((257 + k : Nat) : Int)] w' fun x w'' => x = .returned (.tuple #[.int .i64 (iLb (257 + k) : Int), .int .i64 (iLx (257 + k) : Int)]) ∧ w'' = w') := fun k w' hk => rLong_c (257 + k) w' (by omega) (by omega)
    have HG : ∀ k, Hid (gL n (k + 1) = if iLb (257 + k) ≤ n then 257 + k else gL n k) := fun k => by show _ = _; conv => lhs; unfold gL
    have HLe : ∀ k, k < 28 → iLb (257 + k) ≤ 2000 := fun k hk => iLb_le8 _ (by omega)
    have h5' : ¬ (n : Int) = 258 := by omega
    have h5b : ((n : Int) == 258) = false := by simp; omega
    clear HE
    go_enter Tryz.func19, Tryz.ntmps19
    go_wp2
    go_loop [3, 4] (fun s i => ∃ k : Nat, k ≤ 28 ∧ i = .int .i64 ((257 + k : Nat) : Int) ∧ s = .int .i64 (gL n k : Int)) (fun _ i => (285 - intOf i).toNat)
    case atStart => exact ⟨0, by omega, rfl, rfl⟩
    case round =>
      obtain ⟨k, hk, rfl, rfl⟩ := hrel
      by_cases hlt : k < 28
      · have h1 := HX k w hlt
        have h2 := HG k
        have h3 := HLe k hlt
        have hl1 : ((257 + k : Nat) : Int) < 285 := by omega
        obtain ⟨X, hX⟩ : ∃ X, X = 257 + k := ⟨_, rfl⟩
        obtain ⟨A, hA⟩ : ∃ A, A = iLb (257 + k) := ⟨_, rfl⟩
        obtain ⟨B, hB⟩ : ∃ B, B = iLx (257 + k) := ⟨_, rfl⟩
        obtain ⟨G, hG⟩ : ∃ G, G = gL n k := ⟨_, rfl⟩
        obtain ⟨G1, hG1⟩ : ∃ G1, G1 = gL n (k + 1) := ⟨_, rfl⟩
        rw [← hA, ← hG, ← hG1, ← hX] at h2
        rw [← hA, ← hB, ← hX] at h1
        rw [← hA] at h3
        rw [← hX] at hl1
        rw [← hX, ← hG]
        have HX1 := hide hX
        have HG1 := hide hG1
        clear HX HG HLe hA hB hG hG1
        by_cases hc : A ≤ n
        · have hc' : (A : Int) ≤ (n : Int) := by omega
          have H2 : Hid (G1 = X) := by rw [h2.out, if_pos hc]; rfl
          clear h2 hX
          go_wp2_with (go_at_call 35; refine h1.out.mono ?_; rintro x w1 ⟨rfl, rfl⟩; clear h1)
          go_round
          case rel => exact ⟨k + 1, by omega, by rw [HX1.out]; go_num, by rw [← HG1.out, H2.out]⟩
          case measure => simp [intOf]; omega
        · have hc' : ¬ (A : Int) ≤ (n : Int) := by omega
          have H2 : Hid (G1 = G) := by rw [h2.out, if_neg hc]; rfl
          clear h2 hX
          go_wp2_with (go_at_call 35; refine h1.out.mono ?_; rintro x w1 ⟨rfl, rfl⟩; clear h1)
          go_round
          case rel => exact ⟨k + 1, by omega, by rw [HX1.out]; go_num, by rw [← HG1.out, H2.out]⟩
          case measure => simp [intOf]; omega
      · obtain rfl : k = 28 := by omega
        obtain ⟨G, hG⟩ : ∃ G, G = gL n 28 := ⟨_, rfl⟩
        rw [← hG]
        have HG1 := hide hG
        clear HX HG HLe hG
        go_wp2
        go_ret
        exact ⟨by rw [← HG1.out]; rfl, rfl⟩
set_option maxRecDepth 100000 in
theorem q8Far_c (n : Nat) (w : World) (h : 1 ≤ n) (h1 : n ≤ 32768) : Calls Tryz.prog 20 #[.int .i64 (n : Int)] w fun x w' => x = .returned (.int .i64 ((bmk n).1 : Int)) ∧ w' = w := by
  have HE : Hid (gF n 30 = (bmk n).1) := gF_is n h h1
  rw [← HE.out]
  have HX : ∀ (k : Nat) (w' : World), k < 30 → Hid (Calls Tryz.prog 37 #[.int .i64 (k : Int)] w' fun x w'' => x = .returned (.tuple #[.int .i64 (iDb k : Int), .int .i64 (iDx k : Int)]) ∧ w'' = w') := fun k w' hk => rFar_c k w' (by omega)
  have HG : ∀ k, Hid (gF n (k + 1) = if iDb k ≤ n then k else gF n k) := fun k => by show _ = _; conv => lhs; unfold gF
  have HLe : ∀ k, k < 30 → iDb k ≤ 300000 := fun k hk => by have := iDb_leR k (by omega); omega
  clear HE
  go_enter Tryz.func20, Tryz.ntmps20
  go_wp2
  go_loop [3, 4] (fun s i => ∃ k : Nat, k ≤ 30 ∧ i = .int .i64 (k : Int) ∧ s = .int .i64 (gF n k : Int)) (fun _ i => (30 - intOf i).toNat)
  case atStart => exact ⟨0, by omega, rfl, rfl⟩
  case round =>
    obtain ⟨k, hk, rfl, rfl⟩ := hrel
    by_cases hlt : k < 30
    · have h1 := HX k w hlt
      have h2 := HG k
      have h3 := HLe k hlt
      have hl1 : (k : Int) < 30 := by omega
      obtain ⟨A, hA⟩ : ∃ A, A = iDb k := ⟨_, rfl⟩
      obtain ⟨B, hB⟩ : ∃ B, B = iDx k := ⟨_, rfl⟩
      obtain ⟨G, hG⟩ : ∃ G, G = gF n k := ⟨_, rfl⟩
      obtain ⟨G1, hG1⟩ : ∃ G1, G1 = gF n (k + 1) := ⟨_, rfl⟩
      rw [← hA, ← hG, ← hG1] at h2
      rw [← hA, ← hB] at h1
      rw [← hA] at h3
      rw [← hG]
      have HG1 := hide hG1
      clear HX HG HLe hA hB hG hG1
      by_cases hc : A ≤ n
      · have hc' : (A : Int) ≤ (n : Int) := by omega
        have H2 : Hid (G1 = k) := by rw [h2.out, if_pos hc]; rfl
        clear h2
        go_wp2_with (go_at_call 37; refine h1.out.mono ?_; rintro x w1 ⟨rfl, rfl⟩; clear h1)
        go_round
        case rel => exact ⟨k + 1, by omega, by go_num, by rw [← HG1.out, H2.out]⟩
        case measure => simp [intOf]; omega
      · have hc' : ¬ (A : Int) ≤ (n : Int) := by omega
        have H2 : Hid (G1 = G) := by rw [h2.out, if_neg hc]; rfl
        clear h2
        go_wp2_with (go_at_call 37; refine h1.out.mono ?_; rintro x w1 ⟨rfl, rfl⟩; clear h1)
        go_round
        case rel => exact ⟨k + 1, by omega, by go_num, by rw [← HG1.out, H2.out]⟩
        case measure => simp [intOf]; omega
    · obtain rfl : k = 30 := by omega
      obtain ⟨G, hG⟩ : ∃ G, G = gF n 30 := ⟨_, rfl⟩
      rw [← hG]
      have HG1 := hide hG
      clear HX HG HLe hG
      go_wp2
      go_ret
      exact ⟨by rw [← HG1.out]; rfl, rfl⟩
end Go.Proofs.YtlakgbckopjelaaGreatDoor
