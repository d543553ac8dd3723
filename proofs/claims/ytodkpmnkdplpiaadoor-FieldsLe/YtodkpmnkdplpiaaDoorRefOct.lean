/- PROVED: the contract of the reference's Octal. -/
import Derived.Test.YtodkpmnkdplpiaaDoorBytes
namespace Go.Proofs.YtodkpmnkdplpiaaDoor
open Go Go.RowKit

def Fine (o : Option Nat) : Prop := ∀ m, o = some m → m ≤ 4611686018427387904
theorem fine_zero : Fine (some 0) := fun m h => by cases h; omega
theorem fine_add (o : Option Nat) (b d : Nat) : Fine (add o b d) := fun _ h => add_le h
theorem ans_none {o : Option Nat} (h : en o < 0) : ans o = (0, 31) := by
  cases o with
  | none => rfl
  | some n => exact absurd h (by simp [en])
theorem ans_some {o : Option Nat} (h : ¬ en o < 0) : ans o = (en o, 0) := by
  cases o with
  | none => exact absurd (show en none < 0 by simp [en]) h
  | some n => rfl

set_option maxRecDepth 100000 in
theorem refOct_bin (b o c : Nat) (xs : List UInt8) (hl : xs.length ≤ 9223372036854775807) (h0 : 0 < xs.length) (h128 : (xs.getD 0 0).toNat = 128) (w : World) (hA : At w b o xs) :
    Calls Tryd.prog 15 #[.slice (some ⟨b, o, none⟩) xs.length c] w fun e w' => e = .returned (.tuple #[.int .i64 (ans (numF 256 0 (xs.drop 1) (some 0))).1, .int .i64 (ans (numF 256 0 (xs.drop 1) (some 0))).2]) ∧ w' = w := by
  obtain ⟨n, hn⟩ : ∃ n, n = xs.length := ⟨_, rfl⟩
  rw [← hn] at hl h0 ⊢
  have HN : Hid (n = xs.length) := hn
  have HA : Hid (At w b o xs) := hA
  obtain ⟨D, hD⟩ : ∃ D, numF 256 0 (xs.drop 1) (some 0) = D := ⟨_, rfl⟩
  rw [hD]
  have HD : Hid (numF 256 0 (xs.drop 1) (some 0) = D) := hD
  have hc0 := hA 0 (by omega)
  rw [h128, Nat.add_zero] at hc0
  clear hn hA hD h128
  go_enter Tryd.func15, Tryd.ntmps15
  go_wp2_with fail
  go_loop [4, 5] (fun x y => ∃ (k : Nat) (p : Option Nat), x = .int .i64 (en p) ∧ y = .int .i64 (k : Int) ∧ k ≤ n ∧ Hid (Fine p) ∧ Hid (numF 256 0 (xs.drop k) p = D)) (fun _ y => n - (intOf y).toNat)
  case atStart => exact ⟨1, some 0, rfl, rfl, by omega, fine_zero, HD.out⟩
  case round =>
    obtain ⟨k, p, rfl, rfl, hk, hF, hI⟩ := hrel
    by_cases h : k < n
    · have hkl : k < xs.length := by have := HN.out; omega
      have hcell := HA.out k hkl
      have hI2 := hI.out
      rw [drop_getD xs k hkl] at hI2
      have hq : (xs.getD k 0).toNat < 256 := (xs.getD k 0).toNat_lt
      obtain ⟨q, hq0⟩ : ∃ q, (xs.getD k 0).toNat = q := ⟨_, rfl⟩
      simp only [numF, Nat.sub_zero] at hI2
      rw [hq0] at hq hcell hI2
      have hL := add_c p hF.out 256 q (.inr (.inr rfl)) hq
      have HI2 : Hid (numF 256 0 (xs.drop (k + 1)) (add p 256 q) = D) := hI2
      have HF2 : Hid (Fine (add p 256 q)) := fine_add _ _ _
      generalize add p 256 q = p2 at hL HI2 HF2
      obtain ⟨e2, he2⟩ : ∃ e2, en p2 = e2 := ⟨_, rfl⟩
      rw [he2] at hL
      have HE : Hid (en p2 = e2) := he2
      generalize en p = ep at hL
      clear hI2 hI hq0 hkl he2
      go_wp2_with (go_at_call 29; refine (hL _).mono ?_; rintro e w2 ⟨rfl, rfl⟩)
      go_round
      case rel => exact ⟨k + 1, p2, by rw [HE.out], rfl, by omega, HF2, HI2⟩
      case measure => simp [intOf]; omega
    · have HD2 : Hid (p = D) := by
        have := hI.out
        rw [List.drop_of_length_le (by have := HN.out; omega)] at this
        exact this
      clear hI
      obtain ⟨e2, he2⟩ : ∃ e2, en p = e2 := ⟨_, rfl⟩
      rw [he2]
      have HE : Hid (en p = e2) := he2
      clear he2
      by_cases hneg : e2 < 0
      · have hR : Hid (ans D = (0, 31)) := by rw [← HD2.out]; exact ans_none (by rw [HE.out]; exact hneg)
        go_wp2_with fail
        go_ret2
        rw [hR.out]
        exact ⟨rfl, rfl⟩
      · have hR : Hid (ans D = (e2, 0)) := by rw [← HD2.out, ← HE.out]; exact ans_some (by rw [HE.out]; exact hneg)
        go_wp2_with fail
        go_ret2
        rw [hR.out]
        exact ⟨rfl, rfl⟩

theorem octB_end {xs : List UInt8} {k : Nat} (h : ¬ k < xs.length ∨ (xs.getD k 0).toNat ≠ 32) : octB (xs.drop k) = octD (xs.drop k) (some 0) := by
  by_cases hk : k < xs.length
  · have h2 := h.resolve_left (fun h => h hk)
    rw [drop_getD xs k hk]
    simp only [octB]
    rw [if_neg h2]
  · rw [List.drop_of_length_le (by omega)]
    rfl
theorem octD_end {xs : List UInt8} {k : Nat} {o : Option Nat} (h : ¬ k < xs.length ∨ ¬ (48 ≤ (xs.getD k 0).toNat ∧ (xs.getD k 0).toNat ≤ 55)) : octD (xs.drop k) o = octT (xs.drop k) o := by
  by_cases hk : k < xs.length
  · have h2 := h.resolve_left (fun h => h hk)
    rw [drop_getD xs k hk]
    simp only [octD]
    rw [if_neg]
    intro h3
    exact h2 (of_decide_eq_true h3)
  · rw [List.drop_of_length_le (by omega)]
    rfl

set_option maxHeartbeats 1000000 in
set_option maxRecDepth 100000 in
theorem refOct_text (b o c : Nat) (xs : List UInt8) (hl : xs.length ≤ 9223372036854775807) (h0 : 0 < xs.length) (h128 : (xs.getD 0 0).toNat ≠ 128) (w : World) (hA : At w b o xs) :
    Calls Tryd.prog 15 #[.slice (some ⟨b, o, none⟩) xs.length c] w fun e w' => e = .returned (.tuple #[.int .i64 (octB xs).1, .int .i64 (octB xs).2]) ∧ w' = w := by
  obtain ⟨n, hn⟩ : ∃ n, n = xs.length := ⟨_, rfl⟩
  rw [← hn] at hl h0 ⊢
  have HN : Hid (n = xs.length) := hn
  have HA : Hid (At w b o xs) := hA
  obtain ⟨D, hD⟩ : ∃ D, octB xs = D := ⟨_, rfl⟩
  rw [hD]
  have HD : Hid (octB xs = D) := hD
  have hc0 := hA 0 (by omega)
  rw [Nat.add_zero] at hc0
  obtain ⟨q0, hq0⟩ : ∃ q, (xs.getD 0 0).toNat = q := ⟨_, rfl⟩
  rw [hq0] at hc0 h128
  have h128b : ((q0 : Int) == 128) = false := by simp; omega
  clear hn hA hD hq0
  go_enter Tryd.func15, Tryd.ntmps15
  go_wp2_with fail
  clear hc0 h128 h128b
  go_loop [6] (fun y => ∃ k : Nat, y = .int .i64 (k : Int) ∧ k ≤ n ∧ Hid (octB (xs.drop k) = D)) (fun y => n - (intOf y).toNat)
  case atStart => exact ⟨0, rfl, by omega, HD.out⟩
  case round =>
    obtain ⟨k, rfl, hk, hI⟩ := hrel
    by_cases h : k < n ∧ (xs.getD k 0).toNat = 32
    · have hcell := HA.out k (by have := HN.out; omega)
      rw [h.2] at hcell
      have HI2 : Hid (octB (xs.drop (k + 1)) = D) := by
        have := hI.out
        rw [drop_getD xs k (by have := HN.out; omega)] at this
        simp only [octB] at this
        rw [if_pos h.2] at this
        exact this
      have h1 := h.1
      clear hI h
      go_wp2_with fail
      go_round
      case rel => exact ⟨k + 1, rfl, by omega, HI2⟩
      case measure => simp [intOf]; omega
    · have HI2 : Hid (octD (xs.drop k) (some 0) = D) := by
        have := hI.out
        rw [octB_end (by have := HN.out; omega)] at this
        exact this
      clear hI
      by_cases h1 : k < n
      case' pos =>
        have hcell := HA.out k (by have := HN.out; omega)
        have h32 : (xs.getD k 0).toNat ≠ 32 := fun e => h ⟨h1, e⟩
        obtain ⟨q, hq⟩ : ∃ q, (xs.getD k 0).toNat = q := ⟨_, rfl⟩
        rw [hq] at hcell h32
        have h32b : ((q : Int) == 32) = false := by simp; omega
        clear h hq
        go_wp2_with fail
        clear hcell h32 h32b
      case' neg =>
        clear h
        go_wp2_with fail
      all_goals
        go_loop [4, 6] (fun x y => ∃ (k : Nat) (p : Option Nat), x = .int .i64 (en p) ∧ y = .int .i64 (k : Int) ∧ k ≤ n ∧ Hid (Fine p) ∧ Hid (octD (xs.drop k) p = D)) (fun _ y => n - (intOf y).toNat)
        case' atStart => exact ⟨k, some 0, rfl, rfl, by omega, fine_zero, HI2⟩
        case' round =>
          clear HI2 hk
          try clear h1
          obtain ⟨j, p, rfl, rfl, hj, hF, hI⟩ := hrel
          by_cases h : j < n ∧ 48 ≤ (xs.getD j 0).toNat ∧ (xs.getD j 0).toNat ≤ 55
          · have hcell := HA.out j (by have := HN.out; omega)
            have hI2 := hI.out
            rw [drop_getD xs j (by have := HN.out; omega)] at hI2
            simp only [octD] at hI2
            rw [if_pos (show isO (xs.getD j 0) = true from decide_eq_true h.2)] at hI2
            obtain ⟨q, hq⟩ : ∃ q, (xs.getD j 0).toNat = q := ⟨_, rfl⟩
            rw [hq] at hcell h hI2
            obtain ⟨h1, h2, h3⟩ := h
            have hL := add_c p hF.out 8 (q - 48) (.inl rfl) (by omega)
            have hq1 : (((q - 48 : Nat)) : Int) = (q : Int) - 48 := by omega
            rw [hq1] at hL
            have HI2 : Hid (octD (xs.drop (j + 1)) (add p 8 (q - 48)) = D) := hI2
            have HF2 : Hid (Fine (add p 8 (q - 48))) := fine_add _ _ _
            generalize add p 8 (q - 48) = p2 at hL HI2 HF2
            obtain ⟨e2, he2⟩ : ∃ e2, en p2 = e2 := ⟨_, rfl⟩
            rw [he2] at hL
            have HE : Hid (en p2 = e2) := he2
            generalize en p = ep at hL
            clear hI2 hI hq he2 hF
            go_wp2_with (go_at_call 29; refine (hL _).mono ?_; rintro e w2 ⟨rfl, rfl⟩)
            go_round
            case rel => exact ⟨j + 1, p2, by rw [HE.out], rfl, by omega, HF2, HI2⟩
            case measure => simp [intOf]; omega
          · have HI2 : Hid (octT (xs.drop j) p = D) := by
              have := hI.out
              rw [octD_end (by have := HN.out; omega)] at this
              exact this
            clear hI
            obtain ⟨ep, hep⟩ : ∃ ep, en p = ep := ⟨_, rfl⟩
            have HE : Hid (en p = ep) := hep
            rw [hep]
            clear hep hF
            by_cases h1 : j < n
            case' neg =>
              clear h
              go_wp2_with fail
            case' pos =>
              have hcell := HA.out j (by have := HN.out; omega)
              have h48 : ¬ (48 ≤ (xs.getD j 0).toNat ∧ (xs.getD j 0).toNat ≤ 55) := fun e => h ⟨h1, e⟩
              obtain ⟨q, hq⟩ : ∃ q, (xs.getD j 0).toNat = q := ⟨_, rfl⟩
              rw [hq] at hcell h48
              clear h hq
              by_cases h49 : q < 48
              case' pos =>
                clear h48
                go_wp2_with fail
                clear hcell h49
              case' neg =>
                have h55 : 55 < q := by omega
                have h49b : 48 ≤ q := by omega
                clear h48
                go_wp2_with fail
                clear hcell h49 h55 h49b
            all_goals
              try clear h1
              go_loop [6] (fun y => ∃ k : Nat, y = .int .i64 (k : Int) ∧ k ≤ n ∧ Hid (octT (xs.drop k) p = D)) (fun y => n - (intOf y).toNat)
              case' atStart => exact ⟨j, rfl, by omega, HI2⟩
              case' round =>
                clear HI2
                obtain ⟨m, rfl, hm, hI⟩ := hrel
                by_cases h : m < n
                · have hcell := HA.out m (by have := HN.out; omega)
                  have hI2 := hI.out
                  rw [drop_getD xs m (by have := HN.out; omega)] at hI2
                  simp only [octT] at hI2
                  obtain ⟨q, hq⟩ : ∃ q, (xs.getD m 0).toNat = q := ⟨_, rfl⟩
                  by_cases hB : q = 32 ∨ q = 0
                  · rw [if_pos (show isB (xs.getD m 0) = true from decide_eq_true (by rw [hq]; exact hB))] at hI2
                    have HI2 : Hid (octT (xs.drop (m + 1)) p = D) := hI2
                    rw [hq] at hcell
                    clear hI2 hI hq
                    rcases hB with rfl | rfl
                    · go_wp2_with fail
                      go_round
                      case rel => exact ⟨m + 1, rfl, by omega, HI2⟩
                      case measure => simp [intOf]; omega
                    · go_wp2_with fail
                      go_round
                      case rel => exact ⟨m + 1, rfl, by omega, HI2⟩
                      case measure => simp [intOf]; omega
                  · rw [if_neg (show ¬ isB (xs.getD m 0) = true from fun e => hB (by have := of_decide_eq_true e; rw [hq] at this; exact this))] at hI2
                    have HI2 : Hid ((0, 30) = D) := hI2
                    rw [hq] at hcell
                    have hb1 : ((q : Int) != 32) = true := by simp; omega
                    have hb2 : ((q : Int) != 0) = true := by simp; omega
                    clear hI2 hI hq hB
                    go_wp2_with fail
                    go_ret2
                    rw [← HI2.out]
                    exact ⟨rfl, rfl⟩
                · have HI2 : Hid (ans p = D) := by
                    have := hI.out
                    rw [List.drop_of_length_le (by have := HN.out; omega)] at this
                    exact this
                  clear hI
                  by_cases hneg : ep < 0
                  · have hR : Hid (D = (0, 31)) := by rw [← HI2.out]; exact ans_none (by rw [HE.out]; exact hneg)
                    go_wp2_with fail
                    go_ret2
                    rw [hR.out]
                    exact ⟨rfl, rfl⟩
                  · have hR : Hid (D = (ep, 0)) := by rw [← HI2.out, ← HE.out]; exact ans_some (by rw [HE.out]; exact hneg)
                    go_wp2_with fail
                    go_ret2
                    rw [hR.out]
                    exact ⟨rfl, rfl⟩

set_option maxRecDepth 100000 in
theorem refOct_none (a : Option Addr) (c : Nat) (w : World) :
    Calls Tryd.prog 15 #[.slice a 0 c] w fun e w' => e = .returned (.tuple #[.int .i64 0, .int .i64 0]) ∧ w' = w := by
  go_enter Tryd.func15, Tryd.ntmps15
  go_wp2_with fail
  go_loop [6] (fun x => x = .int .i64 0) (fun _ => 0)
  case atStart => rfl
  case round =>
    obtain rfl := hrel
    go_wp2_with fail
    go_loop [4, 6] (fun y x => y = .int .i64 0 ∧ x = .int .i64 0) (fun _ _ => 0)
    case atStart => exact ⟨rfl, rfl⟩
    case round =>
      obtain ⟨rfl, rfl⟩ := hrel
      go_wp2_with fail
      go_loop [6] (fun x => x = .int .i64 0) (fun _ => 0)
      case atStart => rfl
      case round =>
        obtain rfl := hrel
        go_wp2_with fail
        go_ret2
        exact ⟨rfl, rfl⟩
theorem refOct_c (v : Value) (xs : List UInt8) (hl : xs.length ≤ 9223372036854775807) (w : World) (h : Bs w v xs) :
    Calls Tryd.prog 15 #[v] w fun e w' => e = .returned (.tuple #[.int .i64 (octR xs).1, .int .i64 (octR xs).2]) ∧ w' = w := by
  rcases h with ⟨rfl, a, c, rfl⟩ | ⟨b, o, c, rfl, hc, hA⟩
  · exact refOct_none a c w
  · cases xs with
    | nil => exact refOct_none _ c w
    | cons x r =>
      by_cases h128 : x.toNat = 128
      · have := refOct_bin b o c (x :: r) hl (by simp) h128 w hA
        simp only [octR]
        rw [if_pos h128]
        exact this
      · have := refOct_text b o c (x :: r) hl (by simp) h128 w hA
        simp only [octR]
        rw [if_neg h128]
        exact this
end Go.Proofs.YtodkpmnkdplpiaaDoor
