/- The reference's Letter, Valid: contracts. -/
import Derived.Test.YtlfffpgokemjbaaEBase
namespace Go.Proofs.Ytlfffpgokemjbaa.E
set_option maxRecDepth 100000
open Go Go.RowKit
set_option linter.unusedVariables false

/-- The value so far of a letter's bytes, its first one less c. -/
def vk (l : List UInt8) (c : Nat) : Nat → Nat
  | 0 => 0
  | 1 => bt l 0 - c
  | k + 2 => vk l c (k + 1) * 64 + bt l (k + 1) - 128
theorem vk_1 (l : List UInt8) (c : Nat) : vk l c 1 = bt l 0 - c := rfl
theorem vk_step (l : List UInt8) (c : Nat) (k : Nat) (h : 1 ≤ k) : vk l c (k + 1) = vk l c k * 64 + bt l k - 128 := by
  obtain ⟨j, rfl⟩ : ∃ j, k = j + 1 := ⟨k - 1, by omega⟩
  rfl
def LetOk (l : List UInt8) (w : World) (e : Ending) (w' : World) : Prop := e = .returned (.tuple #[.int .i64 ((ltr l).1 : Nat), .int .i64 ((ltr l).2 : Nat)]) ∧ w' = w
theorem LetOk.mk {l : List UInt8} {w : World} {v n : Nat} (h : ltr l = (v, n)) : LetOk l w (.returned (.tuple #[.int .i64 (v : Int), .int .i64 (n : Int)])) w := by
  unfold LetOk
  rw [h]
  exact ⟨rfl, rfl⟩
theorem bit_neg {l : List UInt8} (hn : l ≠ []) (h0 : ¬ bt l 0 < 128) (h2 : ¬ is2 l) (h3 : ¬ is3 l) (h4 : ¬ is4 l) : ltr l = (0, 0) := by rw [ltr, if_neg hn, if_neg h0, if_neg h2, if_neg h3, if_neg h4]

set_option maxHeartbeats 4000000 in
theorem letter_small (s : ByteArray) (w : World) (h : s.data.toList = [] ∨ bt s.data.toList 0 < 128) : Calls Try.prog 59 #[.string s] w (LetOk s.data.toList w) := by
  by_cases hn : s.data.toList = []
  · have hs : s.size = 0 := by rw [← len_eq, hn]; rfl
    have HO := hide (LetOk.mk (w := w) (show ltr s.data.toList = (0, 0) by rw [hn]; rfl))
    clear h hn
    go_enter Try.func59, Try.ntmps59
    go_wp2_with fail
    go_ret2
    exact HO.out
  · have h0 : bt s.data.toList 0 < 128 := h.resolve_left hn
    have hs : ¬ s.size = 0 := fun e => hn (List.eq_nil_of_length_eq_zero (by rw [len_eq, e]))
    have hb := get_bt s 0 (by omega)
    have HO := hide (LetOk.mk (w := w) (ltr_1 hn h0))
    generalize bt s.data.toList 0 = A at h0 hb HO
    have hp : 0 < s.size := by omega
    have hw : wrap64 (A : Int) = A := by unfold wrap64; omega
    clear h hn
    go_enter Try.func59, Try.ntmps59
    go_wp2_with fail
    go_ret2
    exact HO.out
set_option maxHeartbeats 4000000 in
theorem letter_bad (s : ByteArray) (w : World) (hn : s.data.toList ≠ []) (h : 128 ≤ bt s.data.toList 0) (h2 : bt s.data.toList 0 < 192 ∨ 248 ≤ bt s.data.toList 0) : Calls Try.prog 59 #[.string s] w (LetOk s.data.toList w) := by
  have hs : ¬ s.size = 0 := fun e => hn (List.eq_nil_of_length_eq_zero (by rw [len_eq, e]))
  have hb := get_bt s 0 (by omega)
  have HO := hide (LetOk.mk (w := w) (bit_neg hn (by omega) (fun q => by have := q.1; have := q.2.1; omega) (fun q => by have := q.1; have := q.2.1; omega) (fun q => by have := q.1; have := q.2.1; omega)))
  generalize bt s.data.toList 0 = A at h h2 hb HO
  have hp : 0 < s.size := by omega
  have ha := hb ▸ (s[0]'hp).toNat_lt
  have hw : wrap64 (A : Int) = A := by unfold wrap64; omega
  clear hn ha
  have n1 : ¬ A < 128 := by omega
  rcases h2 with h2 | h2
  · have n2 : ¬ 192 ≤ A := by omega
    have n3 : ¬ 224 ≤ A := by omega
    have n4 : ¬ 240 ≤ A := by omega
    go_enter Try.func59, Try.ntmps59
    go_wp2_with fail
    go_ret2
    exact HO.out
  · have n2 : 192 ≤ A := by omega
    have n3 : ¬ A < 224 := by omega
    have n4 : 224 ≤ A := by omega
    have n5 : ¬ A < 240 := by omega
    have n6 : 240 ≤ A := by omega
    have n7 : ¬ A < 248 := by omega
    go_enter Try.func59, Try.ntmps59
    go_wp2_with fail
    go_ret2
    exact HO.out

theorem vk_is2 (l : List UInt8) : vk l 192 2 = v2 l := rfl
theorem is2_no {l : List UInt8} (i : Nat) (hi : 1 ≤ i) (hn : i < 2) (h : ¬ ct (bt l i)) : ¬ is2 l := fun q => h (by
  obtain rfl : i = 1 := by omega
  exact q.2.2.2.1)
set_option maxHeartbeats 8000000 in
theorem letter_2 (s : ByteArray) (w : World) (hsm : s.size ≤ 9223372036854775807) (hn : s.data.toList ≠ []) (h : 192 ≤ bt s.data.toList 0) (h2 : bt s.data.toList 0 < 224) : Calls Try.prog 59 #[.string s] w (LetOk s.data.toList w) := by
  have hs : ¬ s.size = 0 := fun e => hn (List.eq_nil_of_length_eq_zero (by rw [len_eq, e]))
  have hb := get_bt s 0 (by omega)
  have hp : 0 < s.size := by omega
  have hle := len_eq s
  have HBAD : Hid (¬ is2 s.data.toList → ltr s.data.toList = (0, 0)) := hide fun q => bit_neg hn (by omega) q (fun q => by have := q.1; have := q.2.1; omega) (fun q => by have := q.1; have := q.2.1; omega)
  have HYES : Hid (is2 s.data.toList → ltr s.data.toList = (v2 s.data.toList, 2)) := hide fun q => ltr_2 hn q
  have HB := hide (show ∀ i (hi : i < s.size), (s[i]'hi).toNat = bt s.data.toList i from fun i hi => get_bt s i hi)
  have HV1 := hide (vk_1 s.data.toList 192)
  by_cases hL : s.size < 2
  · have HO := hide (LetOk.mk (w := w) (HBAD.out fun q => by have := q.2.2.1; omega))
    clear HBAD HYES hn hle HB HV1
    generalize bt s.data.toList 0 = A at h h2 hb
    have hw : wrap64 (A : Int) = A := by unfold wrap64; omega
    have n1 : ¬ A < 128 := by omega
    go_enter Try.func59, Try.ntmps59
    go_wp2_with fail
    go_ret2
    exact HO.out
  · have hge : 2 ≤ s.size := by omega
    have HBT := fun i => hide (bt_lt s.data.toList i)
    have HGE := hide (show 2 ≤ s.data.toList.length by omega)
    have HA := hide h
    have HA2 := hide h2
    have hA1 : ((bt s.data.toList 0 : Nat) : Int) - 192 = ((vk s.data.toList 192 1 : Nat) : Int) := by rw [HV1.out]; omega
    have hV1l : vk s.data.toList 192 1 < 64 := by rw [HV1.out]; omega
    have hV1 := hide hV1l
    clear hn hle HV1 hV1l
    generalize s.data.toList = l at h h2 hb HBAD HYES HB HBT HGE HA HA2 hA1 hV1 ⊢
    obtain ⟨A, hA⟩ : ∃ A, A = bt l 0 := ⟨_, rfl⟩
    obtain ⟨V1, hv1⟩ : ∃ V, V = vk l 192 1 := ⟨_, rfl⟩
    have HV1 := hide hv1
    rw [← hA] at h h2 hb hA1
    rw [← hv1] at hA1
    clear hA hv1
    have hw : wrap64 (A : Int) = A := by unfold wrap64; omega
    have n1 : ¬ A < 128 := by omega
    go_enter Try.func59, Try.ntmps59
    go_wp2_with fail
    go_loop [7, 8] (fun x y => ∃ i v : Nat, x = .int .i64 (v : Int) ∧ y = .int .i64 (i : Int) ∧ 1 ≤ i ∧ i ≤ 2 ∧ Hid (v = vk l 192 i) ∧ v < 64 ^ i ∧ Hid (∀ j, 1 ≤ j → j < i → ct (bt l j))) (fun _ y => 2 - (intOf y).toNat)
    case atStart => exact ⟨1, V1, rfl, rfl, by omega, by omega, HV1.out, by rw [HV1.out]; exact hV1.out, fun j h1 h2 => by omega⟩
    case round =>
      obtain ⟨i, v, rfl, rfl, hi1, hi2, HV, hv, HC⟩ := hrel
      have hv' : v < 16777216 := Nat.lt_of_lt_of_le hv (Nat.pow_le_pow_right (n := 64) (by omega) (show i ≤ 4 by omega))
      have HVB := hide hv
      clear hv
      by_cases hi : i < 2
      · have hgi := HB.out i (by omega)
        have hlt := (HBT i).out
        by_cases hc : ct (bt l i)
        · have hvs := vk_step l 192 i hi1
          have HC2 : Hid (∀ j, 1 ≤ j → j < i + 1 → ct (bt l j)) := hide fun j h1 h2 => by
            rcases Nat.lt_or_ge j i with h3 | h3
            · exact HC.out j h1 h3
            · obtain rfl : j = i := by omega
              exact hc
          rw [← HV.out] at hvs
          obtain ⟨B, hB⟩ : ∃ B, B = bt l i := ⟨_, rfl⟩
          rw [← hB] at hgi hlt hc hvs
          have hc1 : 128 ≤ B := hc.1
          have hc2 : B ≤ 191 := hc.2
          obtain ⟨v', hv'e⟩ : ∃ v', v' = vk l 192 (i + 1) := ⟨_, rfl⟩
          have HV2 := hide hv'e
          rw [← hv'e] at hvs
          have hgo : (v : Int) * 64 + B - 128 = (v' : Int) := by omega
          have hv2 : v' < 64 ^ (i + 1) := by have := HVB.out; rw [Nat.pow_succ]; omega
          have HV2l := hide hv2
          clear hvs hB hc HV HC hv'e hv2
          go_wp2_with fail
          go_round
          case rel => exact ⟨_, _, _, _, ⟨i + 1, v', rfl, rfl, by omega, by omega, HV2, HV2l.out, HC2⟩, rfl, rfl, rfl, rfl⟩
          case measure => simp [intOf]; omega
        · have HO := hide (LetOk.mk (w := w) (HBAD.out (is2_no i hi1 hi hc)))
          have hc3 : bt l i < 128 ∨ 191 < bt l i := by unfold ct at hc; omega
          generalize bt l i = B at hgi hlt hc3
          clear hc HV HC HBAD HYES
          rcases hc3 with hc3 | hc3
          all_goals
            go_wp2_with fail
            go_ret2
            exact HO.out
      · obtain rfl : i = 2 := by omega
        have HVE := HV.out
        rw [vk_is2] at HVE
        have hall := HC.out
        by_cases hok : 128 ≤ v ∧ v ≤ 1114111 ∧ ¬ (55296 ≤ v ∧ v ≤ 57343)
        · have HO := hide (LetOk.mk (w := w) (HYES.out ⟨HA.out, HA2.out, HGE.out, hall 1 (by omega) (by omega), by rw [← HVE]; exact hok.1⟩))
          rw [← HVE] at HO
          obtain ⟨q1, q2, q3⟩ := hok
          have q4 : v < 55296 ∨ 57343 < v := by omega
          clear HC hall HVE HV HBAD HYES q3 HVB
          rcases q4 with q4 | q4
          all_goals first
            | (exfalso; omega)
            | (go_wp2_with fail
               go_ret2
               exact HO.out)
        · have HO := hide (LetOk.mk (w := w) (HBAD.out fun q => by
            rw [HVE] at hok
            have h4 := q.2.2.2.2
            have h5 : v2 l < 2048 := by rw [← HVE]; have := HVB.out; omega
            exact hok ⟨h4, by omega, by omega⟩))
          have q4 : v < 128 ∨ (128 ≤ v ∧ 1114111 < v) ∨ (128 ≤ v ∧ v ≤ 1114111 ∧ 55296 ≤ v ∧ v ≤ 57343) := by omega
          clear HC hall HVE HV HBAD HYES hok HVB
          rcases q4 with q4 | ⟨q4, q5⟩ | ⟨q4, q5, q6, q7⟩
          all_goals first
            | (exfalso; omega)
            | (go_wp2_with fail
               go_ret2
               exact HO.out)

theorem vk_is3 (l : List UInt8) : vk l 224 3 = v3 l := rfl
theorem is3_no {l : List UInt8} (i : Nat) (hi : 1 ≤ i) (hn : i < 3) (h : ¬ ct (bt l i)) : ¬ is3 l := fun q => h (by
  obtain rfl | rfl : i = 1 ∨ i = 2 := by omega
  · exact q.2.2.2.1
  · exact q.2.2.2.2.1)
set_option maxHeartbeats 8000000 in
theorem letter_3 (s : ByteArray) (w : World) (hsm : s.size ≤ 9223372036854775807) (hn : s.data.toList ≠ []) (h : 224 ≤ bt s.data.toList 0) (h2 : bt s.data.toList 0 < 240) : Calls Try.prog 59 #[.string s] w (LetOk s.data.toList w) := by
  have hs : ¬ s.size = 0 := fun e => hn (List.eq_nil_of_length_eq_zero (by rw [len_eq, e]))
  have hb := get_bt s 0 (by omega)
  have hp : 0 < s.size := by omega
  have hle := len_eq s
  have HBAD : Hid (¬ is3 s.data.toList → ltr s.data.toList = (0, 0)) := hide fun q => bit_neg hn (by omega) (fun q => by have := q.1; have := q.2.1; omega) q (fun q => by have := q.1; have := q.2.1; omega)
  have HYES : Hid (is3 s.data.toList → ltr s.data.toList = (v3 s.data.toList, 3)) := hide fun q => ltr_3 hn q
  have HB := hide (show ∀ i (hi : i < s.size), (s[i]'hi).toNat = bt s.data.toList i from fun i hi => get_bt s i hi)
  have HV1 := hide (vk_1 s.data.toList 224)
  by_cases hL : s.size < 3
  · have HO := hide (LetOk.mk (w := w) (HBAD.out fun q => by have := q.2.2.1; omega))
    clear HBAD HYES hn hle HB HV1
    generalize bt s.data.toList 0 = A at h h2 hb
    have hw : wrap64 (A : Int) = A := by unfold wrap64; omega
    have n1 : ¬ A < 128 := by omega
    have n2 : 192 ≤ A := by omega
    have n3 : ¬ A < 224 := by omega
    go_enter Try.func59, Try.ntmps59
    go_wp2_with fail
    go_ret2
    exact HO.out
  · have hge : 3 ≤ s.size := by omega
    have HBT := fun i => hide (bt_lt s.data.toList i)
    have HGE := hide (show 3 ≤ s.data.toList.length by omega)
    have HA := hide h
    have HA2 := hide h2
    have hA1 : ((bt s.data.toList 0 : Nat) : Int) - 224 = ((vk s.data.toList 224 1 : Nat) : Int) := by rw [HV1.out]; omega
    have hV1l : vk s.data.toList 224 1 < 64 := by rw [HV1.out]; omega
    have hV1 := hide hV1l
    clear hn hle HV1 hV1l
    generalize s.data.toList = l at h h2 hb HBAD HYES HB HBT HGE HA HA2 hA1 hV1 ⊢
    obtain ⟨A, hA⟩ : ∃ A, A = bt l 0 := ⟨_, rfl⟩
    obtain ⟨V1, hv1⟩ : ∃ V, V = vk l 224 1 := ⟨_, rfl⟩
    have HV1 := hide hv1
    rw [← hA] at h h2 hb hA1
    rw [← hv1] at hA1
    clear hA hv1
    have hw : wrap64 (A : Int) = A := by unfold wrap64; omega
    have n1 : ¬ A < 128 := by omega
    have n2 : 192 ≤ A := by omega
    have n3 : ¬ A < 224 := by omega
    go_enter Try.func59, Try.ntmps59
    go_wp2_with fail
    go_loop [7, 8] (fun x y => ∃ i v : Nat, x = .int .i64 (v : Int) ∧ y = .int .i64 (i : Int) ∧ 1 ≤ i ∧ i ≤ 3 ∧ Hid (v = vk l 224 i) ∧ v < 64 ^ i ∧ Hid (∀ j, 1 ≤ j → j < i → ct (bt l j))) (fun _ y => 3 - (intOf y).toNat)
    case atStart => exact ⟨1, V1, rfl, rfl, by omega, by omega, HV1.out, by rw [HV1.out]; exact hV1.out, fun j h1 h2 => by omega⟩
    case round =>
      obtain ⟨i, v, rfl, rfl, hi1, hi2, HV, hv, HC⟩ := hrel
      have hv' : v < 16777216 := Nat.lt_of_lt_of_le hv (Nat.pow_le_pow_right (n := 64) (by omega) (show i ≤ 4 by omega))
      have HVB := hide hv
      clear hv
      by_cases hi : i < 3
      · have hgi := HB.out i (by omega)
        have hlt := (HBT i).out
        by_cases hc : ct (bt l i)
        · have hvs := vk_step l 224 i hi1
          have HC2 : Hid (∀ j, 1 ≤ j → j < i + 1 → ct (bt l j)) := hide fun j h1 h2 => by
            rcases Nat.lt_or_ge j i with h3 | h3
            · exact HC.out j h1 h3
            · obtain rfl : j = i := by omega
              exact hc
          rw [← HV.out] at hvs
          obtain ⟨B, hB⟩ : ∃ B, B = bt l i := ⟨_, rfl⟩
          rw [← hB] at hgi hlt hc hvs
          have hc1 : 128 ≤ B := hc.1
          have hc2 : B ≤ 191 := hc.2
          obtain ⟨v', hv'e⟩ : ∃ v', v' = vk l 224 (i + 1) := ⟨_, rfl⟩
          have HV2 := hide hv'e
          rw [← hv'e] at hvs
          have hgo : (v : Int) * 64 + B - 128 = (v' : Int) := by omega
          have hv2 : v' < 64 ^ (i + 1) := by have := HVB.out; rw [Nat.pow_succ]; omega
          have HV2l := hide hv2
          clear hvs hB hc HV HC hv'e hv2
          go_wp2_with fail
          go_round
          case rel => exact ⟨_, _, _, _, ⟨i + 1, v', rfl, rfl, by omega, by omega, HV2, HV2l.out, HC2⟩, rfl, rfl, rfl, rfl⟩
          case measure => simp [intOf]; omega
        · have HO := hide (LetOk.mk (w := w) (HBAD.out (is3_no i hi1 hi hc)))
          have hc3 : bt l i < 128 ∨ 191 < bt l i := by unfold ct at hc; omega
          generalize bt l i = B at hgi hlt hc3
          clear hc HV HC HBAD HYES
          rcases hc3 with hc3 | hc3
          all_goals
            go_wp2_with fail
            go_ret2
            exact HO.out
      · obtain rfl : i = 3 := by omega
        have HVE := HV.out
        rw [vk_is3] at HVE
        have hall := HC.out
        by_cases hok : 2048 ≤ v ∧ v ≤ 1114111 ∧ ¬ (55296 ≤ v ∧ v ≤ 57343)
        · have HO := hide (LetOk.mk (w := w) (HYES.out ⟨HA.out, HA2.out, HGE.out, hall 1 (by omega) (by omega), hall 2 (by omega) (by omega), by rw [← HVE]; exact hok.1, by rw [← HVE]; exact hok.2.2⟩))
          rw [← HVE] at HO
          obtain ⟨q1, q2, q3⟩ := hok
          have q4 : v < 55296 ∨ 57343 < v := by omega
          clear HC hall HVE HV HBAD HYES q3 HVB
          rcases q4 with q4 | q4
          all_goals first
            | (exfalso; omega)
            | (go_wp2_with fail
               go_ret2
               exact HO.out)
        · have HO := hide (LetOk.mk (w := w) (HBAD.out fun q => by
            rw [HVE] at hok
            have h4 := q.2.2.2.2.2
            have h5 : v3 l < 262144 := by rw [← HVE]; have := HVB.out; omega
            exact hok ⟨h4.1, by omega, h4.2⟩))
          have q4 : v < 2048 ∨ (2048 ≤ v ∧ 1114111 < v) ∨ (2048 ≤ v ∧ v ≤ 1114111 ∧ 55296 ≤ v ∧ v ≤ 57343) := by omega
          clear HC hall HVE HV HBAD HYES hok HVB
          rcases q4 with q4 | ⟨q4, q5⟩ | ⟨q4, q5, q6, q7⟩
          all_goals first
            | (exfalso; omega)
            | (go_wp2_with fail
               go_ret2
               exact HO.out)

theorem vk_is4 (l : List UInt8) : vk l 240 4 = v4 l := rfl
theorem is4_no {l : List UInt8} (i : Nat) (hi : 1 ≤ i) (hn : i < 4) (h : ¬ ct (bt l i)) : ¬ is4 l := fun q => h (by
  obtain rfl | rfl | rfl : i = 1 ∨ i = 2 ∨ i = 3 := by omega
  · exact q.2.2.2.1
  · exact q.2.2.2.2.1
  · exact q.2.2.2.2.2.1)
set_option maxHeartbeats 8000000 in
theorem letter_4 (s : ByteArray) (w : World) (hsm : s.size ≤ 9223372036854775807) (hn : s.data.toList ≠ []) (h : 240 ≤ bt s.data.toList 0) (h2 : bt s.data.toList 0 < 248) : Calls Try.prog 59 #[.string s] w (LetOk s.data.toList w) := by
  have hs : ¬ s.size = 0 := fun e => hn (List.eq_nil_of_length_eq_zero (by rw [len_eq, e]))
  have hb := get_bt s 0 (by omega)
  have hp : 0 < s.size := by omega
  have hle := len_eq s
  have HBAD : Hid (¬ is4 s.data.toList → ltr s.data.toList = (0, 0)) := hide fun q => bit_neg hn (by omega) (fun q => by have := q.1; have := q.2.1; omega) (fun q => by have := q.1; have := q.2.1; omega) q
  have HYES : Hid (is4 s.data.toList → ltr s.data.toList = (v4 s.data.toList, 4)) := hide fun q => ltr_4 hn q
  have HB := hide (show ∀ i (hi : i < s.size), (s[i]'hi).toNat = bt s.data.toList i from fun i hi => get_bt s i hi)
  have HV1 := hide (vk_1 s.data.toList 240)
  by_cases hL : s.size < 4
  · have HO := hide (LetOk.mk (w := w) (HBAD.out fun q => by have := q.2.2.1; omega))
    clear HBAD HYES hn hle HB HV1
    generalize bt s.data.toList 0 = A at h h2 hb
    have hw : wrap64 (A : Int) = A := by unfold wrap64; omega
    have n1 : ¬ A < 128 := by omega
    have n2 : 192 ≤ A := by omega
    have n3 : ¬ A < 224 := by omega
    have n4 : 224 ≤ A := by omega
    have n5 : ¬ A < 240 := by omega
    go_enter Try.func59, Try.ntmps59
    go_wp2_with fail
    go_ret2
    exact HO.out
  · have hge : 4 ≤ s.size := by omega
    have HBT := fun i => hide (bt_lt s.data.toList i)
    have HGE := hide (show 4 ≤ s.data.toList.length by omega)
    have HA := hide h
    have HA2 := hide h2
    have hA1 : ((bt s.data.toList 0 : Nat) : Int) - 240 = ((vk s.data.toList 240 1 : Nat) : Int) := by rw [HV1.out]; omega
    have hV1l : vk s.data.toList 240 1 < 64 := by rw [HV1.out]; omega
    have hV1 := hide hV1l
    clear hn hle HV1 hV1l
    generalize s.data.toList = l at h h2 hb HBAD HYES HB HBT HGE HA HA2 hA1 hV1 ⊢
    obtain ⟨A, hA⟩ : ∃ A, A = bt l 0 := ⟨_, rfl⟩
    obtain ⟨V1, hv1⟩ : ∃ V, V = vk l 240 1 := ⟨_, rfl⟩
    have HV1 := hide hv1
    rw [← hA] at h h2 hb hA1
    rw [← hv1] at hA1
    clear hA hv1
    have hw : wrap64 (A : Int) = A := by unfold wrap64; omega
    have n1 : ¬ A < 128 := by omega
    have n2 : 192 ≤ A := by omega
    have n3 : ¬ A < 224 := by omega
    have n4 : 224 ≤ A := by omega
    have n5 : ¬ A < 240 := by omega
    go_enter Try.func59, Try.ntmps59
    go_wp2_with fail
    go_loop [7, 8] (fun x y => ∃ i v : Nat, x = .int .i64 (v : Int) ∧ y = .int .i64 (i : Int) ∧ 1 ≤ i ∧ i ≤ 4 ∧ Hid (v = vk l 240 i) ∧ v < 64 ^ i ∧ Hid (∀ j, 1 ≤ j → j < i → ct (bt l j))) (fun _ y => 4 - (intOf y).toNat)
    case atStart => exact ⟨1, V1, rfl, rfl, by omega, by omega, HV1.out, by rw [HV1.out]; exact hV1.out, fun j h1 h2 => by omega⟩
    case round =>
      obtain ⟨i, v, rfl, rfl, hi1, hi2, HV, hv, HC⟩ := hrel
      have hv' : v < 16777216 := Nat.lt_of_lt_of_le hv (Nat.pow_le_pow_right (n := 64) (by omega) (show i ≤ 4 by omega))
      have HVB := hide hv
      clear hv
      by_cases hi : i < 4
      · have hgi := HB.out i (by omega)
        have hlt := (HBT i).out
        by_cases hc : ct (bt l i)
        · have hvs := vk_step l 240 i hi1
          have HC2 : Hid (∀ j, 1 ≤ j → j < i + 1 → ct (bt l j)) := hide fun j h1 h2 => by
            rcases Nat.lt_or_ge j i with h3 | h3
            · exact HC.out j h1 h3
            · obtain rfl : j = i := by omega
              exact hc
          rw [← HV.out] at hvs
          obtain ⟨B, hB⟩ : ∃ B, B = bt l i := ⟨_, rfl⟩
          rw [← hB] at hgi hlt hc hvs
          have hc1 : 128 ≤ B := hc.1
          have hc2 : B ≤ 191 := hc.2
          obtain ⟨v', hv'e⟩ : ∃ v', v' = vk l 240 (i + 1) := ⟨_, rfl⟩
          have HV2 := hide hv'e
          rw [← hv'e] at hvs
          have hgo : (v : Int) * 64 + B - 128 = (v' : Int) := by omega
          have hv2 : v' < 64 ^ (i + 1) := by have := HVB.out; rw [Nat.pow_succ]; omega
          have HV2l := hide hv2
          clear hvs hB hc HV HC hv'e hv2
          go_wp2_with fail
          go_round
          case rel => exact ⟨_, _, _, _, ⟨i + 1, v', rfl, rfl, by omega, by omega, HV2, HV2l.out, HC2⟩, rfl, rfl, rfl, rfl⟩
          case measure => simp [intOf]; omega
        · have HO := hide (LetOk.mk (w := w) (HBAD.out (is4_no i hi1 hi hc)))
          have hc3 : bt l i < 128 ∨ 191 < bt l i := by unfold ct at hc; omega
          generalize bt l i = B at hgi hlt hc3
          clear hc HV HC HBAD HYES
          rcases hc3 with hc3 | hc3
          all_goals
            go_wp2_with fail
            go_ret2
            exact HO.out
      · obtain rfl : i = 4 := by omega
        have HVE := HV.out
        rw [vk_is4] at HVE
        have hall := HC.out
        by_cases hok : 65536 ≤ v ∧ v ≤ 1114111 ∧ ¬ (55296 ≤ v ∧ v ≤ 57343)
        · have HO := hide (LetOk.mk (w := w) (HYES.out ⟨HA.out, HA2.out, HGE.out, hall 1 (by omega) (by omega), hall 2 (by omega) (by omega), hall 3 (by omega) (by omega), by rw [← HVE]; exact hok.1, by rw [← HVE]; exact hok.2.1⟩))
          rw [← HVE] at HO
          obtain ⟨q1, q2, q3⟩ := hok
          have q4 : v < 55296 ∨ 57343 < v := by omega
          clear HC hall HVE HV HBAD HYES q3 HVB
          rcases q4 with q4 | q4
          all_goals first
            | (exfalso; omega)
            | (go_wp2_with fail
               go_ret2
               exact HO.out)
        · have HO := hide (LetOk.mk (w := w) (HBAD.out fun q => by
            rw [HVE] at hok
            have h4 := q.2.2.2.2.2.2
            exact hok ⟨h4.1, h4.2, by omega⟩))
          have q4 : v < 65536 ∨ (65536 ≤ v ∧ 1114111 < v) ∨ (65536 ≤ v ∧ v ≤ 1114111 ∧ 55296 ≤ v ∧ v ≤ 57343) := by omega
          clear HC hall HVE HV HBAD HYES hok HVB
          rcases q4 with q4 | ⟨q4, q5⟩ | ⟨q4, q5, q6, q7⟩
          all_goals first
            | (exfalso; omega)
            | (go_wp2_with fail
               go_ret2
               exact HO.out)

theorem letter_c (s : ByteArray) (hsm : s.size ≤ 9223372036854775807) (w : World) : Calls Try.prog 59 #[.string s] w (LetOk s.data.toList w) := by
  by_cases hn : s.data.toList = []
  · exact letter_small s w (.inl hn)
  · rcases Nat.lt_or_ge (bt s.data.toList 0) 128 with h | h
    · exact letter_small s w (.inr h)
    · rcases Nat.lt_or_ge (bt s.data.toList 0) 192 with h1 | h1
      · exact letter_bad s w hn h (.inl h1)
      · rcases Nat.lt_or_ge (bt s.data.toList 0) 224 with h2 | h2
        · exact letter_2 s w hsm hn h1 h2
        · rcases Nat.lt_or_ge (bt s.data.toList 0) 240 with h3 | h3
          · exact letter_3 s w hsm hn h2 h3
          · rcases Nat.lt_or_ge (bt s.data.toList 0) 248 with h4 | h4
            · exact letter_4 s w hsm hn h3 h4
            · exact letter_bad s w hn h (.inr h4)
end Go.Proofs.Ytlfffpgokemjbaa.E
