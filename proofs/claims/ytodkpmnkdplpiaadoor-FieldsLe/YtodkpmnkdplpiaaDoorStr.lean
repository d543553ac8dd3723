/- PROVED: contracts of the functions that go through a text: digits, nanoseconds; the reference's run, number. -/
import Derived.Test.YtodkpmnkdplpiaaDoorSmall
import Derived.Laws.RangeAny
import Derived.LoopTactic
namespace Go.Proofs.YtodkpmnkdplpiaaDoor
open Go Go.RowKit

theorem len_eq (s : ByteArray) : s.data.toList.length = s.size := Array.length_toList
theorem drop_at (s : ByteArray) (pos : Nat) (h : pos < s.size) : s.data.toList.drop pos = s[pos]'h :: s.data.toList.drop (pos + 1) := by
  have hl : pos < s.data.toList.length := by rw [len_eq]; exact h
  rw [List.drop_eq_getElem_cons hl]
  rfl
theorem drop_end (s : ByteArray) (pos : Nat) (h : ¬ pos < s.size) : s.data.toList.drop pos = [] := List.drop_of_length_le (by rw [len_eq]; omega)
theorem iter_below (w : World) (s : ByteArray) (pos : Nat) : Below w.heap.size w (w.iter s pos) := (Below.refl _ w).alloc (Nat.le_refl _) _

set_option maxRecDepth 100000 in
theorem digits_c (s : ByteArray) (b : Nat) (hb : b = 8 ∨ b = 10) (w : World) :
    Calls Tryd.prog 28 #[.string s, .int .i32 (b : Int)] w fun e w' => e = .returned (.tuple #[.int .u64 ((digs b s.data.toList 0).1 : Nat), .bool (digs b s.data.toList 0).2]) ∧ Below w.heap.size w w' := by
  have hbb : Base b := by rcases hb with rfl | rfl <;> simp [Base]
  have hb2 : 8 ≤ b ∧ b ≤ 10 := by omega
  clear hb
  obtain ⟨D, hD⟩ : ∃ D, digs b s.data.toList 0 = D := ⟨_, rfl⟩
  rw [hD]
  have HD : Hid (digs b s.data.toList 0 = D) := hD
  clear hD
  go_enter Tryd.func28, Tryd.ntmps28
  go_wp2_with fail
  go_loopw [6] (fun x wr => ∃ pos v : Nat, x = .int .u64 (v : Int) ∧ v < 4611686018427388160 ∧ wr = w.iter s pos ∧ pos ≤ s.size ∧ Hid (digs b (s.data.toList.drop pos) v = D)) (fun _ wr => s.size - wr.iterPos w.heap.size)
  case atStart => exact ⟨0, 0, rfl, by omega, rfl, by omega, HD.out⟩
  case round =>
    obtain ⟨pos, v, rfl, hv, rfl, hp, hI⟩ := hrel
    by_cases h : pos < s.size
    · have hnx : ∀ ty, (Instr.next (.pointer (some ⟨w.heap.size, 0, none⟩)) true ty).run Tryd.prog (w.iter s pos) = _ := fun ty => run_next_any w s pos ty h
      have hI2 := hI.out
      rw [drop_at s pos h] at hI2
      by_cases ha : (s[pos]'h).toNat < 128
      · rw [decode_ascii s pos h ha] at hnx
        obtain ⟨c, hc⟩ : ∃ c, (s[pos]'h).toNat = c := ⟨_, rfl⟩
        simp only [digs, hc] at hI2
        rw [hc] at hnx ha
        clear hc hI
        by_cases hd : c < 48 ∨ 48 + b ≤ c
        · rw [if_pos hd] at hI2
          have HI2 : Hid ((0, false) = D) := hI2
          clear hI2
          rcases hd with hd | hd
          · go_wp2_with fail
            go_ret2
            rw [← HI2.out]
            exact ⟨rfl, iter_below _ _ _⟩
          · have h48 : ¬ c < 48 := by omega
            go_wp2_with fail
            go_ret2
            rw [← HI2.out]
            exact ⟨rfl, iter_below _ _ _⟩
        · rw [if_neg hd] at hI2
          have HI2 : Hid (digs b (s.data.toList.drop (pos + 1)) (lay v b (c - 48)) = D) := hI2
          have hl : lay v b (c - 48) < 4611686018427388160 := lay_lt (by omega) (by omega) (by omega)
          have hL := lay_c v b (c - 48) (by omega) hbb (by omega)
          have hc1 : (((c - 48 : Nat)) : Int) = (c : Int) - 48 := by omega
          rw [hc1] at hL
          generalize lay v b (c - 48) = L at hL HI2 hl
          clear hI2
          have hd1 : 48 ≤ c := by omega
          have hd2 : c < 48 + b := by omega
          go_wp2_with (go_at_call 41; refine (hL _).mono ?_; rintro e w2 ⟨rfl, rfl⟩)
          go_roundw
          case rel => exact ⟨pos + 1, L, rfl, hl, rfl, by omega, HI2⟩
          case measure => simp; omega
      · have hh := decode_high s pos h (by omega)
        have hle := decode_le s pos
        obtain ⟨R, hR⟩ : ∃ R, (Utf8.decode s pos).1 = R := ⟨_, rfl⟩
        rw [hR] at hnx hle hh
        have hc : (s[pos]'h).toNat < 48 ∨ 48 + b ≤ (s[pos]'h).toNat := by omega
        simp only [digs, if_pos hc] at hI2
        have HI2 : Hid ((0, false) = D) := hI2
        have hR1 : 128 ≤ R := hh.1
        clear hI2 hI hh hR hc ha
        go_wp2_with fail
        go_ret2
        rw [← HI2.out]
        exact ⟨rfl, iter_below _ _ _⟩
    · have hnx : ∀ ty, (Instr.next (.pointer (some ⟨w.heap.size, 0, none⟩)) true ty).run Tryd.prog (w.iter s pos) = _ := fun ty => run_next_end w s pos ty h
      have HI2 : Hid ((v, true) = D) := by
        have := hI.out
        rw [drop_end s pos h] at this
        exact this
      clear hI
      go_wp2_with fail
      go_ret2
      rw [← HI2.out]
      exact ⟨rfl, iter_below _ _ _⟩

set_option maxRecDepth 100000 in
theorem nano_c (s : ByteArray) (w : World) :
    Calls Tryd.prog 38 #[.string s] w fun e w' => e = .returned (.tuple #[.int .i64 ((nano s.data.toList 0 100000000).1 : Nat), .bool (nano s.data.toList 0 100000000).2]) ∧ Below w.heap.size w w' := by
  obtain ⟨D, hD⟩ : ∃ D, nano s.data.toList 0 100000000 = D := ⟨_, rfl⟩
  rw [hD]
  have HD : Hid (nano s.data.toList 0 100000000 = D) := hD
  clear hD
  go_enter Tryd.func38, Tryd.ntmps38
  go_wp2_with fail
  go_loopw [4, 5] (fun x y wr => ∃ pos v k : Nat, x = .int .i64 (v : Int) ∧ y = .int .i64 (k : Int) ∧ v + 10 * k ≤ 1000000000 ∧ wr = w.iter s pos ∧ pos ≤ s.size ∧ Hid (nano (s.data.toList.drop pos) v k = D)) (fun _ _ wr => s.size - wr.iterPos w.heap.size)
  case atStart => exact ⟨0, 0, 100000000, rfl, rfl, by omega, rfl, by omega, HD.out⟩
  case round =>
    obtain ⟨pos, v, k, rfl, rfl, hv, rfl, hp, hI⟩ := hrel
    by_cases h : pos < s.size
    · have hnx : ∀ ty, (Instr.next (.pointer (some ⟨w.heap.size, 0, none⟩)) true ty).run Tryd.prog (w.iter s pos) = _ := fun ty => run_next_any w s pos ty h
      have hI2 := hI.out
      rw [drop_at s pos h] at hI2
      by_cases ha : (s[pos]'h).toNat < 128
      · rw [decode_ascii s pos h ha] at hnx
        obtain ⟨c, hc⟩ : ∃ c, (s[pos]'h).toNat = c := ⟨_, rfl⟩
        simp only [nano, hc] at hI2
        rw [hc] at hnx ha
        clear hc hI
        by_cases hd : c < 48 ∨ 57 < c
        · rw [if_pos hd] at hI2
          have HI2 : Hid ((0, false) = D) := hI2
          clear hI2
          rcases hd with hd | hd
          · go_wp2_with fail
            go_ret2
            rw [← HI2.out]
            exact ⟨rfl, iter_below _ _ _⟩
          · have h48 : ¬ c < 48 := by omega
            go_wp2_with fail
            go_ret2
            rw [← HI2.out]
            exact ⟨rfl, iter_below _ _ _⟩
        · rw [if_neg hd] at hI2
          obtain ⟨d, rfl⟩ : ∃ d, c = d + 48 := ⟨c - 48, by omega⟩
          rw [Nat.add_sub_cancel] at hI2
          have HI2 : Hid (nano (s.data.toList.drop (pos + 1)) (v + d * k) (k / 10) = D) := hI2
          clear hI2
          have hdk : d * k ≤ 9 * k := Nat.mul_le_mul_right k (by omega)
          have hdc : ((d : Int)) * (k : Int) = ((d * k : Nat) : Int) := by rw [Int.natCast_mul]
          have hd9 : d ≤ 9 := by omega
          clear hd
          obtain ⟨M, hM⟩ : ∃ M, M = d * k := ⟨_, rfl⟩
          rw [← hM] at hdk hdc HI2
          clear hM
          have hd48 : ((d : Int) + 48 - 48) = d := by omega
          go_wp2_with fail
          go_roundw
          case rel => exact ⟨pos + 1, v + M, k / 10, by rfl, by rfl, by omega, rfl, by omega, HI2⟩
          case measure => simp; omega
      · have hh := decode_high s pos h (by omega)
        have hle := decode_le s pos
        obtain ⟨R, hR⟩ : ∃ R, (Utf8.decode s pos).1 = R := ⟨_, rfl⟩
        rw [hR] at hnx hle hh
        have hc : (s[pos]'h).toNat < 48 ∨ 57 < (s[pos]'h).toNat := by omega
        simp only [nano, if_pos hc] at hI2
        have HI2 : Hid ((0, false) = D) := hI2
        have hR1 : 128 ≤ R := hh.1
        clear hI2 hI hh hR hc ha
        go_wp2_with fail
        go_ret2
        rw [← HI2.out]
        exact ⟨rfl, iter_below _ _ _⟩
    · have hnx : ∀ ty, (Instr.next (.pointer (some ⟨w.heap.size, 0, none⟩)) true ty).run Tryd.prog (w.iter s pos) = _ := fun ty => run_next_end w s pos ty h
      have HI2 : Hid ((v, true) = D) := by
        have := hI.out
        rw [drop_end s pos h] at this
        exact this
      clear hI
      go_wp2_with fail
      go_ret2
      rw [← HI2.out]
      exact ⟨rfl, iter_below _ _ _⟩

set_option maxRecDepth 100000 in
theorem run_c (s : ByteArray) (hs : s.size ≤ 9223372036854775807) (w : World) :
    Calls Tryd.prog 35 #[.string s] w fun e w' => e = .returned (.int .i64 (rn s.data.toList : Nat)) ∧ w' = w := by
  obtain ⟨D, hD⟩ : ∃ D, rn s.data.toList = D := ⟨_, rfl⟩
  rw [hD]
  have HD : Hid (rn s.data.toList = D) := hD
  clear hD
  go_enter Tryd.func35, Tryd.ntmps35
  go_wp2_with fail
  go_loop [3] (fun x => ∃ n : Nat, x = .int .i64 (n : Int) ∧ n ≤ s.size ∧ Hid (n + rn (s.data.toList.drop n) = D)) (fun x => s.size - (intOf x).toNat)
  case atStart => exact ⟨0, rfl, by omega, by simpa [Hid] using HD.out⟩
  case round =>
    obtain ⟨n, rfl, hn, hI⟩ := hrel
    by_cases h : n < s.size
    · have hI2 := hI.out
      rw [drop_at s n h] at hI2
      obtain ⟨c, hc⟩ : ∃ c, s[n]'h = c := ⟨_, rfl⟩
      rw [hc] at hI2
      have hg : s[n]! = c := by rw [getElem!_pos s n h, hc]
      by_cases hd : isD c = true
      · rw [rn_cons_yes hd] at hI2
        have HI2 : Hid (n + 1 + rn (s.data.toList.drop (n + 1)) = D) := by have := hI2; unfold Hid; omega
        have hd1 : 48 ≤ c.toNat ∧ c.toNat ≤ 57 := of_decide_eq_true hd
        clear hI2 hI hd
        go_wp2_with fail
        go_round
        case rel => exact ⟨n + 1, rfl, by omega, HI2⟩
        case measure => simp [intOf]; omega
      · rw [rn_cons_no (by simpa using hd)] at hI2
        have HI2 : Hid (n = D) := hI2
        have hd1 : ¬ (48 ≤ c.toNat ∧ c.toNat ≤ 57) := fun h => hd (decide_eq_true h)
        clear hI2 hI hd
        go_wp2_with fail
        all_goals
          go_ret
          rw [← HI2.out]
          exact ⟨rfl, rfl⟩
    · have HI2 : Hid (n = D) := by
        have := hI.out
        rw [drop_end s n h] at this
        exact this
      clear hI
      go_wp2_with fail
      go_ret
      rw [← HI2.out]
      exact ⟨rfl, rfl⟩
theorem isD_of {c : UInt8} (h : isD c = true) : 48 ≤ c.toNat ∧ c.toNat ≤ 57 := of_decide_eq_true h

set_option maxRecDepth 100000 in
theorem number_c (s : ByteArray) (hs : s.size ≤ 9223372036854775807) (hd : ∀ c ∈ s.data.toList, isD c = true) (w : World) :
    Calls Tryd.prog 36 #[.string s] w fun e w' => e = .returned (.int .i64 (en (numF 10 48 s.data.toList (some 0)))) ∧ w' = w := by
  obtain ⟨D, hD⟩ : ∃ D, numF 10 48 s.data.toList (some 0) = D := ⟨_, rfl⟩
  rw [hD]
  have HD : Hid (numF 10 48 s.data.toList (some 0) = D) := hD
  have HA : Hid (∀ c ∈ s.data.toList, isD c = true) := hd
  clear hD hd
  go_enter Tryd.func36, Tryd.ntmps36
  go_wp2_with fail
  go_loop [3, 4] (fun x y => ∃ (n : Nat) (o : Option Nat), x = .int .i64 (en o) ∧ y = .int .i64 (n : Int) ∧ n ≤ s.size ∧ Hid (∀ m, o = some m → m ≤ 4611686018427387904) ∧ Hid (numF 10 48 (s.data.toList.drop n) o = D)) (fun _ y => s.size - (intOf y).toNat)
  case atStart => exact ⟨0, some 0, rfl, rfl, by omega, (fun m h => by cases h; omega), by simpa [Hid] using HD.out⟩
  case round =>
    obtain ⟨n, o, rfl, rfl, hn, hO, hI⟩ := hrel
    by_cases h : n < s.size
    · have hI2 := hI.out
      rw [drop_at s n h] at hI2
      have hm : isD (s[n]'h) = true := HA.out _ (by
        have := List.mem_of_mem_drop (i := n) (l := s.data.toList) (a := s[n]'h) (by rw [drop_at s n h]; exact List.mem_cons_self)
        exact this)
      obtain ⟨c, hc⟩ : ∃ c, s[n]'h = c := ⟨_, rfl⟩
      rw [hc] at hI2 hm
      have hg : s[n]! = c := by rw [getElem!_pos s n h, hc]
      have hd1 := isD_of hm
      have HI2 : Hid (numF 10 48 (s.data.toList.drop (n + 1)) (add o 10 (c.toNat - 48)) = D) := hI2
      have hA := add_c o hO.out 10 (c.toNat - 48) (.inr (.inl rfl)) (by omega)
      have hc1 : (((c.toNat - 48 : Nat)) : Int) = (c.toNat : Int) - 48 := by omega
      rw [hc1] at hA
      have HO2 : Hid (∀ m, add o 10 (c.toNat - 48) = some m → m ≤ 4611686018427387904) := fun m h => add_le h
      generalize add o 10 (c.toNat - 48) = o2 at hA HI2 HO2
      generalize en o = eo at hA
      obtain ⟨e2, he2⟩ : ∃ e2, en o2 = e2 := ⟨_, rfl⟩
      rw [he2] at hA
      have HE : Hid (en o2 = e2) := he2
      clear hI2 hI hO he2 hm
      go_wp2_with (go_at_call 29; refine (hA _).mono ?_; rintro e w2 ⟨rfl, rfl⟩)
      go_round
      case rel => exact ⟨n + 1, o2, by rw [HE.out], rfl, by omega, HO2, HI2⟩
      case measure => simp [intOf]; omega
    · have HI2 : Hid (o = D) := by
        have := hI.out
        rw [drop_end s n h] at this
        exact this
      clear hI
      go_wp2_with fail
      go_ret
      rw [← HI2.out]
      exact ⟨rfl, rfl⟩
end Go.Proofs.YtodkpmnkdplpiaaDoor
