/- PROVED: contracts of the functions that go through a text: digits, nanoseconds; the reference's run, number. -/
import Derived.Test.YtodkpmnkdplpiabDoorSmall
import Derived.Laws.RangeAny
import Derived.LoopTactic
namespace Go.Proofs.YtodkpmnkdplpiabDoor
open Go Go.RowKit

theorem len_eq (s : ByteArray) : s.data.toList.length = s.size := Array.length_toList
theorem drop_at (s : ByteArray) (pos : Nat) (h : pos < s.size) : s.data.toList.drop pos = s[pos]'h :: s.data.toList.drop (pos + 1) := by
  have hl : pos < s.data.toList.length := by rw [len_eq]; exact h
  rw [List.drop_eq_getElem_cons hl]
  rfl
theorem drop_end (s : ByteArray) (pos : Nat) (h : ¬ pos < s.size) : s.data.toList.drop pos = [] := List.drop_of_length_le (by rw [len_eq]; omega)
theorem iter_below (w : World) (s : ByteArray) (pos : Nat) : Below w.heap.size w (w.iter s pos) := (Below.refl _ w).alloc (Nat.le_refl _) _

set_option maxRecDepth 100000 in
theorem digits_c (s : ByteArray) (b : Nat) (hb : b = 8 ∨ b = 10) (w : World) :
    Calls Tryd.prog 16 #[.string s, .int .i32 (b : Int)] w fun e w' => e = .returned (.tuple #[.int .u64 ((digs b s.data.toList 0).1 : Nat), .bool (digs b s.data.toList 0).2]) ∧ Below w.heap.size w w' := by
  have hbb : Base b := by rcases hb with rfl | rfl <;> simp [Base]
  have hb2 : 8 ≤ b ∧ b ≤ 10 := by omega
  clear hb
  obtain ⟨D, hD⟩ : ∃ D, digs b s.data.toList 0 = D := ⟨_, rfl⟩
  rw [hD]
  have HD : Hid (digs b s.data.toList 0 = D) := hD
  clear hD
  go_enter Tryd.func16, Tryd.ntmps16
  go_wp2_with fail
  go_loopw [6] (fun x wr => ∃ pos v : Nat, x = .int .u64 (v : Int) ∧ v < 4611686018427388160 ∧ wr = w.iter s pos ∧ pos ≤ s.size ∧ Hid (digs b (s.data.toList.drop pos) v = D)) (fun _ wr => s.size - wr.iterPos w.heap.size)
  case atStart => exact ⟨0, 0, rfl, by omega, rfl, by omega, HD.out⟩
  case round =>
    obtain ⟨pos, v, rfl, hv, rfl, hp, hI⟩ := hrel
    by_cases h : pos < s.size
    · have hnx : ∀ ty, (Instr.next (.pointer (some ⟨w.heap.size, 0, none⟩)) true ty).run Tryd.prog (w.iter s pos) = _ := fun ty => run_next_any w s pos ty h
      have hI2 := hI.out
      rw [drop_at s pos h] at hI2
      by_cases ha : (s[pos]'h).toNat < 128
      · rw [decode_ascii s pos h ha] at hnx
        obtain ⟨c, hc⟩ : ∃ c, (s[pos]'h).toNat = c := ⟨_, rfl⟩
        simp only [digs, hc] at hI2
        rw [hc] at hnx ha
        clear hc hI
        by_cases hd : c < 48 ∨ 48 + b ≤ c
        · rw [if_pos hd] at hI2
          have HI2 : Hid ((0, false) = D) := hI2
          clear hI2
          rcases hd with hd | hd
          · go_wp2_with fail
            go_ret2
            rw [← HI2.out]
            exact ⟨rfl, iter_below _ _ _⟩
          · have h48 : ¬ c < 48 := by omega
            go_wp2_with fail
            go_ret2
            rw [← HI2.out]
            exact ⟨rfl, iter_below _ _ _⟩
        · rw [if_neg hd] at hI2
          have HI2 : Hid (digs b (s.data.toList.drop (pos + 1)) (lay v b (c - 48)) = D) := hI2
          have hl : lay v b (c - 48) < 4611686018427388160 := lay_lt (by omega) (by omega) (by omega)
          have hL := lay_c v b (c - 48) (by omega) hbb (by omega)
          have hc1 : (((c - 48 : Nat)) : Int) = (c : Int) - 48 := by omega
          rw [hc1] at hL
          generalize lay v b (c - 48) = L at hL HI2 hl
          clear hI2
          have hd1 : 48 ≤ c := by omega
          have hd2 : c < 48 + b := by omega
          go_wp2_with (go_at_call 25; refine (hL _).mono ?_; rintro e w2 ⟨rfl, rfl⟩)
          go_roundw
          case rel => exact ⟨pos + 1, L, rfl, hl, rfl, by omega, HI2⟩
          case measure => simp; omega
      · have hh := decode_high s pos h (by omega)
        have hle := decode_le s pos
        obtain ⟨R, hR⟩ : ∃ R, (Utf8.decode s pos).1 = R := ⟨_, rfl⟩
        rw [hR] at hnx hle hh
        have hc : (s[pos]'h).toNat < 48 ∨ 48 + b ≤ (s[pos]'h).toNat := by omega
        simp only [digs, if_pos hc] at hI2
        have HI2 : Hid ((0, false) = D) := hI2
        have hR1 : 128 ≤ R := hh.1
        clear hI2 hI hh hR hc ha
        go_wp2_with fail
        go_ret2
        rw [← HI2.out]
        exact ⟨rfl, iter_below _ _ _⟩
    · have hnx : ∀ ty, (Instr.next (.pointer (some ⟨w.heap.size, 0, none⟩)) true ty).run Tryd.prog (w.iter s pos) = _ := fun ty => run_next_end w s pos ty h
      have HI2 : Hid ((v, true) = D) := by
        have := hI.out
        rw [drop_end s pos h] at this
        exact this
      clear hI
      go_wp2_with fail
      go_ret2
      rw [← HI2.out]
      exact ⟨rfl, iter_below _ _ _⟩

set_option maxRecDepth 100000 in
theorem nano_c (s : ByteArray) (w : World) :
    Calls Tryd.prog 23 #[.string s] w fun e w' => e = .returned (.tuple #[.int .i64 ((nano s.data.toList 0 100000000).1 : Nat), .bool (nano s.data.toList 0 100000000).2]) ∧ Below w.heap.size w w' := by
  obtain ⟨D, hD⟩ : ∃ D, nano s.data.toList 0 100000000 = D := ⟨_, rfl⟩
  rw [hD]
  have HD : Hid (nano s.data.toList 0 100000000 = D) := hD
  clear hD
  go_enter Tryd.func23, Tryd.ntmps23
  go_wp2_with fail
  go_loopw [4, 5] (fun x y wr => ∃ pos v k : Nat, x = .int .i64 (v : Int) ∧ y = .int .i64 (k : Int) ∧ v + 10 * k ≤ 1000000000 ∧ wr = w.iter s pos ∧ pos ≤ s.size ∧ Hid (nano (s.data.toList.drop pos) v k = D)) (fun _ _ wr => s.size - wr.iterPos w.heap.size)
  case atStart => exact ⟨0, 0, 100000000, rfl, rfl, by omega, rfl, by omega, HD.out⟩
  case round =>
    obtain ⟨pos, v, k, rfl, rfl, hv, rfl, hp, hI⟩ := hrel
    by_cases h : pos < s.size
    · have hnx : ∀ ty, (Instr.next (.pointer (some ⟨w.heap.size, 0, none⟩)) true ty).run Tryd.prog (w.iter s pos) = _ := fun ty => run_next_any w s pos ty h
      have hI2 := hI.out
      rw [drop_at s pos h] at hI2
      by_cases ha : (s[pos]'h).toNat < 128
      · rw [decode_ascii s pos h ha] at hnx
        obtain ⟨c, hc⟩ : ∃ c, (s[pos]'h).toNat = c := ⟨_, rfl⟩
        simp only [nano, hc] at hI2
        rw [hc] at hnx ha
        clear hc hI
        by_cases hd : c < 48 ∨ 57 < c
        · rw [if_pos hd] at hI2
          have HI2 : Hid ((0, false) = D) := hI2
          clear hI2
          rcases hd with hd | hd
          · go_wp2_with fail
            go_ret2
            rw [← HI2.out]
            exact ⟨rfl, iter_below _ _ _⟩
          · have h48 : ¬ c < 48 := by omega
            go_wp2_with fail
            go_ret2
            rw [← HI2.out]
            exact ⟨rfl, iter_below _ _ _⟩
        · rw [if_neg hd] at hI2
          obtain ⟨d, rfl⟩ : ∃ d, c = d + 48 := ⟨c - 48, by omega⟩
          rw [Nat.add_sub_cancel] at hI2
          have HI2 : Hid (nano (s.data.toList.drop (pos + 1)) (v + d * k) (k / 10) = D) := hI2
          clear hI2
          have hdk : d * k ≤ 9 * k := Nat.mul_le_mul_right k (by omega)
          have hdc : ((d : Int)) * (k : Int) = ((d * k : Nat) : Int) := by rw [Int.natCast_mul]
          have hd9 : d ≤ 9 := by omega
          clear hd
          obtain ⟨M, hM⟩ : ∃ M, M = d * k := ⟨_, rfl⟩
          rw [← hM] at hdk hdc HI2
          clear hM
          have hd48 : ((d : Int) + 48 - 48) = d := by omega
          go_wp2_with fail
          go_roundw
          case rel => exact ⟨pos + 1, v + M, k / 10, by rfl, by rfl, by omega, rfl, by omega, HI2⟩
          case measure => simp; omega
      · have hh := decode_high s pos h (by omega)
        have hle := decode_le s pos
        obtain ⟨R, hR⟩ : ∃ R, (Utf8.decode s pos).1 = R := ⟨_, rfl⟩
        rw [hR] at hnx hle hh
        have hc : (s[pos]'h).toNat < 48 ∨ 57 < (s[pos]'h).toNat := by omega
        simp only [nano, if_pos hc] at hI2
        have HI2 : Hid ((0, false) = D) := hI2
        have hR1 : 128 ≤ R := hh.1
        clear hI2 hI hh hR hc ha
        go_wp2_with fail
        go_ret2
        rw [← HI2.out]
        exact ⟨rfl, iter_below _ _ _⟩
    · have hnx : ∀ ty, (Instr.next (.pointer (some ⟨w.heap.size, 0, none⟩)) true ty).run Tryd.prog (w.iter s pos) = _ := fun ty => run_next_end w s pos ty h
      have HI2 : Hid ((v, true) = D) := by
        have := hI.out
        rw [drop_end s pos h] at this
        exact this
      clear hI
      go_wp2_with fail
      go_ret2
      rw [← HI2.out]
      exact ⟨rfl, iter_below _ _ _⟩

theorem isD_of {c : UInt8} (h : isD c = true) : 48 ≤ c.toNat ∧ c.toNat ≤ 57 := of_decide_eq_true h

end Go.Proofs.YtodkpmnkdplpiabDoor
