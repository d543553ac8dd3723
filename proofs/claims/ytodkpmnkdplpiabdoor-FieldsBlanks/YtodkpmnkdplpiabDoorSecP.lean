/- PROVED: the contract of the program's Seconds. -/
import Derived.Test.YtodkpmnkdplpiabDoorDecP
import Derived.Test.YtodkpmnkdplpiabDoorRefSec
namespace Go.Proofs.YtodkpmnkdplpiabDoor
open Go Go.RowKit
set_option linter.unusedVariables false

def Cuts (s T W B : ByteArray) (ng pt ok okp : Bool) (V P : Nat) : Prop :=
  (∀ w, Calls Tryd.prog 21 #[.string s, .string ⟨#[45]⟩] w fun e w' => e = .returned (.tuple #[.string T, .bool ng]) ∧ w' = w) ∧
  (∀ w, Calls Tryd.prog 22 #[.string T, .string ⟨#[46]⟩] w fun e w' => e = .returned (.tuple #[.string W, .string B, .bool pt]) ∧ Below w.heap.size w w') ∧
  (∀ w, Calls Tryd.prog 16 #[.string W, .int .i32 10] w fun e w' => e = .returned (.tuple #[.int .u64 (V : Int), .bool ok]) ∧ Below w.heap.size w w') ∧
  (∀ w, Calls Tryd.prog 23 #[.string B] w fun e w' => e = .returned (.tuple #[.int .i64 (P : Int), .bool okp]) ∧ Below w.heap.size w w')

set_option maxRecDepth 100000 in
theorem sec_bad1 (s T W B : ByteArray) (V P : Nat) (ng pt okp : Bool)  (hC : Cuts s T W B ng pt false okp V P) (w : World) :
    Calls Tryd.prog 8 #[.string s] w fun e w' => e = .returned (.tuple #[.int .i64 0, .int .i64 30]) ∧ Below w.heap.size w w' := by
  obtain ⟨h1, h2, h3, h4⟩ := hC
  go_enter Tryd.func8, Tryd.ntmps8
  go_wp2_with (first
    | (go_at_call 21; refine (h1 _).mono ?_; rintro e w2 ⟨rfl, hw2⟩; obtain rfl : w = w2 := hw2.symm)
    | (go_at_call 22; refine (h2 _).mono ?_; rintro e w3 ⟨rfl, b3⟩; have B3 : Hid (Below w.heap.size w w3) := b3; clear b3)
    | (go_at_call 16; refine (h3 _).mono ?_; rintro e w4 ⟨rfl, b4⟩; have B4 : Hid (Below w.heap.size w w4) := B3.out.trans (b4.mono B3.out.size); clear b4)
    | (go_at_call 23; refine (h4 _).mono ?_; rintro e w5 ⟨rfl, b5⟩; have B5 : Hid (Below w.heap.size w w5) := B4.out.trans (b5.mono B4.out.size); clear b5))
  go_ret2
  exact ⟨rfl, B5.out⟩
set_option maxRecDepth 100000 in
theorem sec_bad2 (s T W B : ByteArray) (V P : Nat) (ng pt okp : Bool)  (hC : Cuts s T W B ng pt true false V P) (w : World) :
    Calls Tryd.prog 8 #[.string s] w fun e w' => e = .returned (.tuple #[.int .i64 0, .int .i64 30]) ∧ Below w.heap.size w w' := by
  obtain ⟨h1, h2, h3, h4⟩ := hC
  go_enter Tryd.func8, Tryd.ntmps8
  go_wp2_with (first
    | (go_at_call 21; refine (h1 _).mono ?_; rintro e w2 ⟨rfl, hw2⟩; obtain rfl : w = w2 := hw2.symm)
    | (go_at_call 22; refine (h2 _).mono ?_; rintro e w3 ⟨rfl, b3⟩; have B3 : Hid (Below w.heap.size w w3) := b3; clear b3)
    | (go_at_call 16; refine (h3 _).mono ?_; rintro e w4 ⟨rfl, b4⟩; have B4 : Hid (Below w.heap.size w w4) := B3.out.trans (b4.mono B3.out.size); clear b4)
    | (go_at_call 23; refine (h4 _).mono ?_; rintro e w5 ⟨rfl, b5⟩; have B5 : Hid (Below w.heap.size w w5) := B4.out.trans (b5.mono B4.out.size); clear b5))
  go_ret2
  exact ⟨rfl, B5.out⟩
set_option maxRecDepth 100000 in
theorem sec_bad3 (s T W B : ByteArray) (V P : Nat) (ng pt okp : Bool) (hW : W.toList.isEmpty = true) (hC : Cuts s T W B ng pt true true V P) (w : World) :
    Calls Tryd.prog 8 #[.string s] w fun e w' => e = .returned (.tuple #[.int .i64 0, .int .i64 30]) ∧ Below w.heap.size w w' := by
  obtain ⟨h1, h2, h3, h4⟩ := hC
  go_enter Tryd.func8, Tryd.ntmps8
  go_wp2_with (first
    | (go_at_call 21; refine (h1 _).mono ?_; rintro e w2 ⟨rfl, hw2⟩; obtain rfl : w = w2 := hw2.symm)
    | (go_at_call 22; refine (h2 _).mono ?_; rintro e w3 ⟨rfl, b3⟩; have B3 : Hid (Below w.heap.size w w3) := b3; clear b3)
    | (go_at_call 16; refine (h3 _).mono ?_; rintro e w4 ⟨rfl, b4⟩; have B4 : Hid (Below w.heap.size w w4) := B3.out.trans (b4.mono B3.out.size); clear b4)
    | (go_at_call 23; refine (h4 _).mono ?_; rintro e w5 ⟨rfl, b5⟩; have B5 : Hid (Below w.heap.size w w5) := B4.out.trans (b5.mono B4.out.size); clear b5))
  go_ret2
  exact ⟨rfl, B5.out⟩
set_option maxRecDepth 100000 in
theorem sec_bad4 (s T W B : ByteArray) (V P : Nat) (ng pt okp : Bool) (hW : W.toList.isEmpty = false) (hB : B.toList.isEmpty = true) (hC : Cuts s T W B ng true true true V P) (w : World) :
    Calls Tryd.prog 8 #[.string s] w fun e w' => e = .returned (.tuple #[.int .i64 0, .int .i64 30]) ∧ Below w.heap.size w w' := by
  obtain ⟨h1, h2, h3, h4⟩ := hC
  go_enter Tryd.func8, Tryd.ntmps8
  go_wp2_with (first
    | (go_at_call 21; refine (h1 _).mono ?_; rintro e w2 ⟨rfl, hw2⟩; obtain rfl : w = w2 := hw2.symm)
    | (go_at_call 22; refine (h2 _).mono ?_; rintro e w3 ⟨rfl, b3⟩; have B3 : Hid (Below w.heap.size w w3) := b3; clear b3)
    | (go_at_call 16; refine (h3 _).mono ?_; rintro e w4 ⟨rfl, b4⟩; have B4 : Hid (Below w.heap.size w w4) := B3.out.trans (b4.mono B3.out.size); clear b4)
    | (go_at_call 23; refine (h4 _).mono ?_; rintro e w5 ⟨rfl, b5⟩; have B5 : Hid (Below w.heap.size w w5) := B4.out.trans (b5.mono B4.out.size); clear b5))
  go_ret2
  exact ⟨rfl, B5.out⟩
set_option maxRecDepth 100000 in
theorem sec_over_n (s T W B : ByteArray) (V P : Nat) (ng pt okp : Bool) (hW : W.toList.isEmpty = false) (hV : 9000000000 < V) (hC : Cuts s T W B ng false true true V P) (w : World) :
    Calls Tryd.prog 8 #[.string s] w fun e w' => e = .returned (.tuple #[.int .i64 0, .int .i64 31]) ∧ Below w.heap.size w w' := by
  obtain ⟨h1, h2, h3, h4⟩ := hC
  go_enter Tryd.func8, Tryd.ntmps8
  go_wp2_with (first
    | (go_at_call 21; refine (h1 _).mono ?_; rintro e w2 ⟨rfl, hw2⟩; obtain rfl : w = w2 := hw2.symm)
    | (go_at_call 22; refine (h2 _).mono ?_; rintro e w3 ⟨rfl, b3⟩; have B3 : Hid (Below w.heap.size w w3) := b3; clear b3)
    | (go_at_call 16; refine (h3 _).mono ?_; rintro e w4 ⟨rfl, b4⟩; have B4 : Hid (Below w.heap.size w w4) := B3.out.trans (b4.mono B3.out.size); clear b4)
    | (go_at_call 23; refine (h4 _).mono ?_; rintro e w5 ⟨rfl, b5⟩; have B5 : Hid (Below w.heap.size w w5) := B4.out.trans (b5.mono B4.out.size); clear b5))
  go_ret2
  exact ⟨rfl, B5.out⟩
set_option maxRecDepth 100000 in
theorem sec_pos_n (s T W B : ByteArray) (V P : Nat) (ng pt okp : Bool) (hW : W.toList.isEmpty = false) (hV : V ≤ 9000000000) (hP : P ≤ 1000000000) (hC : Cuts s T W B false false true true V P) (w : World) :
    Calls Tryd.prog 8 #[.string s] w fun e w' => e = .returned (.tuple #[.int .i64 (((V * 1000000000 + P : Nat)) : Int), .int .i64 0]) ∧ Below w.heap.size w w' := by
  obtain ⟨h1, h2, h3, h4⟩ := hC
  go_enter Tryd.func8, Tryd.ntmps8
  go_wp2_with (first
    | (go_at_call 21; refine (h1 _).mono ?_; rintro e w2 ⟨rfl, hw2⟩; obtain rfl : w = w2 := hw2.symm)
    | (go_at_call 22; refine (h2 _).mono ?_; rintro e w3 ⟨rfl, b3⟩; have B3 : Hid (Below w.heap.size w w3) := b3; clear b3)
    | (go_at_call 16; refine (h3 _).mono ?_; rintro e w4 ⟨rfl, b4⟩; have B4 : Hid (Below w.heap.size w w4) := B3.out.trans (b4.mono B3.out.size); clear b4)
    | (go_at_call 23; refine (h4 _).mono ?_; rintro e w5 ⟨rfl, b5⟩; have B5 : Hid (Below w.heap.size w w5) := B4.out.trans (b5.mono B4.out.size); clear b5))
  go_ret2
  exact ⟨rfl, B5.out⟩
set_option maxRecDepth 100000 in
theorem sec_neg_n (s T W B : ByteArray) (V P : Nat) (ng pt okp : Bool) (hW : W.toList.isEmpty = false) (hV : V ≤ 9000000000) (hP : P ≤ 1000000000) (hC : Cuts s T W B true false true true V P) (w : World) :
    Calls Tryd.prog 8 #[.string s] w fun e w' => e = .returned (.tuple #[.int .i64 (-(((V * 1000000000 + P : Nat)) : Int)), .int .i64 0]) ∧ Below w.heap.size w w' := by
  obtain ⟨h1, h2, h3, h4⟩ := hC
  go_enter Tryd.func8, Tryd.ntmps8
  go_wp2_with (first
    | (go_at_call 21; refine (h1 _).mono ?_; rintro e w2 ⟨rfl, hw2⟩; obtain rfl : w = w2 := hw2.symm)
    | (go_at_call 22; refine (h2 _).mono ?_; rintro e w3 ⟨rfl, b3⟩; have B3 : Hid (Below w.heap.size w w3) := b3; clear b3)
    | (go_at_call 16; refine (h3 _).mono ?_; rintro e w4 ⟨rfl, b4⟩; have B4 : Hid (Below w.heap.size w w4) := B3.out.trans (b4.mono B3.out.size); clear b4)
    | (go_at_call 23; refine (h4 _).mono ?_; rintro e w5 ⟨rfl, b5⟩; have B5 : Hid (Below w.heap.size w w5) := B4.out.trans (b5.mono B4.out.size); clear b5))
  go_ret2
  exact ⟨rfl, B5.out⟩
set_option maxRecDepth 100000 in
theorem sec_over_p (s T W B : ByteArray) (V P : Nat) (ng pt okp : Bool) (hW : W.toList.isEmpty = false) (hB : B.toList.isEmpty = false) (hV : 9000000000 < V) (hC : Cuts s T W B ng true true true V P) (w : World) :
    Calls Tryd.prog 8 #[.string s] w fun e w' => e = .returned (.tuple #[.int .i64 0, .int .i64 31]) ∧ Below w.heap.size w w' := by
  obtain ⟨h1, h2, h3, h4⟩ := hC
  go_enter Tryd.func8, Tryd.ntmps8
  go_wp2_with (first
    | (go_at_call 21; refine (h1 _).mono ?_; rintro e w2 ⟨rfl, hw2⟩; obtain rfl : w = w2 := hw2.symm)
    | (go_at_call 22; refine (h2 _).mono ?_; rintro e w3 ⟨rfl, b3⟩; have B3 : Hid (Below w.heap.size w w3) := b3; clear b3)
    | (go_at_call 16; refine (h3 _).mono ?_; rintro e w4 ⟨rfl, b4⟩; have B4 : Hid (Below w.heap.size w w4) := B3.out.trans (b4.mono B3.out.size); clear b4)
    | (go_at_call 23; refine (h4 _).mono ?_; rintro e w5 ⟨rfl, b5⟩; have B5 : Hid (Below w.heap.size w w5) := B4.out.trans (b5.mono B4.out.size); clear b5))
  go_ret2
  exact ⟨rfl, B5.out⟩
set_option maxRecDepth 100000 in
theorem sec_pos_p (s T W B : ByteArray) (V P : Nat) (ng pt okp : Bool) (hW : W.toList.isEmpty = false) (hB : B.toList.isEmpty = false) (hV : V ≤ 9000000000) (hP : P ≤ 1000000000) (hC : Cuts s T W B false true true true V P) (w : World) :
    Calls Tryd.prog 8 #[.string s] w fun e w' => e = .returned (.tuple #[.int .i64 (((V * 1000000000 + P : Nat)) : Int), .int .i64 0]) ∧ Below w.heap.size w w' := by
  obtain ⟨h1, h2, h3, h4⟩ := hC
  go_enter Tryd.func8, Tryd.ntmps8
  go_wp2_with (first
    | (go_at_call 21; refine (h1 _).mono ?_; rintro e w2 ⟨rfl, hw2⟩; obtain rfl : w = w2 := hw2.symm)
    | (go_at_call 22; refine (h2 _).mono ?_; rintro e w3 ⟨rfl, b3⟩; have B3 : Hid (Below w.heap.size w w3) := b3; clear b3)
    | (go_at_call 16; refine (h3 _).mono ?_; rintro e w4 ⟨rfl, b4⟩; have B4 : Hid (Below w.heap.size w w4) := B3.out.trans (b4.mono B3.out.size); clear b4)
    | (go_at_call 23; refine (h4 _).mono ?_; rintro e w5 ⟨rfl, b5⟩; have B5 : Hid (Below w.heap.size w w5) := B4.out.trans (b5.mono B4.out.size); clear b5))
  go_ret2
  exact ⟨rfl, B5.out⟩
set_option maxRecDepth 100000 in
theorem sec_neg_p (s T W B : ByteArray) (V P : Nat) (ng pt okp : Bool) (hW : W.toList.isEmpty = false) (hB : B.toList.isEmpty = false) (hV : V ≤ 9000000000) (hP : P ≤ 1000000000) (hC : Cuts s T W B true true true true V P) (w : World) :
    Calls Tryd.prog 8 #[.string s] w fun e w' => e = .returned (.tuple #[.int .i64 (-(((V * 1000000000 + P : Nat)) : Int)), .int .i64 0]) ∧ Below w.heap.size w w' := by
  obtain ⟨h1, h2, h3, h4⟩ := hC
  go_enter Tryd.func8, Tryd.ntmps8
  go_wp2_with (first
    | (go_at_call 21; refine (h1 _).mono ?_; rintro e w2 ⟨rfl, hw2⟩; obtain rfl : w = w2 := hw2.symm)
    | (go_at_call 22; refine (h2 _).mono ?_; rintro e w3 ⟨rfl, b3⟩; have B3 : Hid (Below w.heap.size w w3) := b3; clear b3)
    | (go_at_call 16; refine (h3 _).mono ?_; rintro e w4 ⟨rfl, b4⟩; have B4 : Hid (Below w.heap.size w w4) := B3.out.trans (b4.mono B3.out.size); clear b4)
    | (go_at_call 23; refine (h4 _).mono ?_; rintro e w5 ⟨rfl, b5⟩; have B5 : Hid (Below w.heap.size w w5) := B4.out.trans (b5.mono B4.out.size); clear b5))
  go_ret2
  exact ⟨rfl, B5.out⟩

/-- What the program's Seconds answers. -/
def secW (W B : List UInt8) (pt : Bool) : Option (Option Nat) :=
  if (digs 10 W 0).2 = false ∨ (nano B 0 100000000).2 = false ∨ W = [] ∨ (pt = true ∧ B = []) then none
  else if 9000000000 < (digs 10 W 0).1 then some none else some (some ((digs 10 W 0).1 * 1000000000 + (nano B 0 100000000).1))
def secQ (t : List UInt8) : Option (Option Nat) := if Lib.indexByte t 46 = -1 then secW t [] false else secW (t.take (Lib.indexByte t 46).toNat) (t.drop ((Lib.indexByte t 46).toNat + 1)) true
def secP (l : List UInt8) : Int × Int := ansS (Lib.hasPrefix l [45]) (secQ (Lib.trimPrefix l [45]))

theorem emp_yes {S : ByteArray} (h : S.data.toList = []) : S.toList.isEmpty = true := by rw [ByteArray.toList_eq, h]; rfl
theorem emp_no {S : ByteArray} (h : ¬ S.data.toList = []) : S.toList.isEmpty = false := by
  rw [ByteArray.toList_eq]
  cases hl : S.data.toList with
  | nil => exact absurd hl h
  | cons a b => rfl
theorem nano_le : ∀ (l : List UInt8) (v k : Nat), v + 10 * k ≤ 1000000000 → (nano l v k).1 ≤ 1000000000
  | [], v, k, h => by show v ≤ _; omega
  | c :: r, v, k, h => by
    unfold nano
    split
    · show (0 : Nat) ≤ _; omega
    · rename_i hc
      have hdk : (c.toNat - 48) * k ≤ 9 * k := Nat.mul_le_mul_right k (by omega)
      exact nano_le r _ _ (by omega)

theorem sec_all (s T W B : ByteArray) (ng pt : Bool) (h1 : ∀ w, Calls Tryd.prog 21 #[.string s, .string ⟨#[45]⟩] w fun e w' => e = .returned (.tuple #[.string T, .bool ng]) ∧ w' = w)
    (h2 : ∀ w, Calls Tryd.prog 22 #[.string T, .string ⟨#[46]⟩] w fun e w' => e = .returned (.tuple #[.string W, .string B, .bool pt]) ∧ Below w.heap.size w w') (w : World) :
    Calls Tryd.prog 8 #[.string s] w fun e w' => e = .returned (.tuple #[.int .i64 (ansS ng (secW W.data.toList B.data.toList pt)).1, .int .i64 (ansS ng (secW W.data.toList B.data.toList pt)).2]) ∧ Below w.heap.size w w' := by
  have h3 := digits_c W 10 (.inr rfl)
  have h4 := nano_c B
  have hP := nano_le B.data.toList 0 100000000 (by omega)
  obtain ⟨A, hA⟩ : ∃ A, secW W.data.toList B.data.toList pt = A := ⟨_, rfl⟩
  rw [hA]
  unfold secW at hA
  obtain ⟨V, hVe⟩ : ∃ V, (digs 10 W.data.toList 0).1 = V := ⟨_, rfl⟩
  obtain ⟨ok, hok⟩ : ∃ ok, (digs 10 W.data.toList 0).2 = ok := ⟨_, rfl⟩
  obtain ⟨P, hPe⟩ : ∃ P, (nano B.data.toList 0 100000000).1 = P := ⟨_, rfl⟩
  obtain ⟨okp, hokp⟩ : ∃ okp, (nano B.data.toList 0 100000000).2 = okp := ⟨_, rfl⟩
  rw [hVe, hok] at h3
  rw [hPe, hokp] at h4
  rw [hVe, hok, hPe, hokp] at hA
  rw [hPe] at hP
  have hC : Cuts s T W B ng pt ok okp V P := ⟨h1, h2, h3, h4⟩
  clear h1 h2 h3 h4 hVe hok hPe hokp
  cases ok with
  | false => rw [if_pos (.inl rfl)] at hA; rw [← hA]; exact sec_bad1 s T W B V P ng pt okp hC w
  | true =>
    cases okp with
    | false => rw [if_pos (.inr (.inl rfl))] at hA; rw [← hA]; exact sec_bad2 s T W B V P ng pt true hC w
    | true =>
      by_cases hW : W.data.toList = []
      · rw [if_pos (.inr (.inr (.inl hW)))] at hA; rw [← hA]; exact sec_bad3 s T W B V P ng pt true (emp_yes hW) hC w
      · by_cases hB : pt = true ∧ B.data.toList = []
        · rw [if_pos (.inr (.inr (.inr hB)))] at hA
          rw [← hA]
          obtain ⟨rfl, hB⟩ := hB
          exact sec_bad4 s T W B V P ng true true (emp_no hW) (emp_yes hB) hC w
        · rw [if_neg (by intro h; rcases h with h | h | h | h; cases h; cases h; exact hW h; exact hB h)] at hA
          by_cases hV : 9000000000 < V
          · rw [if_pos hV] at hA
            rw [← hA]
            cases pt with
            | false => exact sec_over_n s T W B V P ng false true (emp_no hW) hV hC w
            | true => exact sec_over_p s T W B V P ng true true (emp_no hW) (emp_no (fun h => hB ⟨rfl, h⟩)) hV hC w
          · rw [if_neg hV] at hA
            rw [← hA]
            cases ng with
            | false =>
              rw [ansS_pos]
              cases pt with
              | false => exact sec_pos_n s T W B V P false false true (emp_no hW) (by omega) hP hC w
              | true => exact sec_pos_p s T W B V P false true true (emp_no hW) (emp_no (fun h => hB ⟨rfl, h⟩)) (by omega) hP hC w
            | true =>
              rw [ansS_neg]
              cases pt with
              | false => exact sec_neg_n s T W B V P true false true (emp_no hW) (by omega) hP hC w
              | true => exact sec_neg_p s T W B V P true true true (emp_no hW) (emp_no (fun h => hB ⟨rfl, h⟩)) (by omega) hP hC w

theorem trimP_len (l p : List UInt8) : (Lib.trimPrefix l p).length ≤ l.length := by
  unfold Lib.trimPrefix
  split
  · rw [List.length_drop]; omega
  · exact Nat.le_refl _
theorem index_lt : ∀ (l : List UInt8) (c : UInt8), Lib.indexByte l c = -1 ∨ ∃ i : Nat, Lib.indexByte l c = (i : Int) ∧ i < l.length
  | [], c => .inl rfl
  | b :: l, c => by
    unfold Lib.indexByte
    split
    · exact .inr ⟨0, rfl, by simp⟩
    · rcases index_lt l c with h | ⟨i, h, hi⟩
      · rw [h]; exact .inl rfl
      · rw [h]
        have : ((i : Int) == -1) = false := by simp
        rw [this]
        exact .inr ⟨i + 1, rfl, by simpa using hi⟩

theorem sec_c (s : ByteArray) (hs : s.size ≤ 9223372036854775807) (w : World) :
    Calls Tryd.prog 8 #[.string s] w fun e w' => e = .returned (.tuple #[.int .i64 (secP s.data.toList).1, .int .i64 (secP s.data.toList).2]) ∧ Below w.heap.size w w' := by
  have h1 : ∀ w, Calls Tryd.prog 21 #[.string s, .string ⟨#[45]⟩] w fun e w' => e = .returned (.tuple #[.string ⟨(Lib.trimPrefix s.data.toList [45]).toArray⟩, .bool (Lib.hasPrefix s.data.toList [45])]) ∧ w' = w := sh_strings_CutPrefix s ⟨#[45]⟩
  have hl := trimP_len s.data.toList [45]
  rw [len_eq] at hl
  obtain ⟨t, ht⟩ : ∃ t, Lib.trimPrefix s.data.toList [45] = t := ⟨_, rfl⟩
  unfold secP
  rw [ht] at h1 hl ⊢
  have htl : (⟨t.toArray⟩ : ByteArray).data.toList = t := rfl
  have hts : (⟨t.toArray⟩ : ByteArray).size = t.length := size_mk' t
  rcases index_lt t 46 with h | ⟨i, h, hi⟩
  · unfold secQ
    rw [if_pos h]
    exact sec_all s ⟨t.toArray⟩ ⟨t.toArray⟩ ⟨#[]⟩ _ false h1 (fun w => cut_no _ h w) w
  · unfold secQ
    rw [if_neg (by rw [h]; omega), h, Int.toNat_natCast]
    have := sec_all s ⟨t.toArray⟩ _ _ _ true h1 (fun w => cut_yes ⟨t.toArray⟩ (by rw [hts]; omega) i h (by rw [hts]; exact hi) w) w
    rw [ext_list_to, ext_list] at this
    exact this
end Go.Proofs.YtodkpmnkdplpiabDoor
