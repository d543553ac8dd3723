/- PROVED: the contract of the program's Octal. -/
import Derived.Test.YtodkpmnkdplpiabDoorPut
import Derived.Test.YtodkpmnkdplpiabDoorFmt
import Derived.Test.YtodkpmnkdplpiabDoorPure2
import Derived.Deep.DeepFit
namespace Go.Proofs.YtodkpmnkdplpiabDoor
open Go Go.RowKit
set_option linter.unusedVariables false

/-- What the program's Octal reads out of a text. -/
def octQ (t : List UInt8) : Int × Int := if (digs 8 t 0).2 then sgn false (digs 8 t 0).1 else (0, 30)
def octP : List UInt8 → Int × Int
  | [] => (0, 0)
  | c :: r => if c.toNat = 128 then sgn false (high r 0) else octQ (Lib.trimRightS (Lib.trimLeftB (c :: r) 32) [32, 0])
theorem digs_lt {b : Nat} (hb : 2 ≤ b) (hb2 : b ≤ 256) : ∀ (l : List UInt8) (v : Nat), v < 4611686018427388160 → (digs b l v).1 < 4611686018427388160
  | [], v, h => h
  | c :: r, v, h => by
    unfold digs
    split
    · show (0 : Nat) < _
      omega
    · exact digs_lt hb hb2 r _ (lay_lt hb (by omega) hb2)
theorem high_lt : ∀ (l : List UInt8) (v : Nat), v < 4611686018427388160 → high l v < 4611686018427388160
  | [], v, h => h
  | c :: r, v, h => high_lt r _ (lay_lt (b := 256) (by omega) c.toNat_lt (by omega))
theorem trimL_len (l : List UInt8) (c : UInt8) : (Lib.trimLeftB l c).length ≤ l.length := (List.dropWhile_sublist _).length_le
theorem size_mk' (a : List UInt8) : (⟨a.toArray⟩ : ByteArray).size = a.length := by simp [ByteArray.size]
theorem ascii2 : ∀ (j : Nat) b, (⟨#[32, 0]⟩ : ByteArray).data.toList[j]? = some b → b.toNat < 128 := by
  intro j b h
  match j, h with
  | 0, h => cases h; decide
  | 1, h => cases h; decide
  | j + 2, h => simp at h
theorem conv_bs {w : World} {v : Value} {xs : List UInt8} (h : Bs w v xs) : (convert 23 9 v).run Tryd.prog w = .ok (.string ⟨xs.toArray⟩) w := by
  rcases h with ⟨rfl, a, c, rfl⟩ | ⟨b, o, c, rfl, hc, hA⟩
  · cases a with
    | none =>
      rw [run_convert_bytes_nil w 23 5 Tryd.underlying23 Tryd.underlying5 0 c 9 Tryd.underlying9]
      rfl
    | some a => exact run_convert_bytes_back (P := Tryd.prog) w 23 9 5 a c [] Tryd.underlying23 Tryd.underlying5 Tryd.underlying9 (fun j hj => absurd hj (by simp))
  · exact run_convert_bytes_back (P := Tryd.prog) w 23 9 5 ⟨b, o, none⟩ c xs Tryd.underlying23 Tryd.underlying5 Tryd.underlying9 (fun j hj => by
      rw [Lib.add_plain, hA j hj, List.getD_eq_getElem?_getD, List.getElem?_eq_getElem hj, Option.getD_some])

/-- The text's part of Octal, by its callees. -/
theorem oct_parts (xs : List UInt8) (hl : xs.length ≤ 9223372036854775807) : ∃ S1 S2 : ByteArray, ∃ V : Nat, ∃ ok : Bool, V < 18446744073709551616 ∧ octQ (Lib.trimRightS (Lib.trimLeftB xs 32) [32, 0]) = (if ok then sgn false V else (0, 30)) ∧
    (∀ w, Calls Tryd.prog 15 #[.string ⟨xs.toArray⟩, .string ⟨#[32]⟩] w fun e w' => e = .returned (.string S1) ∧ w' = w) ∧
    (∀ w, Calls Tryd.prog 14 #[.string S1, .string ⟨#[32, 0]⟩] w fun e w' => e = .returned (.string S2) ∧ Below w.heap.size w w') ∧
    (∀ w, Calls Tryd.prog 16 #[.string S2, .int .i32 8] w fun e w' => e = .returned (.tuple #[.int .u64 (V : Int), .bool ok]) ∧ Below w.heap.size w w') := by
  refine ⟨⟨(Lib.trimLeftB xs 32).toArray⟩, ⟨(Lib.trimRightS (Lib.trimLeftB xs 32) [32, 0]).toArray⟩, (digs 8 (Lib.trimRightS (Lib.trimLeftB xs 32) [32, 0]) 0).1, (digs 8 (Lib.trimRightS (Lib.trimLeftB xs 32) [32, 0]) 0).2, ?_, rfl, ?_, ?_, ?_⟩
  · exact Nat.lt_of_lt_of_le (digs_lt (by omega) (by omega) _ 0 (by omega)) (by omega)
  · exact fun w => sh_strings_TrimLeft_one ⟨xs.toArray⟩ 32 (by decide) w
  · exact fun w => sh_strings_TrimRight_set ⟨(Lib.trimLeftB xs 32).toArray⟩ ⟨#[32, 0]⟩ w (by rw [size_mk']; exact Nat.le_trans (trimL_len _ _) hl) (by decide) ascii2
  · exact fun w => digits_c ⟨(Lib.trimRightS (Lib.trimLeftB xs 32) [32, 0]).toArray⟩ 8 (.inl rfl) w

set_option maxRecDepth 100000 in
theorem oct_none (a : Option Addr) (c : Nat) (w : World) :
    Calls Tryd.prog 6 #[.slice a 0 c] w fun e w' => e = .returned (.tuple #[.int .i64 0, .int .i64 0]) ∧ Below w.heap.size w w' := by
  have hcv : ∀ W, (convert 23 9 (.slice a 0 c)).run Tryd.prog W = .ok (.string ⟨([] : List UInt8).toArray⟩) W := fun W => conv_bs (xs := []) (Or.inl ⟨rfl, a, c, rfl⟩)
  obtain ⟨S1, S2, V, ok, hV, hq, h1, h2, h3⟩ := oct_parts [] (by simp)
  have hq2 : (0, 0) = (if ok then sgn false V else (0, 30)) := hq
  have hok : ok = true := by cases ok with
    | true => rfl
    | false => simp at hq2
  subst hok
  have hs := signed_c false V hV
  rw [if_pos rfl] at hq2
  rw [← hq2] at hs
  clear hq hq2
  go_enter Tryd.func6, Tryd.ntmps6
  go_wp2_with (first
    | (go_at_call 15; refine (h1 _).mono ?_; rintro e w2 ⟨rfl, hw2⟩; obtain rfl : w = w2 := hw2.symm)
    | (go_at_call 14; refine (h2 _).mono ?_; rintro e w3 ⟨rfl, b3⟩; have B3 : Hid (Below w.heap.size w w3) := b3; clear b3)
    | (go_at_call 16; refine (h3 _).mono ?_; rintro e w4 ⟨rfl, b4⟩; have B4 : Hid (Below w.heap.size w w4) := B3.out.trans (b4.mono B3.out.size); clear b4)
    | (go_at_call 12; refine (hs _).mono ?_; rintro e w5 ⟨rfl, hw5⟩; obtain rfl : w4 = w5 := hw5.symm))
  go_ret2
  exact ⟨rfl, B4.out⟩

set_option maxRecDepth 100000 in
theorem oct_text (b o c : Nat) (xs : List UInt8) (hc : xs.length ≤ c) (hl : xs.length ≤ 9223372036854775807) (h0 : 0 < xs.length) (h128 : (xs.getD 0 0).toNat ≠ 128) (w : World) (hA : At w b o xs) :
    Calls Tryd.prog 6 #[.slice (some ⟨b, o, none⟩) xs.length c] w fun e w' => e = .returned (.tuple #[.int .i64 (octQ (Lib.trimRightS (Lib.trimLeftB xs 32) [32, 0])).1, .int .i64 (octQ (Lib.trimRightS (Lib.trimLeftB xs 32) [32, 0])).2]) ∧ Below w.heap.size w w' := by
  have hcv : (convert 23 9 (.slice (some ⟨b, o, none⟩) xs.length c)).run Tryd.prog w = .ok (.string ⟨xs.toArray⟩) w := conv_bs (Or.inr ⟨b, o, c, rfl, hc, hA⟩)
  obtain ⟨S1, S2, V, ok, hV, hq, h1, h2, h3⟩ := oct_parts xs hl
  have hc0 := hA 0 h0
  rw [Nat.add_zero] at hc0
  obtain ⟨q0, hq0⟩ : ∃ q, (xs.getD 0 0).toNat = q := ⟨_, rfl⟩
  rw [hq0] at hc0 h128
  have h128b : ((q0 : Int) == 128) = false := by simp; omega
  obtain ⟨S0, hS0⟩ : ∃ S0 : ByteArray, (⟨xs.toArray⟩ : ByteArray) = S0 := ⟨_, rfl⟩
  rw [hS0] at hcv h1
  obtain ⟨n, hn⟩ : ∃ n, xs.length = n := ⟨_, rfl⟩
  rw [hn] at hcv hc hl h0 ⊢
  obtain ⟨D, hD⟩ : ∃ D, octQ (Lib.trimRightS (Lib.trimLeftB xs 32) [32, 0]) = D := ⟨_, rfl⟩
  rw [hD] at hq ⊢
  clear hD hn hS0 hq0 hA
  cases ok with
  | true =>
    have hs := signed_c false V hV
    rw [if_pos rfl] at hq
    rw [← hq] at hs
    clear hq
    go_enter Tryd.func6, Tryd.ntmps6
    go_wp2_with (first
      | (go_at_call 15; refine (h1 _).mono ?_; rintro e w2 ⟨rfl, hw2⟩; obtain rfl : w = w2 := hw2.symm)
      | (go_at_call 14; refine (h2 _).mono ?_; rintro e w3 ⟨rfl, b3⟩; have B3 : Hid (Below w.heap.size w w3) := b3; clear b3)
      | (go_at_call 16; refine (h3 _).mono ?_; rintro e w4 ⟨rfl, b4⟩; have B4 : Hid (Below w.heap.size w w4) := B3.out.trans (b4.mono B3.out.size); clear b4)
      | (go_at_call 12; refine (hs _).mono ?_; rintro e w5 ⟨rfl, hw5⟩; obtain rfl : w4 = w5 := hw5.symm))
    go_ret2
    exact ⟨rfl, B4.out⟩
  | false =>
    have HQ : Hid (D = (0, 30)) := hq
    clear hq
    go_enter Tryd.func6, Tryd.ntmps6
    go_wp2_with (first
      | (go_at_call 15; refine (h1 _).mono ?_; rintro e w2 ⟨rfl, hw2⟩; obtain rfl : w = w2 := hw2.symm)
      | (go_at_call 14; refine (h2 _).mono ?_; rintro e w3 ⟨rfl, b3⟩; have B3 : Hid (Below w.heap.size w w3) := b3; clear b3)
      | (go_at_call 16; refine (h3 _).mono ?_; rintro e w4 ⟨rfl, b4⟩; have B4 : Hid (Below w.heap.size w w4) := B3.out.trans (b4.mono B3.out.size); clear b4))
    go_ret2
    rw [HQ.out]
    exact ⟨rfl, B4.out⟩

set_option maxRecDepth 100000 in
theorem oct_bin (b o c : Nat) (xs : List UInt8) (hc : xs.length ≤ c) (hl : xs.length ≤ 9223372036854775807) (h0 : 0 < xs.length) (h128 : (xs.getD 0 0).toNat = 128) (w : World) (hA : At w b o xs) :
    Calls Tryd.prog 6 #[.slice (some ⟨b, o, none⟩) xs.length c] w fun e w' => e = .returned (.tuple #[.int .i64 (sgn false (high (xs.drop 1) 0)).1, .int .i64 (sgn false (high (xs.drop 1) 0)).2]) ∧ Below w.heap.size w w' := by
  have hc0 := hA 0 h0
  rw [Nat.add_zero, h128] at hc0
  have hs := signed_c false (high (xs.drop 1) 0) (Nat.lt_of_lt_of_le (high_lt _ 0 (by omega)) (by omega))
  obtain ⟨H, hH⟩ : ∃ H, high (xs.drop 1) 0 = H := ⟨_, rfl⟩
  rw [hH] at hs ⊢
  obtain ⟨D, hD⟩ : ∃ D, sgn false H = D := ⟨_, rfl⟩
  rw [hD] at hs ⊢
  have hld : (xs.drop 1).length = xs.length - 1 := by simp
  by_cases hc1 : c = 1
  · have hx : xs.drop 1 = [] := List.drop_of_length_le (by omega)
    rw [hx] at hH
    have hHi : ∀ a d w, Calls Tryd.prog 13 #[.slice a 0 d] w fun e w' => e = .returned (.int .u64 (H : Int)) ∧ w' = w := fun a d w => by
      rw [← hH]; exact high_none a d w
    have hn1 : xs.length = 1 := by omega
    rw [hn1]
    subst hc1
    clear hA hD hx hH hld hn1 hl h0 h128 hc
    go_enter Tryd.func6, Tryd.ntmps6
    go_wp2_with (first
      | (go_at_call 13; refine (hHi _ _ _).mono ?_; rintro e w2 ⟨rfl, rfl⟩)
      | (go_at_call 12; refine (hs _).mono ?_; rintro e w3 ⟨rfl, rfl⟩))
    go_ret2
    exact ⟨rfl, Below.refl _ _⟩
  · have hHi : Calls Tryd.prog 13 #[.slice (some ⟨b, o + 1, none⟩) (xs.length - 1) (c - 1)] w fun e w' => e = .returned (.int .u64 (H : Int)) ∧ w' = w := by
      rw [← hH, ← hld]
      refine high_some b (o + 1) (c - 1) (xs.drop 1) (by omega) w (fun i hi => ?_)
      rw [show o + 1 + i = o + (1 + i) by omega, hA (1 + i) (by omega)]
      simp only [List.getD_eq_getElem?_getD, List.getElem?_drop]
    obtain ⟨n, hn⟩ : ∃ n, xs.length = n := ⟨_, rfl⟩
    rw [hn] at hHi hc hl h0 ⊢
    have hc2 : 1 < c := by omega
    clear hA hD hH hld hn h128
    go_enter Tryd.func6, Tryd.ntmps6
    go_wp2_with (first
      | (go_at_call 13; go_fit hHi; rintro e w2 ⟨rfl, rfl⟩)
      | (go_at_call 12; refine (hs _).mono ?_; rintro e w3 ⟨rfl, rfl⟩))
    go_ret2
    exact ⟨rfl, Below.refl _ _⟩

theorem oct_c (v : Value) (xs : List UInt8) (hl : xs.length ≤ 9223372036854775807) (w : World) (h : Bs w v xs) :
    Calls Tryd.prog 6 #[v] w fun e w' => e = .returned (.tuple #[.int .i64 (octP xs).1, .int .i64 (octP xs).2]) ∧ Below w.heap.size w w' := by
  rcases h with ⟨rfl, a, c, rfl⟩ | ⟨b, o, c, rfl, hc, hA⟩
  · exact oct_none a c w
  · cases xs with
    | nil => exact oct_none _ c w
    | cons x r =>
      by_cases h128 : x.toNat = 128
      · have := oct_bin b o c (x :: r) hc hl (by simp) h128 w hA
        simp only [octP]
        rw [if_pos h128]
        exact this
      · have := oct_text b o c (x :: r) hc hl (by simp) h128 w hA
        simp only [octP]
        rw [if_neg h128]
        exact this
end Go.Proofs.YtodkpmnkdplpiabDoor
