/- PROVED: the contracts of the program's Decimal and Seconds. -/
import Derived.Test.YtodkpmnkdplpiaaDoorOctP
import Derived.Test.YtodkpmnkdplpiaaDoorCut
import Derived.Test.YtodkpmnkdplpiaaDoorRefDec
namespace Go.Proofs.YtodkpmnkdplpiaaDoor
open Go Go.RowKit
set_option linter.unusedVariables false

/-- What the program's Decimal answers. -/
def decP (l : List UInt8) : Int × Int := if (digs 10 (Lib.trimPrefix l [45]) 0).2 = false ∨ Lib.trimPrefix l [45] = [] then (0, 30) else sgn (Lib.hasPrefix l [45]) (digs 10 (Lib.trimPrefix l [45]) 0).1
theorem str_ne {l : List UInt8} (h : l ≠ []) : (⟨l.toArray⟩ : ByteArray).toList.isEmpty = false := by
  rw [ByteArray.toList_eq]
  cases l with
  | nil => exact absurd rfl h
  | cons a b => rfl

set_option maxRecDepth 100000 in
theorem dec_c (s : ByteArray) (w : World) :
    Calls Tryd.prog 18 #[.string s] w fun e w' => e = .returned (.tuple #[.int .i64 (decP s.data.toList).1, .int .i64 (decP s.data.toList).2]) ∧ Below w.heap.size w w' := by
  have h1 := sh_strings_CutPrefix s ⟨#[45]⟩
  have h2 := digits_c ⟨(Lib.trimPrefix s.data.toList [45]).toArray⟩ 10 (.inr rfl)
  have hV : (digs 10 (Lib.trimPrefix s.data.toList [45]) 0).1 < 18446744073709551616 := Nat.lt_of_lt_of_le (digs_lt (by omega) (by omega) _ 0 (by omega)) (by omega)
  obtain ⟨D, hD⟩ : ∃ D, decP s.data.toList = D := ⟨_, rfl⟩
  rw [hD]
  unfold decP at hD
  change ∀ w, Calls _ _ _ _ (fun e w' => e = .returned (.tuple #[.string ⟨(Lib.trimPrefix s.data.toList [45]).toArray⟩, .bool (Lib.hasPrefix s.data.toList [45])]) ∧ w' = w) at h1
  change ∀ w, Calls _ _ #[.string ⟨(Lib.trimPrefix s.data.toList [45]).toArray⟩, .int .i32 10] _ (fun e w' => e = .returned (.tuple #[.int .u64 ((digs 10 (Lib.trimPrefix s.data.toList [45]) 0).1 : Nat), .bool (digs 10 (Lib.trimPrefix s.data.toList [45]) 0).2]) ∧ Below w.heap.size w w') at h2
  obtain ⟨t, ht⟩ : ∃ t, Lib.trimPrefix s.data.toList [45] = t := ⟨_, rfl⟩
  rw [ht] at h1 h2 hV hD
  obtain ⟨ng, hng⟩ : ∃ ng, Lib.hasPrefix s.data.toList [45] = ng := ⟨_, rfl⟩
  rw [hng] at h1 hD
  obtain ⟨V, hVe⟩ : ∃ V, (digs 10 t 0).1 = V := ⟨_, rfl⟩
  obtain ⟨ok, hok⟩ : ∃ ok, (digs 10 t 0).2 = ok := ⟨_, rfl⟩
  rw [hVe] at h2 hV hD
  rw [hok] at h2 hD
  clear hng hVe hok ht
  cases ok with
  | false =>
    have HD : Hid (D = (0, 30)) := by rw [← hD, if_pos (.inl rfl)]; exact rfl
    obtain ⟨T, hT⟩ : ∃ T : ByteArray, (⟨t.toArray⟩ : ByteArray) = T := ⟨_, rfl⟩
    rw [hT] at h1 h2
    clear hD hT
    go_enter Tryd.func18, Tryd.ntmps18
    go_wp2_with (first
      | (go_at_call 34; refine (h1 _).mono ?_; rintro e w2 ⟨rfl, hw2⟩; obtain rfl : w = w2 := hw2.symm)
      | (go_at_call 28; refine (h2 _).mono ?_; rintro e w3 ⟨rfl, b3⟩; have B3 : Hid (Below w.heap.size w w3) := b3; clear b3))
    go_ret2
    rw [HD.out]
    exact ⟨rfl, B3.out⟩
  | true =>
    by_cases hte : t = []
    · have HD : Hid (D = (0, 30)) := by rw [← hD, if_pos (.inr hte)]; exact rfl
      subst hte
      clear hD
      go_enter Tryd.func18, Tryd.ntmps18
      go_wp2_with (first
        | (go_at_call 34; refine (h1 _).mono ?_; rintro e w2 ⟨rfl, hw2⟩; obtain rfl : w = w2 := hw2.symm)
        | (go_at_call 28; refine (h2 _).mono ?_; rintro e w3 ⟨rfl, b3⟩; have B3 : Hid (Below w.heap.size w w3) := b3; clear b3))
      go_ret2
      rw [HD.out]
      exact ⟨rfl, B3.out⟩
    · have hs := signed_c ng V hV
      rw [if_neg (by intro h; rcases h with h | h; cases h; exact hte h)] at hD
      rw [hD] at hs
      have hne := str_ne hte
      obtain ⟨T, hT⟩ : ∃ T : ByteArray, (⟨t.toArray⟩ : ByteArray) = T := ⟨_, rfl⟩
      rw [hT] at h1 h2 hne
      clear hD hT hte
      go_enter Tryd.func18, Tryd.ntmps18
      go_wp2_with (first
        | (go_at_call 34; refine (h1 _).mono ?_; rintro e w2 ⟨rfl, hw2⟩; obtain rfl : w = w2 := hw2.symm)
        | (go_at_call 28; refine (h2 _).mono ?_; rintro e w3 ⟨rfl, b3⟩; have B3 : Hid (Below w.heap.size w w3) := b3; clear b3)
        | (go_at_call 24; refine (hs _).mono ?_; rintro e w5 ⟨rfl, hw5⟩; obtain rfl : w3 = w5 := hw5.symm))
      go_ret2
      exact ⟨rfl, B3.out⟩
end Go.Proofs.YtodkpmnkdplpiaaDoor
