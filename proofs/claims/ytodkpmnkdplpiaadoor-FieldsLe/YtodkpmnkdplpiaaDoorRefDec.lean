/- PROVED: the contract of the reference's Decimal. -/
import Derived.Test.YtodkpmnkdplpiaaDoorRefOct
import Derived.Deep.DeepFit
namespace Go.Proofs.YtodkpmnkdplpiaaDoor
open Go Go.RowKit
set_option linter.unusedVariables false

theorem rn_all : ∀ (l : List UInt8), rn l = l.length → ∀ c ∈ l, isD c = true
  | [], _ => by simp
  | c :: r, h => by
    by_cases hc : isD c = true
    · rw [rn_cons_yes hc] at h
      have := rn_all r (by simpa using h)
      intro d hd
      rcases List.mem_cons.1 hd with rfl | hd
      · exact hc
      · exact this d hd
    · rw [rn_cons_no (by simpa using hc)] at h
      simp at h
theorem rn_le : ∀ (l : List UInt8), rn l ≤ l.length
  | [] => by simp [rn]
  | c :: r => by
    have := rn_le r
    unfold rn
    split
    · simp; omega
    · simp
theorem ext_list (s : ByteArray) (i : Nat) : (s.extract i s.size).data.toList = s.data.toList.drop i := by
  rw [ByteArray.data_extract, Array.toList_extract]
  simp only [List.extract_eq_take_drop]
  exact List.take_of_length_le (by rw [List.length_drop, len_eq]; exact Nat.le_refl _)
theorem ext_list_to (s : ByteArray) (i : Nat) : (s.extract 0 i).data.toList = s.data.toList.take i := by
  rw [ByteArray.data_extract, Array.toList_extract]
  simp only [List.extract_eq_take_drop]
  rw [List.drop_zero, Nat.sub_zero]
theorem ext_size (s : ByteArray) (i : Nat) : (s.extract i s.size).size = s.size - i := by
  rw [← len_eq, ext_list, List.length_drop, len_eq]
theorem numF_le (b z : Nat) : ∀ (l : List UInt8) (o : Option Nat), Fine o → Fine (numF b z l o)
  | [], _, h => h
  | _ :: r, o, _ => numF_le b z r _ (fine_add _ _ _)
theorem head_of (s : ByteArray) (h : 0 < s.size) : s.data.toList.head? = some (s[0]'h) := by
  have := drop_at s 0 h
  rw [List.drop_zero] at this
  rw [this]
  rfl

set_option maxRecDepth 100000 in
theorem refDec_plain (s : ByteArray) (hs : s.size ≤ 9223372036854775807) (h45 : s.data.toList.head? ≠ some 45) (w : World) :
    Calls Tryd.prog 19 #[.string s] w fun e w' => e = .returned (.tuple #[.int .i64 (ansS false (decT s.data.toList)).1, .int .i64 (ansS false (decT s.data.toList)).2]) ∧ w' = w := by
  obtain ⟨D, hD⟩ : ∃ D, ansS false (decT s.data.toList) = D := ⟨_, rfl⟩
  rw [hD]
  by_cases h0 : s.size = 0
  · have hl : s.data.toList = [] := List.eq_nil_of_length_eq_zero (by rw [len_eq]; exact h0)
    rw [hl] at hD
    have HD : Hid ((0, 30) = D) := hD
    clear hD hl h45
    go_enter Tryd.func19, Tryd.ntmps19
    go_wp2_with fail
    go_ret2
    rw [← HD.out]
    exact ⟨rfl, rfl⟩
  · have hp : 0 < s.size := by omega
    rw [head_of s hp] at h45
    obtain ⟨c, hc⟩ : ∃ c, s[0]'hp = c := ⟨_, rfl⟩
    have hg : s[0]! = c := by rw [getElem!_pos s 0 hp, hc]
    rw [hc] at h45
    have hc45 : ((c.toNat : Int) == 45) = false := by
      simp
      intro h
      apply h45
      congr 1
      exact UInt8.toNat_inj.1 (by show c.toNat = 45; omega)
    have hR := run_c s hs
    have hle := rn_le s.data.toList
    rw [len_eq] at hle
    by_cases hr : rn s.data.toList < s.size
    · have HD : Hid ((0, 30) = D) := by rw [← hD, decT, if_pos (.inr (by rw [len_eq]; exact hr))]; rfl
      generalize rn s.data.toList = R at hR hr hle
      clear hD h45
      go_enter Tryd.func19, Tryd.ntmps19
      go_wp2_with (go_at_call 35; refine (hR _).mono ?_; rintro e w2 ⟨rfl, rfl⟩)
      go_ret2
      rw [← HD.out]
      exact ⟨rfl, rfl⟩
    · have hN := number_c s hs (rn_all _ (by rw [len_eq]; omega))
      have hlt : ¬ (s.data.toList = [] ∨ rn s.data.toList < s.data.toList.length) := by
        rw [len_eq]
        intro h
        rcases h with h | h
        · have := len_eq s; rw [h] at this; simp at this; omega
        · exact hr h
      rw [decT, if_neg hlt] at hD
      obtain ⟨o, ho⟩ : ∃ o, numF 10 48 s.data.toList (some 0) = o := ⟨_, rfl⟩
      have hF := numF_le 10 48 s.data.toList _ fine_zero
      rw [ho] at hD hN hF
      generalize rn s.data.toList = R at hR hr hle
      clear hlt h45 ho
      cases o with
      | none =>
        have HD : Hid ((0, 31) = D) := hD
        have hN2 : ∀ w, Calls Tryd.prog 36 #[.string s] w fun e w' => e = .returned (.int .i64 (-1)) ∧ w' = w := hN
        clear hD hN
        go_enter Tryd.func19, Tryd.ntmps19
        go_wp2_with (first
          | (go_at_call 35; refine (hR _).mono ?_; rintro e w2 ⟨rfl, rfl⟩)
          | (go_at_call 36; refine (hN2 _).mono ?_; rintro e w2 ⟨rfl, rfl⟩))
        go_ret2
        rw [← HD.out]
        exact ⟨rfl, rfl⟩
      | some n =>
        have HD : Hid (((n : Int), 0) = D) := hD
        have hn := hF n rfl
        have hN2 : ∀ w, Calls Tryd.prog 36 #[.string s] w fun e w' => e = .returned (.int .i64 (n : Int)) ∧ w' = w := hN
        clear hD hN
        go_enter Tryd.func19, Tryd.ntmps19
        go_wp2_with (first
          | (go_at_call 35; refine (hR _).mono ?_; rintro e w2 ⟨rfl, rfl⟩)
          | (go_at_call 36; refine (hN2 _).mono ?_; rintro e w2 ⟨rfl, rfl⟩))
        go_ret2
        rw [← HD.out]
        exact ⟨rfl, rfl⟩
set_option maxRecDepth 100000 in
theorem refDec_neg (s : ByteArray) (hs : s.size ≤ 9223372036854775807) (h45 : s.data.toList.head? = some 45) (w : World) :
    Calls Tryd.prog 19 #[.string s] w fun e w' => e = .returned (.tuple #[.int .i64 (ansS true (decT s.data.toList.tail)).1, .int .i64 (ansS true (decT s.data.toList.tail)).2]) ∧ w' = w := by
  obtain ⟨D, hD⟩ : ∃ D, ansS true (decT s.data.toList.tail) = D := ⟨_, rfl⟩
  rw [hD]
  have hp : 0 < s.size := by
    rcases Nat.eq_zero_or_pos s.size with h | h
    · have hl : s.data.toList = [] := List.eq_nil_of_length_eq_zero (by rw [len_eq]; exact h)
      rw [hl] at h45
      cases h45
    · exact h
  rw [head_of s hp] at h45
  have hc : s[0]'hp = 45 := Option.some.inj h45
  have hg : s[0]! = 45 := by rw [getElem!_pos s 0 hp, hc]
  rw [← List.drop_one, ← ext_list] at hD
  have he := ext_size s 1
  obtain ⟨t, ht⟩ : ∃ t, s.extract 1 s.size = t := ⟨_, rfl⟩
  rw [ht] at hD he
  have hts : t.size ≤ 9223372036854775807 := by omega
  clear h45 he
  by_cases h0 : t.size = 0
  · have hl : t.data.toList = [] := List.eq_nil_of_length_eq_zero (by rw [len_eq]; exact h0)
    rw [hl] at hD
    have HD : Hid ((0, 30) = D) := hD
    clear hD hl
    go_enter Tryd.func19, Tryd.ntmps19
    go_wp2_with fail
    go_ret2
    rw [← HD.out]
    exact ⟨rfl, rfl⟩
  · have hp1 : 0 < t.size := by omega
    have hR := run_c t hts
    have hle := rn_le t.data.toList
    rw [len_eq] at hle
    by_cases hr : rn t.data.toList < t.size
    · have HD : Hid ((0, 30) = D) := by rw [← hD, decT, if_pos (.inr (by rw [len_eq]; exact hr))]; rfl
      generalize rn t.data.toList = R at hR hr hle
      clear hD 
      go_enter Tryd.func19, Tryd.ntmps19
      go_wp2_with (go_at_call 35; refine (hR _).mono ?_; rintro e w2 ⟨rfl, rfl⟩)
      go_ret2
      rw [← HD.out]
      exact ⟨rfl, rfl⟩
    · have hN := number_c t hts (rn_all _ (by rw [len_eq]; omega))
      have hlt : ¬ (t.data.toList = [] ∨ rn t.data.toList < t.data.toList.length) := by
        rw [len_eq]
        intro h
        rcases h with h | h
        · have := len_eq t; rw [h] at this; simp at this; omega
        · exact hr h
      rw [decT, if_neg hlt] at hD
      obtain ⟨o, ho⟩ : ∃ o, numF 10 48 t.data.toList (some 0) = o := ⟨_, rfl⟩
      have hF := numF_le 10 48 t.data.toList _ fine_zero
      rw [ho] at hD hN hF
      generalize rn t.data.toList = R at hR hr hle
      clear hlt  ho
      cases o with
      | none =>
        have HD : Hid ((0, 31) = D) := hD
        have hN2 : ∀ w, Calls Tryd.prog 36 #[.string t] w fun e w' => e = .returned (.int .i64 (-1)) ∧ w' = w := hN
        clear hD hN
        go_enter Tryd.func19, Tryd.ntmps19
        go_wp2_with (first
          | (go_at_call 35; refine (hR _).mono ?_; rintro e w2 ⟨rfl, rfl⟩)
          | (go_at_call 36; refine (hN2 _).mono ?_; rintro e w2 ⟨rfl, rfl⟩))
        go_ret2
        rw [← HD.out]
        exact ⟨rfl, rfl⟩
      | some n =>
        have HD : Hid ((-(n : Int), 0) = D) := hD
        have hn := hF n rfl
        have hN2 : ∀ w, Calls Tryd.prog 36 #[.string t] w fun e w' => e = .returned (.int .i64 (n : Int)) ∧ w' = w := hN
        clear hD hN
        go_enter Tryd.func19, Tryd.ntmps19
        go_wp2_with (first
          | (go_at_call 35; refine (hR _).mono ?_; rintro e w2 ⟨rfl, rfl⟩)
          | (go_at_call 36; refine (hN2 _).mono ?_; rintro e w2 ⟨rfl, rfl⟩))
        go_ret2
        rw [← HD.out]
        exact ⟨rfl, rfl⟩

theorem refDec_c (s : ByteArray) (hs : s.size ≤ 9223372036854775807) (w : World) :
    Calls Tryd.prog 19 #[.string s] w fun e w' => e = .returned (.tuple #[.int .i64 (decR s.data.toList).1, .int .i64 (decR s.data.toList).2]) ∧ w' = w := by
  unfold decR
  by_cases h : s.data.toList.head? = some 45
  · rw [if_pos h]; exact refDec_neg s hs h w
  · rw [if_neg h]; exact refDec_plain s hs h w
end Go.Proofs.YtodkpmnkdplpiaaDoor
