/- Valid, the program's and the reference's: contracts. -/
import Derived.Test.YtlfffpgokemjbaaELet
import Derived.Test.YtlfffpgokemjbaaShelf
namespace Go.Proofs.Ytlfffpgokemjbaa.E
set_option maxRecDepth 100000
open Go Go.RowKit
set_option linter.unusedVariables false

theorem ext_from (t : ByteArray) (a : Nat) : (t.extract a t.size).data.toList = t.data.toList.drop a := by
  have := tx_from t.data.toList a
  rw [len_eq] at this
  exact congrArg (fun s : ByteArray => s.data.toList) this
theorem ext_to (t : ByteArray) (a b : Nat) : (t.extract a b).data.toList = (t.data.toList.drop a).take (b - a) := congrArg (fun s : ByteArray => s.data.toList) (tx_cut t.data.toList a b)
set_option maxHeartbeats 4000000 in
theorem rvalid_c (s : ByteArray) (hsm : s.size ≤ 9223372036854775807) (w : World) : Calls Try.prog 44 #[.string s] w fun e w' => e = .returned (.bool (vld s.data.toList)) ∧ w' = w := by
  obtain ⟨D, hD⟩ : ∃ D, vld s.data.toList = D := ⟨_, rfl⟩
  rw [hD]
  have HD := hide hD
  have HSM := hide hsm
  clear hD hsm
  go_enter Try.func44, Try.ntmps44
  go_wp2_with fail
  go_loopg [0] s.size (fun gk u0 wx => wx = w ∧ ∃ t : ByteArray, u0 = .string t ∧ Hid (t.size = gk) ∧ Hid (gk ≤ 9223372036854775807) ∧ Hid (vld t.data.toList = D))
  case atStart => exact ⟨rfl, s, rfl, hide rfl, HSM, HD⟩
  case round =>
    obtain ⟨hw, t, rfl, HT, HG, HV⟩ := hrel
    subst hw
    by_cases h0 : t.size = 0
    · have hge : ¬ (0 : Int) < (t.size : Int) := by omega
      have HR : Hid (D = true) := hide (by rw [← HV.out, List.eq_nil_of_length_eq_zero (l := t.data.toList) (by rw [len_eq]; exact h0)]; exact vld_nil)
      clear HT HV h0
      go_wp2_with fail
      go_ret
      exact ⟨by rw [HR.out]; rfl, rfl⟩
    · have hlt : (0 : Int) < (t.size : Int) := by omega
      have hne : t.data.toList ≠ [] := fun e => h0 (by rw [← len_eq, e]; rfl)
      have HL := hide (letter_c t (by rw [HT.out]; exact HG.out) wr)
      unfold LetOk at HL
      have hle := ltr_le t.data.toList
      rw [len_eq] at hle
      by_cases hz : (ltr t.data.toList).2 = 0
      · have HR : Hid (D = false) := hide (by rw [← HV.out]; exact vld_no hz hne)
        rw [hz] at HL
        clear HT HV hz h0 hle
        generalize (ltr t.data.toList).1 = v at HL
        go_wp2_with (go_at_call 59; refine HL.out.mono ?_; rintro e w2 ⟨rfl, hw⟩; obtain rfl := hw.symm; clear HL)
        go_ret
        exact ⟨by rw [HR.out]; rfl, rfl⟩
      · have HV2 := HV.out
        rw [vld_step hz] at HV2
        have HV3 := hide HV2
        have HX := hide (ext_from t (ltr t.data.toList).2)
        rw [← HX.out] at HV3
        have HSZ : Hid ((t.extract (ltr t.data.toList).2 t.size).size = t.size - (ltr t.data.toList).2) := hide (by rw [← len_eq, ext_from, List.length_drop, len_eq])
        have hgt : 0 < (ltr t.data.toList).2 := by omega
        generalize (ltr t.data.toList).1 = v at HL
        generalize (ltr t.data.toList).2 = n at HL HV3 HSZ hle hz hgt
        have hn0 : ¬ (n : Int) = 0 := by omega
        have hn1 : (0 : Int) ≤ (n : Int) := by omega
        have hn2 : (n : Int) ≤ (t.size : Int) := by omega
        have hb : ((n : Int) == 0) = false := by simpa using hn0
        have HSZ2 : Hid ((t.extract n t.size).size = gk - n) := hide (by rw [HSZ.out, HT.out])
        have HGN : Hid (gk - n < gk) := hide (by have := HT.out; omega)
        have HGM : Hid (gk - n ≤ 9223372036854775807) := hide (by have := HG.out; omega)
        clear HX HV HV2 hz h0 HSZ HT HG
        go_wp2_with (go_at_call 59; refine HL.out.mono ?_; rintro e w2 ⟨rfl, hw⟩; obtain rfl := hw.symm; clear HL)
        go_roundg (gk - n)
        case measure => exact HGN.out
        case rel => exact ⟨rfl, t.extract n t.size, rfl, HSZ2, HGM, HV3⟩
def fffd : ByteArray := ⟨#[239, 191, 189]⟩
theorem fffd_yes {t : List UInt8} (h : (ltr t).2 ≠ 0) (hv : (ltr t).1 = 65533) : Lib.hasPrefix t [239, 191, 189] = true := by
  have he := enc_ltr h (by rw [hv]; decide)
  rw [hv, show enc 65533 = [239, 191, 189] by kernel_rfl] at he
  show List.isPrefixOf [239, 191, 189] t = true
  rw [List.isPrefixOf_iff_prefix, he]
  exact List.take_prefix _ _
theorem fffd_ltr (r : List UInt8) : ltr (239 :: 191 :: 189 :: r) = (65533, 3) := by
  have b0 : bt (239 :: 191 :: 189 :: r) 0 = 239 := rfl
  have b1 : bt (239 :: 191 :: 189 :: r) 1 = 191 := rfl
  have b2 : bt (239 :: 191 :: 189 :: r) 2 = 189 := rfl
  have ev : v3 (239 :: 191 :: 189 :: r) = 65533 := by unfold v3; rw [b0, b1, b2]
  rw [ltr_3 (by simp) ⟨by rw [b0]; omega, by rw [b0]; omega, by simp, by rw [b1]; unfold ct; omega, by rw [b2]; unfold ct; omega, by rw [ev]; omega, by rw [ev]; omega⟩, ev]
theorem fffd_no {t : List UInt8} (h : (ltr t).2 = 0) : Lib.hasPrefix t [239, 191, 189] = false := by
  rw [← Bool.not_eq_true]
  intro q
  replace q : List.isPrefixOf [239, 191, 189] t = true := q
  rw [List.isPrefixOf_iff_prefix] at q
  obtain ⟨r, rfl⟩ := q
  rw [List.cons_append, List.cons_append, List.cons_append, List.nil_append, fffd_ltr] at h
  cases h
theorem iter_below (w : World) (s : ByteArray) (pos : Nat) : Below w.heap.size w (w.iter s pos) := (Below.refl _ w).alloc (Nat.le_refl _) _
theorem prefix_at (s : ByteArray) (pos : Nat) (W : World) : Calls Try.prog 73 #[.string (s.extract pos s.size), .string ⟨#[239, 191, 189]⟩] W fun e w' => e = .returned (.bool (Lib.hasPrefix (s.data.toList.drop pos) [239, 191, 189])) ∧ w' = W := by
  have := sh_strings_HasPrefix (s.extract pos s.size) ⟨#[239, 191, 189]⟩ W
  rw [ext_from] at this
  exact this

set_option maxHeartbeats 4000000 in
theorem valid_c (s : ByteArray) (hsm : s.size ≤ 9223372036854775807) (w : World) : Calls Try.prog 71 #[.string s] w fun e w' => e = .returned (.bool (vld s.data.toList)) ∧ Below w.heap.size w w' := by
  obtain ⟨D, hD⟩ : ∃ D, vld s.data.toList = D := ⟨_, rfl⟩
  rw [hD]
  have HD := hide hD
  have HSM := hide hsm
  have HLS := hide (len_eq s)
  have HPF := fun pos W => hide (prefix_at s pos W)
  have HDL := fun pos h => hide (dec_ltr s pos h)
  obtain ⟨l, hl⟩ : ∃ l, l = s.data.toList := ⟨_, rfl⟩
  rw [← hl] at HD HLS HPF HDL
  clear hD hsm hl
  go_enter Try.func71, Try.ntmps71
  go_wp2_with fail
  go_loopw [] (fun wr => ∃ pos : Nat, wr = w.iter s pos ∧ pos ≤ s.size ∧ Hid (vld (l.drop pos) = D)) (fun wr => s.size - wr.iterPos w.heap.size)
  case atStart => exact ⟨0, rfl, by omega, HD⟩
  case round =>
    obtain ⟨pos, rfl, hp, HI⟩ := hrel
    by_cases h : pos < s.size
    · have hnx : ∀ ty, (Instr.next (.pointer (some ⟨w.heap.size, 0, none⟩)) true ty).run Try.prog (w.iter s pos) = _ := fun ty => run_next_any w s pos ty h
      have hpi : (0 : Int) ≤ (pos : Int) ∧ (pos : Int) ≤ (s.size : Int) := by omega
      have HN : Hid (l.drop pos ≠ []) := hide (fun e => by have := congrArg List.length e; rw [List.length_drop, HLS.out] at this; simp at this; omega)
      have HP2 := hide (HPF pos (w.iter s pos)).out
      by_cases hz : (ltr (l.drop pos)).2 = 0
      · rw [(HDL pos h).out, if_pos hz] at hnx
        have HR : Hid (D = false) := hide (by rw [← HI.out]; exact vld_no hz HN.out)
        rw [fffd_no hz] at HP2
        have HP3 := hide (HPF pos (w.iter s (pos + 1))).out
        rw [fffd_no hz] at HP3
        have hnx2 := fun ty => (hnx ty).trans rfl
        clear HI hz HN
        have q : ((65533 : Nat) : Int) = 65533 := rfl
        go_wp2_with (go_at_call 73; refine HP3.out.mono ?_; rintro e w2 ⟨rfl, hw⟩; subst hw)
        go_ret
        exact ⟨by rw [HR.out]; rfl, iter_below _ _ _⟩
      · rw [(HDL pos h).out, if_neg hz] at hnx
        have HV2 := HI.out
        rw [vld_step hz, List.drop_drop] at HV2
        have HV3 := hide HV2
        have hle := ltr_le (l.drop pos)
        rw [List.length_drop, HLS.out] at hle
        have hgt : 0 < (ltr (l.drop pos)).2 := by omega
        by_cases hv : (ltr (l.drop pos)).1 = 65533
        · have HP3 := hide (HPF pos (w.iter s (pos + (ltr (l.drop pos)).2))).out
          rw [fffd_yes hz hv] at HP3
          rw [hv] at hnx
          generalize (ltr (l.drop pos)).2 = n at *
          clear HI HN hz hv HV2 HP2
          go_wp2_with (go_at_call 73; refine HP3.out.mono ?_; rintro e w2 ⟨rfl, hw⟩; subst hw)
          go_roundw
          case rel => exact ⟨pos + n, rfl, by omega, HV3⟩
          case measure => simp; omega
        · generalize (ltr (l.drop pos)).2 = n at *
          generalize (ltr (l.drop pos)).1 = v at *
          have hv1 : ¬ (v : Int) = 65533 := by omega
          have hvb : ((v : Int) == 65533) = false := by simpa using hv1
          clear HI HN hz hv HV2 HP2
          go_wp2_with fail
          go_roundw
          case rel => exact ⟨pos + n, rfl, by omega, HV3⟩
          case measure => simp; omega
    · have hnx : ∀ ty, (Instr.next (.pointer (some ⟨w.heap.size, 0, none⟩)) true ty).run Try.prog (w.iter s pos) = _ := fun ty => run_next_end w s pos ty h
      have HR : Hid (D = true) := hide (by rw [← HI.out, List.drop_of_length_le (by rw [HLS.out]; omega)]; exact vld_nil)
      clear HI
      go_wp2_with fail
      go_ret
      exact ⟨by rw [HR.out]; rfl, iter_below _ _ _⟩
end Go.Proofs.Ytlfffpgokemjbaa.E
