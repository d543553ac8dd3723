/- The laws' probe: contract. -/
import Derived.Test.YtjmhnmpnpgiaeaaDoorEToP
import Derived.Test.YtjmhnmpnpgiaeaaDoorEClean
namespace Go.Proofs.YtjmhnmpnpgiaeaaDoor.E
set_option maxRecDepth 100000
open Go Go.RowKit
set_option linter.unusedVariables false

theorem vld_ascii : ∀ (l : List UInt8), l.all (fun c => c.toNat < 128) = true → vld l = true := by
  intro l
  induction l with
  | nil => intro _; exact vld_nil
  | cons c t ih =>
    intro h
    simp only [List.all_cons, Bool.and_eq_true, decide_eq_true_eq] at h
    have e : ltr (c :: t) = (c.toNat, 1) := ltr_1 (by simp) h.1
    rw [vld_step (by rw [e]; simp), e]
    exact ih (by simpa using h.2)
theorem cln_p : cln [97, 47, 47, 46, 47, 98, 47] = some [97, 47, 98] := by
  rw [cln, if_pos ⟨vld_ascii _ (by kernel_rfl), by decide, by decide⟩]
  kernel_rfl
theorem too_p : too [195, 169] [] = some [130] := by
  have e : ltr [195, 169] = (233, 2) := by kernel_rfl
  rw [too_yes [] (x := 130) (by rw [e]; decide) (by rw [e]; kernel_rfl), e]
  exact too_nil _
theorem fro_p : fro [130] = [195, 169] := by kernel_rfl
theorem prs_p : prs [97, 47, 98, 47, 99] 5 = [[97], [97, 47, 98]] := by kernel_rfl

set_option maxHeartbeats 4000000 in
theorem alive_c (w : World) (hT : Tab w) : Calls Tryd.prog 11 #[] w fun e w' => e = .returned (.bool true) ∧ Below w.heap.size w w' := by
  have HT := hide hT
  have HC : Hid (Calls Tryd.prog 9 #[.string ⟨#[97, 47, 47, 46, 47, 98, 47]⟩] w fun e w' => e = .returned (.tuple #[.string ⟨#[97, 47, 98]⟩, .int .i64 0]) ∧ Below w.heap.size w w') := hide (by
    refine (clean_c ⟨#[97, 47, 47, 46, 47, 98, 47]⟩ (by decide) w).mono ?_
    rintro e w' ⟨he, hb⟩
    rw [show (ByteArray.mk #[97, 47, 47, 46, 47, 98, 47]).data.toList = [97, 47, 47, 46, 47, 98, 47] from rfl, cln_p] at he
    exact ⟨he, hb⟩)
  have HO : Hid (∀ W, Below w.heap.size w W → Calls Tryd.prog 15 #[.string ⟨#[195, 169]⟩] W fun e w' => e = .returned (.tuple #[.string ⟨#[130]⟩, .bool true]) ∧ Below W.heap.size W w') := hide (fun W hb => by
    refine (toOem_c ⟨#[195, 169]⟩ W (by decide) (HT.out.stay hb)).mono ?_
    rintro e w' ⟨he, hb⟩
    rw [show (ByteArray.mk #[195, 169]).data.toList = [195, 169] from rfl, too_p] at he
    exact ⟨he, hb⟩)
  have HF : Hid (∀ W, Below w.heap.size w W → Calls Tryd.prog 14 #[.string ⟨#[130]⟩] W fun e w' => e = .returned (.string ⟨#[195, 169]⟩) ∧ Below W.heap.size W w') := hide (fun W hb => by
    refine (fromOem_c ⟨#[130]⟩ W (by decide) (HT.out.stay hb)).mono ?_
    rintro e w' ⟨he, hb⟩
    rw [show (ByteArray.mk #[130]).data.toList = [130] from rfl, fro_p] at he
    exact ⟨he, hb⟩)
  have HV : Hid (∀ W, Calls Tryd.prog 17 #[.string ⟨#[97]⟩] W fun e w' => e = .returned (.bool true) ∧ Below W.heap.size W w') := hide (fun W => by
    refine (valid_c ⟨#[97]⟩ (by decide) W).mono ?_
    rintro e w' ⟨he, hb⟩
    rw [show (ByteArray.mk #[97]).data.toList = [97] from rfl, vld_ascii [97] (by kernel_rfl)] at he
    exact ⟨he, hb⟩)
  have HP : Hid (∀ W, Calls Tryd.prog 12 #[.string ⟨#[97, 47, 98, 47, 99]⟩] W fun e w' => ∃ a c, e = .returned (.slice a 2 c) ∧ Below W.heap.size W w') := hide (fun W => by
    refine (parents_c ⟨#[97, 47, 98, 47, 99]⟩ (by decide) W).mono ?_
    rintro e w' ⟨v, rfl, ho, hb⟩
    rw [show (ByteArray.mk #[97, 47, 98, 47, 99]).data.toList = [97, 47, 98, 47, 99] from rfl, show ([97, 47, 98, 47, 99] : List UInt8).length = 5 from rfl, prs_p] at ho
    obtain ⟨a, c, rfl, _⟩ := ho.form
    exact ⟨a, c, rfl, hb⟩)
  clear hT
  go_enter Tryd.func11, Tryd.ntmps11
  go_wp2_with (first
    | (go_at_call 9; refine HC.out.mono ?_; rintro e w1 ⟨rfl, b1⟩; have B1 := hide b1; have HO1 := hide (HO.out w1 b1); clear b1 HC HO)
    | (go_at_call 15; refine HO1.out.mono ?_; rintro e w2 ⟨rfl, b2⟩; have B2 := hide (B1.out.trans (b2.mono B1.out.size)); have HF2 := hide (HF.out w2 B2.out); clear b2 HO1 HF)
    | (go_at_call 14; refine HF2.out.mono ?_; rintro e w3 ⟨rfl, b3⟩; have B3 := hide (B2.out.trans (b3.mono B2.out.size)); have HV3 := hide (HV.out w3); clear b3 HF2 HV)
    | (go_at_call 17; refine HV3.out.mono ?_; rintro e w4 ⟨rfl, b4⟩; have B4 := hide (B3.out.trans (b4.mono B3.out.size)); have HP4 := hide (HP.out w4); clear b4 HV3 HP)
    | (go_at_call 12; refine HP4.out.mono ?_; rintro e w5 ⟨pa, pc, rfl, b5⟩; have B5 := hide (B4.out.trans (b5.mono B4.out.size)); clear b5 HP4))
  go_ret
  exact ⟨rfl, B5.out⟩
end Go.Proofs.YtjmhnmpnpgiaeaaDoor.E
