/- PROVED: the laws' probe answers true. -/
import Derived.Test.YtodkpmnkdplpiabDoorEq4
import Derived.Lib.SlBytesConst
namespace Go.Proofs.YtodkpmnkdplpiabDoor
open Go Go.RowKit
set_option linter.unusedVariables false

theorem v_oct : octP [32, 48, 49, 55, 0, 0] = (15, 0) := by decide
theorem v_put : putP 64 3 = some [128, 0, 64] := by rw [put_eq]; decide
theorem v_sec : secP [45, 49, 46, 53] = (-1500000000, 0) := by decide
theorem v_ps : psP (-1500000000) = [45, 49, 46, 53] := by
  rw [ps_eq]
  unfold psR
  rw [if_pos (by decide)]
  show 45 :: psU 1500000000 = _
  unfold psU
  rw [if_neg (by decide), show (1500000000 : Nat) / 1000000000 = 1 from rfl, show (1500000000 : Nat) % 1000000000 = 500000000 from rfl, dec_small (by decide)]
  have hf : frac 9 500000000 = Lib.decDigits (500000000 * 10 / 1000000000) ++ frac 8 (500000000 * 10 % 1000000000) := if_neg (by decide)
  rw [hf, show (500000000 : Nat) * 10 / 1000000000 = 5 from rfl, show (500000000 : Nat) * 10 % 1000000000 = 0 from rfl, dec_small (by decide), frac_zero]
  rfl
theorem v_le : leN (([1, 2] : List UInt8).take 8) = 513 := by decide
theorem bs_lit (w : World) (X : List UInt8) (n : Nat) (cs : Array Value) (fr : Nat × Nat) (h1 : X.length = n) (h2 : (asB X).toArray = cs) : Bs (w.alloc (.cells cs 5 fr)) (.slice (some ⟨w.heap.size, 0, none⟩) n n) X := by
  subst h1
  subst h2
  refine Or.inr ⟨w.heap.size, 0, X.length, rfl, Nat.le_refl _, fun i hi => ?_⟩
  rw [Nat.zero_add, cells_of (heap_new w (.cells (asB X).toArray 5 fr)), List.getElem?_toArray, asB_at X i hi]

set_option maxRecDepth 100000 in
theorem alive_c (w : World) (hT : Tabs w) :
    Calls Tryd.prog 4 #[] w fun e w' => e = .returned (.bool true) ∧ Below w.heap.size w w' := by
  have HT : Hid (Tabs w) := hT
  clear hT
  have hO : Calls Tryd.prog 6 #[.slice (some ⟨w.heap.size, 0, none⟩) 6 6] (w.alloc (.cells #[.int .u8 32, .int .u8 48, .int .u8 49, .int .u8 55, .int .u8 0, .int .u8 0] 5 (6, 7))) fun e w' => e = .returned (.tuple #[.int .i64 15, .int .i64 0]) ∧ Hid (Below w.heap.size w w') := by
    have hb := bs_lit w [32, 48, 49, 55, 0, 0] 6 #[.int .u8 32, .int .u8 48, .int .u8 49, .int .u8 55, .int .u8 0, .int .u8 0] (6, 7) rfl rfl
    have := oct_c _ _ (by decide) _ hb
    rw [v_oct] at this
    exact this.mono fun e w' ⟨he, h⟩ => ⟨he, ((Below.refl _ w).alloc (Nat.le_refl _) _).trans (h.mono (by simp))⟩
  have hP : Hid (∀ W, Tabs W → Calls Tryd.prog 7 #[.int .i64 64, .int .i64 3] W fun e w' => ∃ s, e = .returned (.tuple #[s, .bool true]) ∧ Bs w' s [128, 0, 64] ∧ Below W.heap.size W w') := fun W hW => by
    have := put_c 64 3 W hW
    rw [v_put] at this
    exact this
  have hS : Hid (∀ W, Calls Tryd.prog 8 #[.string ⟨#[45, 49, 46, 53]⟩] W fun e w' => e = .returned (.tuple #[.int .i64 (-1500000000), .int .i64 0]) ∧ Below W.heap.size W w') := fun W => by
    have := sec_c ⟨#[45, 49, 46, 53]⟩ (by decide) W
    rw [show (⟨#[45, 49, 46, 53]⟩ : ByteArray).data.toList = [45, 49, 46, 53] from rfl, v_sec] at this
    exact this
  have hL : Hid (∀ W : World, Calls Tryd.prog 9 #[.slice (some ⟨W.heap.size, 0, none⟩) 2 2] (W.alloc (.cells #[.int .u8 1, .int .u8 2] 5)) fun e w' => e = .returned (.int .u64 513) ∧ w' = W.alloc (.cells #[.int .u8 1, .int .u8 2] 5)) := fun W => by
    have := le_c _ _ (by decide) _ (bs_lit W [1, 2] 2 #[.int .u8 1, .int .u8 2] (0, 0) rfl rfl)
    rw [v_le] at this
    exact this
  have hQ : Hid (∀ W, Tabs W → Calls Tryd.prog 10 #[.int .i64 (-1500000000)] W fun e w' => e = .returned (.string ⟨#[45, 49, 46, 53]⟩) ∧ Below W.heap.size W w') := fun W hW => by
    have := ps_c (-1500000000) (by omega) W hW
    rw [v_ps] at this
    exact this
  have hcb := Lib.run_convert_bytes_const (P := Tryd.prog) w 23 5 #[.int .u8 32, .int .u8 48, .int .u8 49, .int .u8 55, .int .u8 0, .int .u8 0] 6 6 Tryd.underlying23 Tryd.underlying5
  change _ = Result.ok _ (w.alloc (.cells #[.int .u8 32, .int .u8 48, .int .u8 49, .int .u8 55, .int .u8 0, .int .u8 0] 5 (6, 7))) at hcb
  go_enter Tryd.func4, Tryd.ntmps4
  go_wp2_with (first
    | (go_at_call 6; go_fit hO; rintro e w2 ⟨rfl, B2⟩; have T2 : Hid (Tabs w2) := tabs_keep HT.out B2.out (Nat.le_refl _))
    | (go_at_call 7; go_fit (hP.out _ T2.out); rintro e w3 ⟨s3, rfl, o3, b3⟩; have O3 : Hid (Bs w3 s3 [128, 0, 64]) := o3; have B3 : Hid (Below w.heap.size w w3) := B2.out.trans (b3.mono B2.out.size); clear o3 b3)
    | (go_at_call 8; go_fit (hS.out _); rintro e w4 ⟨rfl, b4⟩; have hcv := conv_bs (bs_keep b4 O3.out (Nat.le_refl _)); have B4 : Hid (Below w.heap.size w w4) := B3.out.trans (b4.mono B3.out.size); clear b4)
    | (go_at_call 9; go_fit (hL.out _); rintro e w5 ⟨rfl, hw5⟩; have B5 : Hid (Below w.heap.size w w5) := by rw [hw5]; exact B4.out.alloc B4.out.size _
       have T5 : Hid (Tabs w5) := tabs_keep HT.out B5.out (Nat.le_refl _); clear hw5)
    | (go_at_call 10; go_fit (hQ.out _ T5.out); rintro e w6 ⟨rfl, b6⟩; have B6 : Hid (Below w.heap.size w w6) := B5.out.trans (b6.mono B5.out.size); clear b6))
  go_ret
  exact ⟨rfl, B6.out⟩
end Go.Proofs.YtodkpmnkdplpiabDoor
