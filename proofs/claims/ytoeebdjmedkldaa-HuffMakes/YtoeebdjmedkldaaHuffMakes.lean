/-
  PROVED: 'wainloadlaw04.HuffMakes' answers true for all lengths, and whether a lone code may be or not: Make tells the error that the reference tells, and a code just where there is none; no conditions.
-/
import Derived.Test.YtoeebdjmedkldaaHOpen
namespace Go.Proofs.Ytoeebdjmedkldaa.huffMakes
open Go.ChangeShapes Go.WideShapes Go.ChangeAt Go.RowKit
set_option linter.unusedVariables false


theorem walk (B : Nat) (a : Option Addr) (cap : Nat) (ls : List Int) (lone : Bool) (w : World) (hi : Ints 0 B w a ls) :
    Calls Try.prog 3 #[.slice a ls.length cap, .bool lone] w fun e w' => e = .returned (.bool true) ∧ Below w.heap.size w w' := by
  have HC : ∀ W, Below w.heap.size w W → Hid (Calls Try.prog 11 #[.slice a ls.length cap, .bool lone] W fun e w' => e = .returned (.int .i64 (check ls lone)) ∧ w' = W) := fun W hW => check_c B a cap ls lone W (hi.stay hW)
  by_cases hc : check ls lone = 0
  · have HM : Hid (Calls Try.prog 9 #[.slice a ls.length cap, .bool lone] w fun e w' => ∃ bc gl gc vo N, e = .returned (.tuple #[.pointer (some ⟨bc, 0, none⟩), .int .i64 0]) ∧ CodeAt w.heap.size w'.heap.size w' bc gl gc vo N ls ∧ Below w.heap.size w w') := make_ok B a cap ls lone w hc hi
    rw [hc] at HC
    clear hc
    go_enter Try.func3, Try.ntmps3
    go_wp2_with (first
      | (go_at_call 9; refine HM.out.mono ?_; rintro e w1 ⟨bc, gl, gc, vo, N, rfl, c1, b1⟩; have B1 : Hid (Below w.heap.size w w1) := b1; clear b1 c1)
      | (go_at_call 10; refine (alive_any _).mono ?_; rintro e w2 ⟨rfl, b2⟩; have B2 : Hid (Below w.heap.size w w2) := B1.out.trans (b2.mono B1.out.size); clear b2)
      | (go_at_call 11; refine (HC _ B2.out).out.mono ?_; rintro e w3 ⟨rfl, rfl⟩))
    go_ret
    exact ⟨rfl, B2.out⟩
  · have HM : Hid (Calls Try.prog 9 #[.slice a ls.length cap, .bool lone] w fun e w' => e = .returned (.tuple #[.pointer none, .int .i64 (check ls lone)]) ∧ Below w.heap.size w w') := make_err B a cap ls lone w hc hi
    generalize check ls lone = C at HC HM hc
    go_enter Try.func3, Try.ntmps3
    go_wp2_with (first
      | (go_at_call 9; refine HM.out.mono ?_; rintro e w1 ⟨rfl, b1⟩; have B1 : Hid (Below w.heap.size w w1) := b1; clear b1)
      | (go_at_call 10; refine (alive_any _).mono ?_; rintro e w2 ⟨rfl, b2⟩; have B2 : Hid (Below w.heap.size w w2) := B1.out.trans (b2.mono B1.out.size); clear b2)
      | (go_at_call 11; refine (HC _ B2.out).out.mono ?_; rintro e w3 ⟨rfl, rfl⟩))
    go_ret
    exact ⟨by simp [hc], B2.out⟩

set_option maxRecDepth 100000 in
theorem lifted (os : Os) (started : os.Started) (H : Type) (enc : TypeId × Value → H) :
    ReturnsInHanded {} Try.checked os 3 .any (Rows.huffMakesSpec.pre6 enc Try.prog Try.f3 Rows.huffMakesRow.domain false) (Rows.huffMakesSpec.post enc Try.prog Try.f3 false true false false) := by
  refine returnsInHanded_of_change_sized (C := Try.checked) own started (by kernel_rfl) Try.func3
    (ChangeSpec.witness6 (enc := enc) (C := Try.checked) false ⟨#[], #[.slice none 0 0, .bool false], []⟩ 8 (by kernel_rfl) (by kernel_rfl) (by kernel_rfl) (by kernel_rfl)) ?_
  intro W base args ds gs before hval0 hW _ hsz0 _
  have hsz : (DataW.weightsEach Try.prog (Try.f3.params.toList ++ Rows.huffMakesSpec.plain.varTypes Try.prog) (ds ++ gs)).all (· ≤ reachBytes) = true := hsz0
  clear hsz0
  have hval : ∀ (j : Nat) t v, Try.f3.params[j]? = some t → args[j]? = some v → Value.okWide Try.prog W .any base t v := hval0
  have hW' := hW
  obtain ⟨p, q, hA0, hV, rfl, hfz, hnd⟩ := hW
  have hA : DataW.TrodAll enc Try.prog W 0 (fun _ => true) true Try.f3.params.toList args.toList ds p := hA0
  rw [Try.params3] at hA hval hsz
  obtain ⟨v0, vs0, d0, ds0, p0, q0, hargs, rfl, rfl, h0, r0⟩ := trodAll_cons hA
  obtain ⟨v1, vs1, d1, ds1, p1, q1, rfl, rfl, rfl, h1, r1⟩ := trodAll_cons r0
  obtain ⟨rfl, rfl, rfl⟩ := trodAll_nil r1
  obtain rfl : args = #[v0, v1] := by cases args; simp_all
  obtain ⟨rfl, rfl⟩ := trodVars_none hV
  obtain ⟨a0, len0, cap0, rfl⟩ := okWide_slice Try.underlying22 (hval 0 22 v0 rfl rfl)
  have k0 := h0
  have lt0 : ∀ x ∈ p0, x.block < W.heap.size := by obtain ⟨m, hm⟩ := k0; exact DataW.trod_lt m _ _ _ hm
  obtain ⟨ls0, rfl, t0, n0, hl0⟩ := open_list (j := 0) hsz rfl rfl h0
  obtain ⟨b1, rfl, rfl, rfl⟩ := open_bool Try.underlying4 (hval 1 4 v1 rfl rfl) h1
  clear hA0 hval0
  refine (walk W.heap.size _ _ ls0 b1 W t0).mono fun e W' ⟨he, bel⟩ => ?_
  subst he
  exact ⟨_, rfl, _, _, _, [], _, [], hW', trodAll_mk1 (shut_bool Try.underlying4 _), (trodAll_cons_mk (Below.trod laidOut (by kernel_rfl) (of_decide_eq_true (by kernel_rfl)) k0 bel lt0) (trodAll_cons_mk (shut_bool Try.underlying4 _) trodAll_mk0)), rfl, bel.frame _, fun h => by cases h⟩

theorem over : Rows.huffMakesRow.holds Try.pinned (OpenSpec.ofChange Rows.huffMakesSpec) :=
  OpenClaim.holds_of_wide 3 Try.f3 rfl rfl rfl rfl rfl rfl rfl ⟨rfl, rfl, rfl, rfl, rfl⟩ rfl rfl rfl rfl rfl (by kernel_rfl) Try.func3 (by kernel_rfl)
    (of_decide_eq_true (by kernel_rfl)) (by unfold Func.isWrapper; first | (rw [if_pos (by decide +kernel)]; kernel_rfl) | (rw [if_neg (by decide +kernel)]; exact ⟨rfl, rfl⟩))
    (fun os started H enc _ => lifted os started H enc)

theorem proved : Rows.HuffMakesSaid := over
end Go.Proofs.Ytoeebdjmedkldaa.huffMakes
namespace Go.Proofs.Ytoeebdjmedkldaa
theorem huffMakes_holds : Rows.HuffMakesSaid := huffMakes.proved
#print axioms huffMakes_holds
end Go.Proofs.Ytoeebdjmedkldaa
