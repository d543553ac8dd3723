/-
  PROVED: 'wainloadlaw01.BitsTurns' answers true for every v and n: Turn(v, n) is what the reference's Turn tells, and Turn twice gives the n lowest bits of v; no conditions.
-/
import Derived.Test.YtamkjlihlnejoaaAlive
import Derived.ProofKit
import Derived.OpenShut
namespace Go.Proofs.Ytamkjlihlnejoaa.bitsTurns
open Go.ChangeShapes Go.WideShapes Go.ChangeAt Go.RowKit
set_option linter.unusedVariables false

theorem own : ownKnob Try.prog.godebug = none := by kernel_rfl

theorem walk_out (v n : Int) (w : World) (h : n < 0 ∨ 24 < n) :
    Calls Try.prog 7 #[.int .i64 v, .int .i64 n] w fun e w' => e = .returned (.bool true) ∧ Below w.heap.size w w' := by
  by_cases hn : n < 0
  · go_enter Try.func7, Try.ntmps7
    go_wp2_with (first | (go_at_call 25; refine (turn_no _ _ _ h).mono ?_; rintro e w ⟨rfl, rfl⟩) | (go_at_call 11; refine (alive_any _).mono ?_; rintro e w' ⟨rfl, hb⟩))
    go_ret
    exact ⟨rfl, by assumption⟩
  · have h2 : 24 < n := by omega
    go_enter Try.func7, Try.ntmps7
    go_wp2_with (first | (go_at_call 25; refine (turn_no _ _ _ h).mono ?_; rintro e w ⟨rfl, rfl⟩) | (go_at_call 11; refine (alive_any _).mono ?_; rintro e w' ⟨rfl, hb⟩))
    go_ret
    exact ⟨rfl, by assumption⟩

set_option maxHeartbeats 1000000 in
theorem walk_in (v n : Int) (w : World) (h0 : 0 ≤ n) (h1 : n ≤ 24) :
    Calls Try.prog 7 #[.int .i64 v, .int .i64 n] w fun e w' => e = .returned (.bool true) ∧ Below w.heap.size w w' := by
  have hp1 := pow_pos' n.toNat
  have hp2 := @pow_le_62 n.toNat (by omega)
  have e1 : IntKind.i64.wrap (2 ^ n.toNat) = 2 ^ n.toNat := by rw [IntKind.wrap_i64]; omega
  have e2 : IntKind.i64.wrap (2 ^ n.toNat - 1) = 2 ^ n.toNat - 1 := by rw [IntKind.wrap_i64]; omega
  clear hp1 hp2
  have e3 := and_mask v n.toNat (by omega)
  have e4 := turn_twice v n.toNat
  go_enter Try.func7, Try.ntmps7
  go_wp2_with (go_at_call 25; refine (turn_yes _ _ _ h0 h1).mono ?_; rintro e w ⟨rfl, rfl⟩)
  go_region_held3 (fun _ => True) (trivial) ((first | (go_at_call 11; refine (alive_any _).mono ?_; rintro e w' ⟨rfl, hb⟩) | (go_at_call 26; refine (refTurn_yes _ _ _ h0 h1).mono ?_; rintro e w'' ⟨rfl, rfl⟩) | (go_at_call 25; refine (turn_yes _ _ _ h0 h1).mono ?_; rintro e w'' ⟨rfl, rfl⟩)))
  all_goals go_wp2
  all_goals go_ret
  all_goals exact ⟨rfl, ((Below.refl _ w).drew).trans (by assumption)⟩

theorem walk (a0 : Int) (a1 : Int) (w : World) :
    Calls Try.prog 7 #[.int .i64 a0, .int .i64 a1] w fun e w' => e = .returned (.bool true) ∧ Below w.heap.size w w' := by
  by_cases h : a1 < 0 ∨ 24 < a1
  · exact walk_out a0 a1 w h
  · exact walk_in a0 a1 w (by omega) (by omega)

set_option maxRecDepth 100000 in
theorem lifted (os : Os) (started : os.Started) (H : Type) (enc : TypeId × Value → H) :
    ReturnsInHanded {} Try.checked os 7 .any (Rows.bitsTurnsSpec.pre6 enc Try.prog Try.f7 Rows.bitsTurnsRow.domain false) (Rows.bitsTurnsSpec.post enc Try.prog Try.f7 false true false false) := by
  refine returnsInHanded_of_change (C := Try.checked) own started (by kernel_rfl) Try.func7
    (ChangeSpec.witness6 (enc := enc) (C := Try.checked) false ⟨#[], #[.int .i64 0, .int .i64 0], []⟩ 8 (by kernel_rfl) (by kernel_rfl) (by kernel_rfl) (by kernel_rfl)) ?_
  intro W base args ds gs before hval0 hW hcnd _
  have hval : ∀ (j : Nat) t v, Try.f7.params[j]? = some t → args[j]? = some v → Value.okWide Try.prog W .any base t v := hval0
  have hW' := hW
  obtain ⟨p, q, hA0, hV, rfl, hfz, hnd⟩ := hW
  have hA : DataW.TrodAll enc Try.prog W 0 (fun _ => true) true Try.f7.params.toList args.toList ds p := hA0
  rw [Try.params7] at hA hval
  obtain ⟨v0, vs0, d0, ds0, p0, q0, hargs, rfl, rfl, h0, r0⟩ := trodAll_cons hA
  obtain ⟨v1, vs1, d1, ds1, p1, q1, rfl, rfl, rfl, h1, r1⟩ := trodAll_cons r0
  obtain ⟨rfl, rfl, rfl⟩ := trodAll_nil r1
  obtain rfl : args = #[v0, v1] := by cases args; simp_all
  obtain ⟨rfl, rfl⟩ := trodVars_none hV
  obtain ⟨a0, rfl, rfl, rfl, w0⟩ := open_int Try.underlying3 (hval 0 3 v0 rfl rfl) h0
  obtain ⟨a1, rfl, rfl, rfl, w1⟩ := open_int Try.underlying3 (hval 1 3 v1 rfl rfl) h1
  clear hA0 hval0
  refine (walk a0 a1 W).mono fun e W' ⟨he, bel⟩ => ?_
  subst he
  exact ⟨_, rfl, _, _, _, [], _, [], hW', trodAll_mk1 (shut_bool Try.underlying4 _), (trodAll_cons_mk (shut_int Try.underlying3 w0) (trodAll_cons_mk (shut_int Try.underlying3 w1) trodAll_mk0)), rfl, bel.frame _, fun h => by cases h⟩

theorem over : Rows.bitsTurnsRow.holds Try.pinned (OpenSpec.ofChange Rows.bitsTurnsSpec) :=
  OpenClaim.holds_of_wide 7 Try.f7 rfl rfl rfl rfl rfl rfl rfl ⟨rfl, rfl, rfl, rfl, rfl⟩ rfl rfl rfl rfl rfl (by kernel_rfl) Try.func7 (by kernel_rfl)
    (of_decide_eq_true (by kernel_rfl)) (by unfold Func.isWrapper; first | (rw [if_pos (by decide +kernel)]; kernel_rfl) | (rw [if_neg (by decide +kernel)]; exact ⟨rfl, rfl⟩))
    (fun os started H enc _ => lifted os started H enc)

theorem proved : Rows.BitsTurnsSaid :=
  over
end Go.Proofs.Ytamkjlihlnejoaa.bitsTurns
namespace Go.Proofs.Ytamkjlihlnejoaa
theorem bitsTurns_holds : Rows.BitsTurnsSaid := bitsTurns.proved
#print axioms bitsTurns_holds
end Go.Proofs.Ytamkjlihlnejoaa
