/-
  PROVED: 'wainloadlaw03.FieldsTimes' answers true: any nanoseconds are written as seconds as the document says; they are read as they were, if they are not too far away. The card: the library's tables are what the program's text lays.
-/
import Derived.Test.YtodkpmnkdplpiaaDoorLaidTab
namespace Go.Proofs.YtodkpmnkdplpiaaDoor.fieldsTimes
open Go.ChangeShapes Go.WideShapes Go.ChangeAt Go.RowKit
set_option linter.unusedVariables false

set_option maxRecDepth 100000 in
theorem walk (t : Int) (ht : -9223372036854775808 ≤ t ∧ t ≤ 9223372036854775807) (w : World) (hT : Tabs w) :
    Calls Tryd.prog 8 #[.int .i64 t] w fun e w' => e = .returned (.bool true) ∧ Below w.heap.size w w' := by
  have HT : Hid (Tabs w) := hT
  have h1 := ps_c t ht w hT
  have hlen := psP_len t ht
  have h2 : Hid (∀ W, Calls Tryd.prog 20 #[.string ⟨(psP t).toArray⟩] W fun e w' => e = .returned (.tuple #[.int .i64 (secP (psP t)).1, .int .i64 (secP (psP t)).2]) ∧ Below W.heap.size W w') := fun W => sec_c ⟨(psP t).toArray⟩ (by rw [size_mk]; omega) W
  have h3 : Hid (∀ W, Calls Tryd.prog 23 #[.int .i64 t] W fun e w' => e = .returned (.string ⟨(psP t).toArray⟩) ∧ Below W.heap.size W w') := fun W => by
    rw [ps_eq]; exact refPS_c t ht W
  have hB := sec_back t
  obtain ⟨D, hD⟩ : ∃ D, secP (psP t) = D := ⟨_, rfl⟩
  rw [hD] at h2 hB
  obtain ⟨S, hS⟩ : ∃ S : ByteArray, (⟨(psP t).toArray⟩ : ByteArray) = S := ⟨_, rfl⟩
  rw [hS] at h1 h2 h3
  clear hD hS hT hlen
  by_cases hn : -9000000000000000000 < t ∧ t < 9000000000000000000
  · obtain rfl := hB hn
    obtain ⟨hn1, hn2⟩ := hn
    clear hB
    go_enter Tryd.func8, Tryd.ntmps8
    go_wp2_with (first
      | (go_at_call 22; go_fit h1; rintro e w2 ⟨rfl, b2⟩; have B2 : Hid (Below w.heap.size w w2) := b2; clear b2)
      | (go_at_call 20; go_fit (h2.out _); rintro e w3 ⟨rfl, b3⟩; have B3 : Hid (Below w.heap.size w w3) := B2.out.trans (b3.mono B2.out.size); clear b3)
      | (go_at_call 9; go_fit (alive_c _ (tabs_keep HT.out B3.out (Nat.le_refl _))); rintro e w9 ⟨rfl, b9⟩; have B9 : Hid (Below w.heap.size w w9) := B3.out.trans (b9.mono B3.out.size); clear b9)
      | (go_at_call 23; go_fit (h3.out _); rintro e w5 ⟨rfl, b5⟩; have B5 : Hid (Below w.heap.size w w5) := B9.out.trans (b5.mono B9.out.size); clear b5))
    go_ret
    exact ⟨rfl, B5.out⟩
  · obtain ⟨d1, d2⟩ := D
    clear hB
    by_cases hn1 : -9000000000000000000 < t
    · have hn2 : 9000000000000000000 ≤ t := by omega
      clear hn
      go_enter Tryd.func8, Tryd.ntmps8
      go_wp2_with (first
        | (go_at_call 22; go_fit h1; rintro e w2 ⟨rfl, b2⟩; have B2 : Hid (Below w.heap.size w w2) := b2; clear b2)
        | (go_at_call 20; go_fit (h2.out _); rintro e w3 ⟨rfl, b3⟩; have B3 : Hid (Below w.heap.size w w3) := B2.out.trans (b3.mono B2.out.size); clear b3)
        | (go_at_call 9; go_fit (alive_c _ (tabs_keep HT.out B3.out (Nat.le_refl _))); rintro e w9 ⟨rfl, b9⟩; have B9 : Hid (Below w.heap.size w w9) := B3.out.trans (b9.mono B3.out.size); clear b9)
        | (go_at_call 23; go_fit (h3.out _); rintro e w5 ⟨rfl, b5⟩; have B5 : Hid (Below w.heap.size w w5) := B9.out.trans (b5.mono B9.out.size); clear b5))
      go_ret
      exact ⟨rfl, B5.out⟩
    · clear hn
      go_enter Tryd.func8, Tryd.ntmps8
      go_wp2_with (first
        | (go_at_call 22; go_fit h1; rintro e w2 ⟨rfl, b2⟩; have B2 : Hid (Below w.heap.size w w2) := b2; clear b2)
        | (go_at_call 20; go_fit (h2.out _); rintro e w3 ⟨rfl, b3⟩; have B3 : Hid (Below w.heap.size w w3) := B2.out.trans (b3.mono B2.out.size); clear b3)
        | (go_at_call 9; go_fit (alive_c _ (tabs_keep HT.out B3.out (Nat.le_refl _))); rintro e w9 ⟨rfl, b9⟩; have B9 : Hid (Below w.heap.size w w9) := B3.out.trans (b9.mono B3.out.size); clear b9)
        | (go_at_call 23; go_fit (h3.out _); rintro e w5 ⟨rfl, b5⟩; have B5 : Hid (Below w.heap.size w w5) := B9.out.trans (b5.mono B9.out.size); clear b5))
      go_ret
      exact ⟨rfl, B5.out⟩

set_option maxRecDepth 100000 in
theorem lifted (os : Os) (started : os.Started) (H : Type) (enc : TypeId × Value → H) :
    ReturnsInHanded {} Tryd.checked os 8 .any (fun w args => (Rows.fieldsTimesSpec.pre enc Tryd.prog Tryd.f8 Rows.fieldsTimesRow.domain false w args ∧ laidMetH Tryd.prog Rows.fieldsTimesRow.laid w) ∧ sizedMet enc Tryd.prog Tryd.f8 (OpenSpec.ofChange Rows.fieldsTimesSpec) false w args)
      (Rows.fieldsTimesSpec.post enc Tryd.prog Tryd.f8 false true false false) := by
  refine returnsInHanded_of_change_and (C := Tryd.checked) (X := fun w _ => laidMetH Tryd.prog Rows.fieldsTimesRow.laid w) (fun _ _ _ hh h => h.of_heap hh) own started (by kernel_rfl) Tryd.func8
    (ChangeSpec.witness_shaped (enc := enc) (C := Tryd.checked) (os := os) (X := fun w _ => laidMetH Tryd.prog Rows.fieldsTimesRow.laid w) false (World.laidAll Tryd.prog os Rows.fieldsTimesRow.laid) #[.int .i64 0] 8 (World.laidAll_os _ _ _)
      (World.shaped_of_ZipB (by kernel_rfl) (by kernel_rfl)) (by kernel_rfl) (by kernel_rfl) (by kernel_rfl) (wit_met os _)) ?_
  intro W base args ds gs before hval0 hW _ _ hL _
  have hval : ∀ (j : Nat) t v, Tryd.f8.params[j]? = some t → args[j]? = some v → Value.okWide Tryd.prog W .any base t v := hval0
  have hW' := hW
  obtain ⟨p, q, hA0, hV, rfl, hfz, hnd⟩ := hW
  have hA : DataW.TrodAll enc Tryd.prog W 0 (fun _ => true) true Tryd.f8.params.toList args.toList ds p := hA0
  rw [Tryd.params8] at hA hval
  obtain ⟨v0, vs0, d0, ds0, p0, q0, hargs, rfl, rfl, h0, r0⟩ := trodAll_cons hA
  obtain ⟨rfl, rfl, rfl⟩ := trodAll_nil r0
  obtain rfl : args = #[v0] := by cases args; simp_all
  obtain ⟨rfl, rfl⟩ := trodVars_none hV
  obtain ⟨a0, rfl, rfl, rfl, w0⟩ := open_int Tryd.underlying2 (hval 0 2 v0 rfl rfl) h0
  have bd0 := bounds_i64 w0
  clear hA0 hval0
  refine (walk a0 bd0 W (tabs_of_laid hL)).mono fun e W' ⟨he, bel⟩ => ?_
  subst he
  exact ⟨_, rfl, _, _, _, [], _, [], hW', trodAll_mk1 (shut_bool Tryd.underlying4 _), (trodAll_cons_mk (shut_int Tryd.underlying2 w0) trodAll_mk0), rfl, bel.frame _, fun h => by cases h⟩

theorem over : Rows.FieldsTimesSaid :=
  OpenClaim.holds_of_wide 8 Tryd.f8 rfl rfl rfl rfl rfl rfl rfl ⟨rfl, rfl, rfl, rfl, rfl⟩ rfl rfl rfl rfl rfl (by kernel_rfl) Tryd.func8 (by kernel_rfl)
    (of_decide_eq_true (by kernel_rfl)) (by unfold Func.isWrapper; first | (rw [if_pos (by decide +kernel)]; kernel_rfl) | (rw [if_neg (by decide +kernel)]; exact ⟨rfl, rfl⟩))
    (fun os started H enc _ => lifted os started H enc)
end Go.Proofs.YtodkpmnkdplpiaaDoor.fieldsTimes
namespace Go.Proofs.YtodkpmnkdplpiaaDoor
theorem fieldsTimes_holds : Rows.FieldsTimesCardSaid :=
  Claim7.holds_tied_plain_at .later [] [.data, .data, .data, .data, .pinned] true Rows.fieldsTimesCard.stood.harness false
    fieldsTimes.over (fun _ h => by cases h) (by kernel_rfl) (fun _ h => by cases h) fieldsTimes_row_tie rfl ⟨rfl, rfl⟩ (by kernel_rfl) rfl
    (fun f fn hf hfn => by
      obtain rfl : f = 8 := Option.some.inj ((show Tryd.prog.funcNamed Rows.fieldsTimesRow.func = some 8 by kernel_rfl).symm.trans hf) |>.symm
      obtain rfl : fn = Tryd.f8 := (Option.some.inj (Tryd.func8.symm.trans hfn)).symm
      exact ⟨by kernel_rfl, fun j t ht => by
        rw [Tryd.params8] at ht
        have hm : t ∈ [2] := by simpa using Array.mem_of_getElem? ht
        have hall : ([2].all fun u => !Tryd.prog.wantsStandIn u) = true := by kernel_rfl
        exact (show Tryd.prog.wantsStandIn t = false by simpa using List.all_eq_true.1 hall t hm)⟩)
    (by kernel_rfl)
#print axioms fieldsTimes_holds
end Go.Proofs.YtodkpmnkdplpiaaDoor
