/-
  PROVED: 'wainloadlaw03.FieldsOctals' answers true: any bytes are read as the number that tar writes so, or refused. The card: the library's tables are what the program's text lays.
-/
import Derived.Test.YtodkpmnkdplpiaaDoorLaidTab
namespace Go.Proofs.YtodkpmnkdplpiaaDoor.fieldsOctals
open Go.ChangeShapes Go.WideShapes Go.ChangeAt Go.RowKit
set_option linter.unusedVariables false

set_option maxRecDepth 100000 in
theorem walk (v : Value) (xs : List UInt8) (hl : xs.length ≤ 9223372036854775807) (w : World) (hT : Tabs w) (hb : Bs w v xs) :
    Calls Tryd.prog 4 #[v] w fun e w' => e = .returned (.bool true) ∧ Below w.heap.size w w' := by
  have HT : Hid (Tabs w) := hT
  have h1 := oct_c v xs hl w hb
  have h2 : Hid (∀ W, Bs W v xs → Calls Tryd.prog 15 #[v] W fun e w' => e = .returned (.tuple #[.int .i64 (octR xs).1, .int .i64 (octR xs).2]) ∧ w' = W) := fun W h => refOct_c v xs hl W h
  have HB : Hid (Bs w v xs) := hb
  clear hb
  rw [oct_eq] at h1
  obtain ⟨D, hD⟩ : ∃ D, octR xs = D := ⟨_, rfl⟩
  rw [hD] at h1 h2
  obtain ⟨d1, d2⟩ := D
  clear hD hT
  go_enter Tryd.func4, Tryd.ntmps4
  go_wp2_with (first
    | (go_at_call 14; go_fit h1; rintro e w2 ⟨rfl, b2⟩; have B2 : Hid (Below w.heap.size w w2) := b2; clear b2)
    | (go_at_call 15; go_fit (h2.out _ (bs_keep B2.out HB.out (Nat.le_refl _))); rintro e w3 ⟨rfl, hw3⟩; obtain rfl : w2 = w3 := hw3.symm)
    | (go_at_call 9; go_fit (alive_c _ (tabs_keep HT.out B2.out (Nat.le_refl _))); rintro e w9 ⟨rfl, b9⟩; have B9 : Hid (Below w.heap.size w w9) := B2.out.trans (b9.mono B2.out.size); clear b9))
  go_ret
  exact ⟨rfl, B9.out⟩

set_option maxRecDepth 100000 in
theorem lifted (os : Os) (started : os.Started) (H : Type) (enc : TypeId × Value → H) :
    ReturnsInHanded {} Tryd.checked os 4 .any (fun w args => (Rows.fieldsOctalsSpec.pre enc Tryd.prog Tryd.f4 Rows.fieldsOctalsRow.domain false w args ∧ laidMetH Tryd.prog Rows.fieldsOctalsRow.laid w) ∧ sizedMet enc Tryd.prog Tryd.f4 (OpenSpec.ofChange Rows.fieldsOctalsSpec) false w args)
      (Rows.fieldsOctalsSpec.post enc Tryd.prog Tryd.f4 false true false false) := by
  refine returnsInHanded_of_change_and (C := Tryd.checked) (X := fun w _ => laidMetH Tryd.prog Rows.fieldsOctalsRow.laid w) (fun _ _ _ hh h => h.of_heap hh) own started (by kernel_rfl) Tryd.func4
    (ChangeSpec.witness_shaped (enc := enc) (C := Tryd.checked) (os := os) (X := fun w _ => laidMetH Tryd.prog Rows.fieldsOctalsRow.laid w) false (World.laidAll Tryd.prog os Rows.fieldsOctalsRow.laid) #[.slice none 0 0] 8 (World.laidAll_os _ _ _)
      (World.shaped_of_ZipB (by kernel_rfl) (by kernel_rfl)) (by kernel_rfl) (by kernel_rfl) (by kernel_rfl) (wit_met os _)) ?_
  intro W base args ds gs before hval0 hW _ _ hL _
  have hval : ∀ (j : Nat) t v, Tryd.f4.params[j]? = some t → args[j]? = some v → Value.okWide Tryd.prog W .any base t v := hval0
  have hW' := hW
  obtain ⟨p, q, hA0, hV, rfl, hfz, hnd⟩ := hW
  have hA : DataW.TrodAll enc Tryd.prog W 0 (fun _ => true) true Tryd.f4.params.toList args.toList ds p := hA0
  rw [Tryd.params4] at hA hval
  obtain ⟨v0, vs0, d0, ds0, p0, q0, hargs, rfl, rfl, h0, r0⟩ := trodAll_cons hA
  obtain ⟨rfl, rfl, rfl⟩ := trodAll_nil r0
  obtain rfl : args = #[v0] := by cases args; simp_all
  obtain ⟨rfl, rfl⟩ := trodVars_none hV
  obtain ⟨a0, len0, cap0, rfl⟩ := okWide_slice Tryd.underlying22 (hval 0 22 v0 rfl rfl)
  have k0 := h0
  have lt0 : ∀ x ∈ p0, x.block < W.heap.size := by obtain ⟨m, hm⟩ := k0; exact DataW.trod_lt m _ _ _ hm
  obtain ⟨x0, t0, hl0⟩ := open_bytes h0
  clear hA0 hval0
  refine (walk (.slice a0 len0 cap0) x0 hl0 W (tabs_of_laid hL) t0).mono fun e W' ⟨he, bel⟩ => ?_
  subst he
  exact ⟨_, rfl, _, _, _, [], _, [], hW', trodAll_mk1 (shut_bool Tryd.underlying4 _), (trodAll_cons_mk (Below.trod laidOut (by kernel_rfl) (of_decide_eq_true (by kernel_rfl)) k0 bel lt0) trodAll_mk0), rfl, bel.frame _, fun h => by cases h⟩

theorem over : Rows.FieldsOctalsSaid :=
  OpenClaim.holds_of_wide 4 Tryd.f4 rfl rfl rfl rfl rfl rfl rfl ⟨rfl, rfl, rfl, rfl, rfl⟩ rfl rfl rfl rfl rfl (by kernel_rfl) Tryd.func4 (by kernel_rfl)
    (of_decide_eq_true (by kernel_rfl)) (by unfold Func.isWrapper; first | (rw [if_pos (by decide +kernel)]; kernel_rfl) | (rw [if_neg (by decide +kernel)]; exact ⟨rfl, rfl⟩))
    (fun os started H enc _ => lifted os started H enc)
end Go.Proofs.YtodkpmnkdplpiaaDoor.fieldsOctals
namespace Go.Proofs.YtodkpmnkdplpiaaDoor
theorem fieldsOctals_holds : Rows.FieldsOctalsCardSaid :=
  Claim7.holds_tied_plain_at .later [] [.data, .data, .data, .data, .pinned] true Rows.fieldsOctalsCard.stood.harness false
    fieldsOctals.over (fun _ h => by cases h) (by kernel_rfl) (fun _ h => by cases h) fieldsOctals_row_tie rfl ⟨rfl, rfl⟩ (by kernel_rfl) rfl
    (fun f fn hf hfn => by
      obtain rfl : f = 4 := Option.some.inj ((show Tryd.prog.funcNamed Rows.fieldsOctalsRow.func = some 4 by kernel_rfl).symm.trans hf) |>.symm
      obtain rfl : fn = Tryd.f4 := (Option.some.inj (Tryd.func4.symm.trans hfn)).symm
      exact ⟨by kernel_rfl, fun j t ht => by
        rw [Tryd.params4] at ht
        have hm : t ∈ [22] := by simpa using Array.mem_of_getElem? ht
        have hall : ([22].all fun u => !Tryd.prog.wantsStandIn u) = true := by kernel_rfl
        exact (show Tryd.prog.wantsStandIn t = false by simpa using List.all_eq_true.1 hall t hm)⟩)
    (by kernel_rfl)
#print axioms fieldsOctals_holds
end Go.Proofs.YtodkpmnkdplpiaaDoor
