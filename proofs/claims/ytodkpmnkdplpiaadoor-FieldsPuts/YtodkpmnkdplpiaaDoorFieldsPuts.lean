/-
  PROVED: 'wainloadlaw03.FieldsPuts' answers true: any number is written in any number of bytes as the document says, or refused; what was written is read as it was. The card: the library's tables are what the program's text lays.
-/
import Derived.Test.YtodkpmnkdplpiaaDoorLaidTab
namespace Go.Proofs.YtodkpmnkdplpiaaDoor.fieldsPuts
open Go.ChangeShapes Go.WideShapes Go.ChangeAt Go.RowKit
set_option linter.unusedVariables false

set_option maxRecDepth 100000 in
theorem walk (v n : Int) (hv : -9223372036854775808 ≤ v ∧ v ≤ 9223372036854775807) (hn : -9223372036854775808 ≤ n ∧ n ≤ 9223372036854775807) (w : World) (hT : Tabs w) :
    Calls Tryd.prog 5 #[.int .i64 v, .int .i64 n] w fun e w' => e = .returned (.bool true) ∧ Below w.heap.size w w' := by
  have HT : Hid (Tabs w) := hT
  have h1 := put_c v n w hT
  have h2 : Hid (∀ W, Calls Tryd.prog 17 #[.int .i64 v, .int .i64 n] W fun e w' => ∃ s, e = .returned (.tuple #[s, .bool (putR v n).isSome]) ∧ Bs w' s ((putR v n).getD []) ∧ Below W.heap.size W w') := fun W => refPut_c v n hv hn W
  rw [put_eq] at h1
  have hX : ∃ (X : List UInt8) (is : Bool) (D : Int × Int), (putR v n).getD [] = X ∧ (putR v n).isSome = is ∧ X.length ≤ 9223372036854775807 ∧ octP X = D ∧ (is = true → D = (v, 0)) := by
    refine ⟨_, _, _, rfl, rfl, ?_, rfl, ?_⟩
    · cases hp : putR v n with
      | none => simp
      | some X => exact putR_len hp
    · intro h
      cases hp : putR v n with
      | none => rw [hp] at h; cases h
      | some X => exact put_back v n X hp
  obtain ⟨X, is, D, e1, e2, hl, hD, hDv⟩ := hX
  rw [e1, e2] at h1 h2
  have h3 : Hid (∀ W s, Bs W s X → Calls Tryd.prog 14 #[s] W fun e w' => e = .returned (.tuple #[.int .i64 D.1, .int .i64 D.2]) ∧ Below W.heap.size W w') := fun W s hb => by
    have := oct_c s X hl W hb
    rw [hD] at this
    exact this
  clear e1 e2 hD hl hT
  obtain ⟨S, hS⟩ : ∃ S : ByteArray, (⟨X.toArray⟩ : ByteArray) = S := ⟨_, rfl⟩
  have HS : Hid ((⟨X.toArray⟩ : ByteArray) = S) := hS
  clear hS
  cases is with
  | true =>
    obtain rfl := hDv rfl
    clear hDv
    go_enter Tryd.func5, Tryd.ntmps5
    go_wp2_with (first
      | (go_at_call 16; go_fit h1; rintro e w2 ⟨s2, rfl, o2, b2⟩; have O2 : Hid (Bs w2 s2 X) := o2; have B2 : Hid (Below w.heap.size w w2) := b2; clear o2 b2)
      | (go_at_call 17; go_fit (h2.out _); rintro e w3 ⟨s3, rfl, o3, b3⟩; have O3 : Hid (Bs w3 s2 X) := bs_keep b3 O2.out (Nat.le_refl _); have hc3 := conv_bs o3; have hc2 := conv_bs O3.out; rw [HS.out] at hc3 hc2; have B3 : Hid (Below w.heap.size w w3) := B2.out.trans (b3.mono B2.out.size); clear o3 b3)
      | (go_at_call 14; go_fit (h3.out _ _ O3.out); rintro e w4 ⟨rfl, b4⟩; have B4 : Hid (Below w.heap.size w w4) := B3.out.trans (b4.mono B3.out.size); clear b4)
      | (go_at_call 9; go_fit (alive_c _ (tabs_keep HT.out B4.out (Nat.le_refl _))); rintro e w9 ⟨rfl, b9⟩; have B9 : Hid (Below w.heap.size w w9) := B4.out.trans (b9.mono B4.out.size); clear b9))
    go_ret
    exact ⟨rfl, B9.out⟩
  | false =>
    obtain ⟨d1, d2⟩ := D
    clear hDv
    go_enter Tryd.func5, Tryd.ntmps5
    go_wp2_with (first
      | (go_at_call 16; go_fit h1; rintro e w2 ⟨s2, rfl, o2, b2⟩; have O2 : Hid (Bs w2 s2 X) := o2; have B2 : Hid (Below w.heap.size w w2) := b2; clear o2 b2)
      | (go_at_call 17; go_fit (h2.out _); rintro e w3 ⟨s3, rfl, o3, b3⟩; have O3 : Hid (Bs w3 s2 X) := bs_keep b3 O2.out (Nat.le_refl _); have hc3 := conv_bs o3; have hc2 := conv_bs O3.out; rw [HS.out] at hc3 hc2; have B3 : Hid (Below w.heap.size w w3) := B2.out.trans (b3.mono B2.out.size); clear o3 b3)
      | (go_at_call 14; go_fit (h3.out _ _ O3.out); rintro e w4 ⟨rfl, b4⟩; have B4 : Hid (Below w.heap.size w w4) := B3.out.trans (b4.mono B3.out.size); clear b4)
      | (go_at_call 9; go_fit (alive_c _ (tabs_keep HT.out B4.out (Nat.le_refl _))); rintro e w9 ⟨rfl, b9⟩; have B9 : Hid (Below w.heap.size w w9) := B4.out.trans (b9.mono B4.out.size); clear b9))
    go_ret
    exact ⟨rfl, B9.out⟩

set_option maxRecDepth 100000 in
theorem lifted (os : Os) (started : os.Started) (H : Type) (enc : TypeId × Value → H) :
    ReturnsInHanded {} Tryd.checked os 5 .any (fun w args => (Rows.fieldsPutsSpec.pre enc Tryd.prog Tryd.f5 Rows.fieldsPutsRow.domain false w args ∧ laidMetH Tryd.prog Rows.fieldsPutsRow.laid w) ∧ sizedMet enc Tryd.prog Tryd.f5 (OpenSpec.ofChange Rows.fieldsPutsSpec) false w args)
      (Rows.fieldsPutsSpec.post enc Tryd.prog Tryd.f5 false true false false) := by
  refine returnsInHanded_of_change_and (C := Tryd.checked) (X := fun w _ => laidMetH Tryd.prog Rows.fieldsPutsRow.laid w) (fun _ _ _ hh h => h.of_heap hh) own started (by kernel_rfl) Tryd.func5
    (ChangeSpec.witness_shaped (enc := enc) (C := Tryd.checked) (os := os) (X := fun w _ => laidMetH Tryd.prog Rows.fieldsPutsRow.laid w) false (World.laidAll Tryd.prog os Rows.fieldsPutsRow.laid) #[.int .i64 0, .int .i64 0] 8 (World.laidAll_os _ _ _)
      (World.shaped_of_ZipB (by kernel_rfl) (by kernel_rfl)) (by kernel_rfl) (by kernel_rfl) (by kernel_rfl) (wit_met os _)) ?_
  intro W base args ds gs before hval0 hW _ _ hL _
  have hval : ∀ (j : Nat) t v, Tryd.f5.params[j]? = some t → args[j]? = some v → Value.okWide Tryd.prog W .any base t v := hval0
  have hW' := hW
  obtain ⟨p, q, hA0, hV, rfl, hfz, hnd⟩ := hW
  have hA : DataW.TrodAll enc Tryd.prog W 0 (fun _ => true) true Tryd.f5.params.toList args.toList ds p := hA0
  rw [Tryd.params5] at hA hval
  obtain ⟨v0, vs0, d0, ds0, p0, q0, hargs, rfl, rfl, h0, r0⟩ := trodAll_cons hA
  obtain ⟨v1, vs1, d1, ds1, p1, q1, rfl, rfl, rfl, h1, r1⟩ := trodAll_cons r0
  obtain ⟨rfl, rfl, rfl⟩ := trodAll_nil r1
  obtain rfl : args = #[v0, v1] := by cases args; simp_all
  obtain ⟨rfl, rfl⟩ := trodVars_none hV
  obtain ⟨a0, rfl, rfl, rfl, w0⟩ := open_int Tryd.underlying3 (hval 0 3 v0 rfl rfl) h0
  have bd0 := bounds_i64 w0
  obtain ⟨a1, rfl, rfl, rfl, w1⟩ := open_int Tryd.underlying3 (hval 1 3 v1 rfl rfl) h1
  have bd1 := bounds_i64 w1
  clear hA0 hval0
  refine (walk a0 a1 bd0 bd1 W (tabs_of_laid hL)).mono fun e W' ⟨he, bel⟩ => ?_
  subst he
  exact ⟨_, rfl, _, _, _, [], _, [], hW', trodAll_mk1 (shut_bool Tryd.underlying4 _), (trodAll_cons_mk (shut_int Tryd.underlying3 w0) (trodAll_cons_mk (shut_int Tryd.underlying3 w1) trodAll_mk0)), rfl, bel.frame _, fun h => by cases h⟩

theorem over : Rows.FieldsPutsSaid :=
  OpenClaim.holds_of_wide 5 Tryd.f5 rfl rfl rfl rfl rfl rfl rfl ⟨rfl, rfl, rfl, rfl, rfl⟩ rfl rfl rfl rfl rfl (by kernel_rfl) Tryd.func5 (by kernel_rfl)
    (of_decide_eq_true (by kernel_rfl)) (by unfold Func.isWrapper; first | (rw [if_pos (by decide +kernel)]; kernel_rfl) | (rw [if_neg (by decide +kernel)]; exact ⟨rfl, rfl⟩))
    (fun os started H enc _ => lifted os started H enc)
end Go.Proofs.YtodkpmnkdplpiaaDoor.fieldsPuts
namespace Go.Proofs.YtodkpmnkdplpiaaDoor
theorem fieldsPuts_holds : Rows.FieldsPutsCardSaid :=
  Claim7.holds_tied_plain_at .later [] [.data, .data, .data, .data, .pinned] true Rows.fieldsPutsCard.stood.harness false
    fieldsPuts.over (fun _ h => by cases h) (by kernel_rfl) (fun _ h => by cases h) fieldsPuts_row_tie rfl ⟨rfl, rfl⟩ (by kernel_rfl) rfl
    (fun f fn hf hfn => by
      obtain rfl : f = 5 := Option.some.inj ((show Tryd.prog.funcNamed Rows.fieldsPutsRow.func = some 5 by kernel_rfl).symm.trans hf) |>.symm
      obtain rfl : fn = Tryd.f5 := (Option.some.inj (Tryd.func5.symm.trans hfn)).symm
      exact ⟨by kernel_rfl, fun j t ht => by
        rw [Tryd.params5] at ht
        have hm : t ∈ [3, 3] := by simpa using Array.mem_of_getElem? ht
        have hall : ([3, 3].all fun u => !Tryd.prog.wantsStandIn u) = true := by kernel_rfl
        exact (show Tryd.prog.wantsStandIn t = false by simpa using List.all_eq_true.1 hall t hm)⟩)
    (by kernel_rfl)
#print axioms fieldsPuts_holds
end Go.Proofs.YtodkpmnkdplpiaaDoor
