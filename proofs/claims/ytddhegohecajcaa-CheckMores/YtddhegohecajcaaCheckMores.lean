/-
  PROVED: 'wainloadlaw02.CheckMores' answers true for every number and all bytes: More tells what the reference's More tells; no conditions.
-/
import Derived.Test.YtddhegohecajcaaOpen
import Derived.Test.YtddhegohecajcaaRef
namespace Go.Proofs.Ytddhegohecajcaa.checkMores
open Go.ChangeShapes Go.WideShapes Go.ChangeAt Go.RowKit
set_option linter.unusedVariables false


set_option maxRecDepth 100000 in
theorem walk (c : Nat) (hc : c < 4294967296) (v : Value) (xs : List Nat) (w : World) (hv : BytesAt w v xs) (hx : ∀ x ∈ xs, x < 256) (hl : xs.length ≤ 9223372036854775807) :
    Calls Try.prog 5 #[.int .u32 (c : Int), v] w fun e w' => e = .returned (.bool true) ∧ Below w.heap.size w w' := by
  have hz := zeroA
  have HV : Hid (BytesAt w v xs) := hv
  have HX : Hid (∀ x ∈ xs, x < 256) := hx
  clear hv hx
  go_enter Try.func5, Try.ntmps5
  go_wp2_with (first
    | (go_at_call 8; refine (make_b _).mono ?_; rintro e w1 ⟨rfl, b1⟩; have B1 : Hid (Below w.heap.size w w1) := b1; clear b1)
    | (refine wpList_store_row rfl 24 (.tmp 5) (.tmp 6) rfl _ (tabA 256) (by rfl) (by rfl) (tabA 0) 24 (heap_new _ _) infoT (by rw [tabA_size, tabA_size]) (tabA_one _) _ (World.setRow_alloc_new _ _ _ _) ?_)
    | (go_at_call 9; refine (alive_c _).mono ?_; rintro e w2 ⟨rfl, b2⟩; have T2 : Hid (TabIn w2 w1.heap.size) := tab_below b2 (by simp) (tab_new w1 24); have B3 : Hid (Below w.heap.size w w2) := (B1.out.alloc B1.out.size _).trans (b2.mono (by have := B1.out.size; simp; omega)); have V2 : Hid (BytesAt w2 v xs) := bytes_keep B3.out HV.out (Nat.le_refl _); clear b2)
    | (go_at_call 13; refine (more_c _ c hc v xs _ T2.out V2.out HX.out hl).mono ?_; rintro e w3 ⟨rfl, hw3⟩; obtain rfl : w2 = w3 := hw3.symm)
    | (go_at_call 14; refine (refMore_c c hc v xs _ V2.out HX.out hl).mono ?_; rintro e w3 ⟨rfl, hw3⟩; obtain rfl : w2 = w3 := hw3.symm))
  go_ret
  exact ⟨rfl, B3.out⟩

set_option maxRecDepth 100000 in
theorem lifted (os : Os) (started : os.Started) (H : Type) (enc : TypeId × Value → H) :
    ReturnsInHanded {} Try.checked os 5 .any (Rows.checkMoresSpec.pre6 enc Try.prog Try.f5 Rows.checkMoresRow.domain false) (Rows.checkMoresSpec.post enc Try.prog Try.f5 false true false false) := by
  refine returnsInHanded_of_change_sized (C := Try.checked) own started (by kernel_rfl) Try.func5
    (ChangeSpec.witness6 (enc := enc) (C := Try.checked) false ⟨#[], #[.int .u32 0, .slice none 0 0], []⟩ 8 (by kernel_rfl) (by kernel_rfl) (by kernel_rfl) (by kernel_rfl)) ?_
  intro W base args ds gs before hval0 hW _ hsz0 _
  have hsz : (DataW.weightsEach Try.prog (Try.f5.params.toList ++ Rows.checkMoresSpec.plain.varTypes Try.prog) (ds ++ gs)).all (· ≤ reachBytes) = true := hsz0
  clear hsz0
  have hval : ∀ (j : Nat) t v, Try.f5.params[j]? = some t → args[j]? = some v → Value.okWide Try.prog W .any base t v := hval0
  have hW' := hW
  obtain ⟨p, q, hA0, hV, rfl, hfz, hnd⟩ := hW
  have hA : DataW.TrodAll enc Try.prog W 0 (fun _ => true) true Try.f5.params.toList args.toList ds p := hA0
  rw [Try.params5] at hA hval hsz
  obtain ⟨v0, vs0, d0, ds0, p0, q0, hargs, rfl, rfl, h0, r0⟩ := trodAll_cons hA
  obtain ⟨v1, vs1, d1, ds1, p1, q1, rfl, rfl, rfl, h1, r1⟩ := trodAll_cons r0
  obtain ⟨rfl, rfl, rfl⟩ := trodAll_nil r1
  obtain rfl : args = #[v0, v1] := by cases args; simp_all
  obtain ⟨rfl, rfl⟩ := trodVars_none hV
  obtain ⟨a0, rfl, rfl, rfl, w0⟩ := open_int Try.underlying22 (hval 0 22 v0 rfl rfl) h0
  have bd0 := bounds_u32 w0
  obtain ⟨n0, rfl⟩ := Int.eq_ofNat_of_zero_le bd0.1
  obtain ⟨a1, len1, cap1, rfl⟩ := okWide_slice Try.underlying29 (hval 1 29 v1 rfl rfl)
  have k1 := h1
  have lt1 : ∀ x ∈ p1, x.block < W.heap.size := by obtain ⟨m, hm⟩ := k1; exact DataW.trod_lt m _ _ _ hm
  obtain ⟨x1, t1, len_1, mem1, lc1, ml1, sp1, hl1⟩ := open_text (j := 1) hsz rfl rfl h1
  clear hA0 hval0
  refine (walk n0 (by omega) _ x1 W t1 mem1 (by omega)).mono fun e W' ⟨he, bel⟩ => ?_
  subst he
  exact ⟨_, rfl, _, _, _, [], _, [], hW', trodAll_mk1 (shut_bool Try.underlying4 _), (trodAll_cons_mk (shut_int Try.underlying22 w0) (trodAll_cons_mk (Below.trod laidOut (by kernel_rfl) (of_decide_eq_true (by kernel_rfl)) k1 bel lt1) trodAll_mk0)), rfl, bel.frame _, fun h => by cases h⟩

theorem over : Rows.checkMoresRow.holds Try.pinned (OpenSpec.ofChange Rows.checkMoresSpec) :=
  OpenClaim.holds_of_wide 5 Try.f5 rfl rfl rfl rfl rfl rfl rfl ⟨rfl, rfl, rfl, rfl, rfl⟩ rfl rfl rfl rfl rfl (by kernel_rfl) Try.func5 (by kernel_rfl)
    (of_decide_eq_true (by kernel_rfl)) (by unfold Func.isWrapper; first | (rw [if_pos (by decide +kernel)]; kernel_rfl) | (rw [if_neg (by decide +kernel)]; exact ⟨rfl, rfl⟩))
    (fun os started H enc _ => lifted os started H enc)

theorem proved : Rows.CheckMoresSaid := over
end Go.Proofs.Ytddhegohecajcaa.checkMores
namespace Go.Proofs.Ytddhegohecajcaa
theorem checkMores_holds : Rows.CheckMoresSaid := checkMores.proved
#print axioms checkMores_holds
end Go.Proofs.Ytddhegohecajcaa
