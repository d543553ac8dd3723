/-
  PROVED: 'wainloadlaw01.BitsWrites' answers true for every script: whatever is laid, the writer's length and bytes are those of the reference's list of bits; no conditions.
-/
import Derived.Test.YtamkjlihlnejoaaOpenOps
namespace Go.Proofs.Ytamkjlihlnejoaa.bitsWrites
open Go.ChangeShapes Go.WideShapes Go.ChangeAt Go.RowKit
set_option linter.unusedVariables false

theorem walk_out (a : Option Addr) (len cap : Nat) (os : Nat → OpD) (w : World) (h : Ops w.heap.size w a len os) (hf : ¬ (len ≤ 200 ∧ ∀ i, i < len → (os i).len ≤ 200)) :
    Calls Try.prog 4 #[.slice a len cap] w fun e w' => e = .returned (.bool true) ∧ Below w.heap.size w w' := by
  have few : Calls Try.prog 20 #[.slice a len cap] w fun e w' => e = .returned (.bool false) ∧ Below w.heap.size w w' := by
    by_cases hl : len ≤ 200
    · exact few_no a len cap os w h hl (fun hh => hf ⟨hl, hh⟩)
    · exact few_long a len cap w (by omega) h.1
  clear h hf
  go_enter Try.func4, Try.ntmps4
  go_wp2_with fail
  refine few.mono ?_
  rintro e w1 ⟨rfl, b1⟩
  clear few
  go_wp2_with fail
  refine (alive_any _).mono ?_
  rintro e w2 ⟨rfl, b2⟩
  go_wp2
  go_ret
  exact ⟨rfl, b1.trans (b2.mono b1.size)⟩

set_option maxHeartbeats 2000000 in
theorem walk_in (a : Option Addr) (len cap : Nat) (os : Nat → OpD) (w : World) (h : Ops w.heap.size w a len os) (hl : len ≤ 200) (hf : ∀ i, i < len → (os i).len ≤ 200) :
    Calls Try.prog 4 #[.slice a len cap] w fun e w' => e = .returned (.bool true) ∧ Below w.heap.size w w' := by
  have hrl := rowAt_len os len (fun i hi => by
    obtain ⟨b, off, hb, _, hc⟩ := h.2.resolve_left (by omega)
    rw [(hc i hi).tx.1]; exact hf i hi)
  have HO : Hid (Ops w.heap.size w a len os) := h
  have HF : Hid (∀ i, i < len → (os i).len ≤ 200) := hf
  clear h hf
  go_enter Try.func4, Try.ntmps4
  go_wp2_with fail
  refine (few_yes a len cap os w HO.out hl HF.out).mono ?_
  rintro e w1 ⟨rfl, b1⟩
  have hs1 := b1.size
  have O1 : Hid (Ops w1.heap.size w1 a len os) := (HO.out.kept (Kept.of_below b1) (fun b hb h => by omega)).up b1.size
  have B1 : Hid (Below w.heap.size w w1) := b1
  clear HO b1
  go_wp2_with fail
  refine (laid_any a len cap os w1 O1.out hl HF.out).mono ?_
  rintro e w2 ⟨vl, rfl, s2⟩
  clear O1 HF
  obtain ⟨L, hL⟩ : ∃ L, L = rowAt os len := ⟨_, rfl⟩
  rw [← hL] at s2 hrl
  clear hL
  have hLl : L.length ≤ 400000 := by omega
  clear hrl
  obtain ⟨al, cl, rfl⟩ := own_form s2.ow
  have S2 : Hid (Ld w1.heap.size w1 w2.drew (.slice al L.length cl) L L) := s2.drew
  have HB : Hid (Bin L) := s2.bin
  obtain ⟨D, hD⟩ : ∃ D, D = dataL L := ⟨_, rfl⟩
  have HD : Hid (D = dataL L) := hD
  clear s2 hD
  go_wp2_with fail
  go_region_with (first
    | (go_at_call 11; refine (alive_any _).mono ?_; rintro e w3 ⟨rfl, b3⟩; have S3 : Hid (Ld w1.heap.size w1 w3 (.slice al L.length cl) L L) := S2.out.below b3; clear b3)
    | (go_at_call 22; refine (ld_Len S3.out (by omega)).mono ?_; rintro e w4 ⟨rfl, s4⟩; have S4 : Hid (Ld w1.heap.size w1 w4 (.slice al L.length cl) L L) := s4; clear s4)
    | (go_at_call 23; refine (ld_Data_m S4.out (by omega) D HD.out).mono ?_; rintro e w5 ⟨g5, cp5, rfl, o5, b5⟩; have hc5 := conv_own o5; have S5 : Hid (Ld w1.heap.size w1 w5 (.slice al L.length cl) L L) := S4.out.below b5; have O5 : Hid (OwnsB w5 w4.heap.size (.slice (some ⟨g5, 0, none⟩) D.length cp5) D) := o5; clear o5 b5)
    | (go_at_call 24; refine (ld_Bytes_m S5.out HB.out (by omega) D HD.out).mono ?_; rintro e w6 ⟨v6, rfl, o6, b6⟩; have hc6 := conv_own o6; have hc6' := conv_own (O5.out.below b6); have S6 : Hid (Ld w1.heap.size w1 w6 (.slice al L.length cl) L L) := S5.out.below b6; clear o6 b6))
  all_goals go_wp2
  all_goals go_ret
  all_goals exact ⟨rfl, B1.out.trans (S6.out.bel.mono hs1)⟩

theorem walk (a : Option Addr) (len cap : Nat) (os : Nat → OpD) (w : World) (h : Ops w.heap.size w a len os) :
    Calls Try.prog 4 #[.slice a len cap] w fun e w' => e = .returned (.bool true) ∧ Below w.heap.size w w' := by
  by_cases hf : len ≤ 200 ∧ ∀ i, i < len → (os i).len ≤ 200
  · exact walk_in a len cap os w h hf.1 hf.2
  · exact walk_out a len cap os w h hf

set_option maxRecDepth 100000 in
theorem lifted (os : Os) (started : os.Started) (H : Type) (enc : TypeId × Value → H) :
    ReturnsInHanded {} Try.checked os 4 .any (Rows.bitsWritesSpec.pre6 enc Try.prog Try.f4 Rows.bitsWritesRow.domain false) (Rows.bitsWritesSpec.post enc Try.prog Try.f4 false true false false) := by
  refine returnsInHanded_of_change_sized (C := Try.checked) own started (by kernel_rfl) Try.func4
    (ChangeSpec.witness6 (enc := enc) (C := Try.checked) false ⟨#[], #[.slice none 0 0], []⟩ 8 (by kernel_rfl) (by kernel_rfl) (by kernel_rfl) (by kernel_rfl)) ?_
  intro W base args ds gs before hval0 hW _ hsz0 _
  have hsz : (DataW.weightsEach Try.prog (Try.f4.params.toList ++ Rows.bitsWritesSpec.plain.varTypes Try.prog) (ds ++ gs)).all (· ≤ reachBytes) = true := hsz0
  clear hsz0
  have hval : ∀ (j : Nat) t v, Try.f4.params[j]? = some t → args[j]? = some v → Value.okWide Try.prog W .any base t v := hval0
  have hW' := hW
  obtain ⟨p, q, hA0, hV, rfl, hfz, hnd⟩ := hW
  have hA : DataW.TrodAll enc Try.prog W 0 (fun _ => true) true Try.f4.params.toList args.toList ds p := hA0
  rw [Try.params4] at hA hval hsz
  obtain ⟨v0, vs0, d0, ds0, p0, q0, hargs, rfl, rfl, h0, r0⟩ := trodAll_cons hA
  obtain ⟨rfl, rfl, rfl⟩ := trodAll_nil r0
  obtain rfl : args = #[v0] := by cases args; simp_all
  obtain ⟨rfl, rfl⟩ := trodVars_none hV
  obtain ⟨a0, len0, cap0, rfl⟩ := okWide_slice Try.underlying23 (hval 0 23 v0 rfl rfl)
  have k0 := h0
  have lt0 : ∀ x ∈ p0, x.block < W.heap.size := by obtain ⟨m, hm⟩ := k0; exact DataW.trod_lt m _ _ _ hm
  obtain ⟨o0, t0⟩ := open_ops h0
  clear hA0 hval0
  refine (walk a0 len0 cap0 o0 W t0).mono fun e W' ⟨he, bel⟩ => ?_
  subst he
  exact ⟨_, rfl, _, _, _, [], _, [], hW', trodAll_mk1 (shut_bool Try.underlying4 _), (trodAll_cons_mk (Below.trod laidOut (by kernel_rfl) (of_decide_eq_true (by kernel_rfl)) k0 bel lt0) trodAll_mk0), rfl, bel.frame _, fun h => by cases h⟩

theorem over : Rows.bitsWritesRow.holds Try.pinned (OpenSpec.ofChange Rows.bitsWritesSpec) :=
  OpenClaim.holds_of_wide 4 Try.f4 rfl rfl rfl rfl rfl rfl rfl ⟨rfl, rfl, rfl, rfl, rfl⟩ rfl rfl rfl rfl rfl (by kernel_rfl) Try.func4 (by kernel_rfl)
    (of_decide_eq_true (by kernel_rfl)) (by unfold Func.isWrapper; first | (rw [if_pos (by decide +kernel)]; kernel_rfl) | (rw [if_neg (by decide +kernel)]; exact ⟨rfl, rfl⟩))
    (fun os started H enc _ => lifted os started H enc)

theorem proved : Rows.BitsWritesSaid := over
end Go.Proofs.Ytamkjlihlnejoaa.bitsWrites
namespace Go.Proofs.Ytamkjlihlnejoaa
theorem bitsWrites_holds : Rows.BitsWritesSaid := bitsWrites.proved
#print axioms bitsWrites_holds
end Go.Proofs.Ytamkjlihlnejoaa
