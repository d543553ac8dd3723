/-
  PROVED: 'wainloadlaw02.CheckTables' answers true for every byte n: the table's place n is n behind eight steps, as the reference has it; no conditions.
-/
import Derived.Test.YtddhegohecajcaaOpen
import Derived.Test.YtddhegohecajcaaRef
namespace Go.Proofs.Ytddhegohecajcaa.checkTables
open Go.ChangeShapes Go.WideShapes Go.ChangeAt Go.RowKit
set_option linter.unusedVariables false


set_option maxHeartbeats 2000000 in
set_option maxRecDepth 100000 in
theorem walk (n : Nat) (hn : n < 256) (w : World) :
    Calls Try.prog 3 #[.int .u8 (n : Int)] w fun e w' => e = .returned (.bool true) ∧ Below w.heap.size w w' := by
  have hz := zeroA
  have hi : (n : Int) < 256 := by omega
  have hw : IntKind.u32.wrap (n : Int) = (n : Int) := by rw [wrap32]; omega
  go_enter Try.func3, Try.ntmps3
  go_wp2_with (first
    | (go_at_call 8; refine (make_b _).mono ?_; rintro e w1 ⟨rfl, b1⟩; have B1 : Hid (Below w.heap.size w w1) := b1; clear b1)
    | (refine wpList_store_row rfl 24 (.tmp 3) (.tmp 4) rfl _ (tabA 256) (by rfl) (by rfl) (tabA 0) 24 (heap_new _ _) infoT (by rw [tabA_size, tabA_size]) (tabA_one _) _ (World.setRow_alloc_new _ _ _ _) ?_))
  have T1 := tab_new w1 24 n hn
  have hE := fun w => refEight_c n (by omega) w
  generalize e8 n = E at T1 hE
  obtain ⟨V, hV⟩ : ∃ V, V = w1.alloc (.cells (tabA 256) 24) := ⟨_, rfl⟩
  have HS : Hid (w1.heap.size < V.heap.size) := by rw [hV]; simp [Hid]
  have B2 : Hid (Below w.heap.size w V) := by rw [hV]; exact B1.out.alloc B1.out.size _
  rw [← hV] at T1 ⊢
  have HT1 : Hid (V.cell? ⟨w1.heap.size, n, none⟩ = some (.int .u32 (E : Int))) := T1
  clear hV
  generalize tabA 256 = TA
  go_region_held3 (fun w' => w'.cell? ⟨w1.heap.size, n, none⟩ = some (.int .u32 (E : Int))) (first | go_keep | assumption) (first
    | (go_at_call 9; refine (alive_c _).mono ?_; rintro e w2 ⟨rfl, b2⟩; have T2 : w2.cell? ⟨w1.heap.size, n, none⟩ = some (.int .u32 (E : Int)) := (b2.cell (p := ⟨w1.heap.size, n, none⟩) HS.out).trans HT1.out; have B3 : Hid (Below w.heap.size w w2) := B2.out.drew.trans (b2.mono B2.out.size); clear b2)
    | (go_at_call 10; refine (hE _).mono ?_; rintro e w3 ⟨rfl, rfl⟩))
  all_goals go_wp2
  all_goals go_ret
  all_goals exact ⟨rfl, B3.out⟩

set_option maxRecDepth 100000 in
theorem lifted (os : Os) (started : os.Started) (H : Type) (enc : TypeId × Value → H) :
    ReturnsInHanded {} Try.checked os 3 .any (Rows.checkTablesSpec.pre6 enc Try.prog Try.f3 Rows.checkTablesRow.domain false) (Rows.checkTablesSpec.post enc Try.prog Try.f3 false true false false) := by
  refine returnsInHanded_of_change_sized (C := Try.checked) own started (by kernel_rfl) Try.func3
    (ChangeSpec.witness6 (enc := enc) (C := Try.checked) false ⟨#[], #[.int .u8 0], []⟩ 8 (by kernel_rfl) (by kernel_rfl) (by kernel_rfl) (by kernel_rfl)) ?_
  intro W base args ds gs before hval0 hW _ hsz0 _
  have hsz : (DataW.weightsEach Try.prog (Try.f3.params.toList ++ Rows.checkTablesSpec.plain.varTypes Try.prog) (ds ++ gs)).all (· ≤ reachBytes) = true := hsz0
  clear hsz0
  have hval : ∀ (j : Nat) t v, Try.f3.params[j]? = some t → args[j]? = some v → Value.okWide Try.prog W .any base t v := hval0
  have hW' := hW
  obtain ⟨p, q, hA0, hV, rfl, hfz, hnd⟩ := hW
  have hA : DataW.TrodAll enc Try.prog W 0 (fun _ => true) true Try.f3.params.toList args.toList ds p := hA0
  rw [Try.params3] at hA hval hsz
  obtain ⟨v0, vs0, d0, ds0, p0, q0, hargs, rfl, rfl, h0, r0⟩ := trodAll_cons hA
  obtain ⟨rfl, rfl, rfl⟩ := trodAll_nil r0
  obtain rfl : args = #[v0] := by cases args; simp_all
  obtain ⟨rfl, rfl⟩ := trodVars_none hV
  obtain ⟨a0, rfl, rfl, rfl, w0⟩ := open_int Try.underlying5 (hval 0 5 v0 rfl rfl) h0
  have bd0 := bounds_u8 w0
  obtain ⟨n0, rfl⟩ := Int.eq_ofNat_of_zero_le bd0.1
  clear hA0 hval0
  refine (walk n0 (by omega) W).mono fun e W' ⟨he, bel⟩ => ?_
  subst he
  exact ⟨_, rfl, _, _, _, [], _, [], hW', trodAll_mk1 (shut_bool Try.underlying4 _), (trodAll_cons_mk (shut_int Try.underlying5 w0) trodAll_mk0), rfl, bel.frame _, fun h => by cases h⟩

theorem over : Rows.checkTablesRow.holds Try.pinned (OpenSpec.ofChange Rows.checkTablesSpec) :=
  OpenClaim.holds_of_wide 3 Try.f3 rfl rfl rfl rfl rfl rfl rfl ⟨rfl, rfl, rfl, rfl, rfl⟩ rfl rfl rfl rfl rfl (by kernel_rfl) Try.func3 (by kernel_rfl)
    (of_decide_eq_true (by kernel_rfl)) (by unfold Func.isWrapper; first | (rw [if_pos (by decide +kernel)]; kernel_rfl) | (rw [if_neg (by decide +kernel)]; exact ⟨rfl, rfl⟩))
    (fun os started H enc _ => lifted os started H enc)

theorem proved : Rows.CheckTablesSaid := over
end Go.Proofs.Ytddhegohecajcaa.checkTables
namespace Go.Proofs.Ytddhegohecajcaa
theorem checkTables_holds : Rows.CheckTablesSaid := checkTables.proved
#print axioms checkTables_holds
end Go.Proofs.Ytddhegohecajcaa
