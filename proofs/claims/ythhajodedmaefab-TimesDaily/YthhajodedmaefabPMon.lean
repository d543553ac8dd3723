/- The program's longYears and months: contracts. -/
import Derived.Test.YthhajodedmaefabTBase
namespace Go.Proofs.Ythhajodedmaefab.T
set_option maxRecDepth 100000
open Go Go.RowKit
set_option linter.unusedVariables false
/-- The long years from the year 1 on, up to the one ahead. -/
def ly (y : Int) : Int := (y - 1) / 4 - (y - 1) / 100 + (y - 1) / 400
theorem yn_ly (y : Int) : yn y = (y - 1970) * 365 + ly y - 477 := by unfold yn ly; omega
theorem longYears_c (y : Nat) (w : World) (h1 : 1 ≤ y) (h2 : y ≤ 100000) : Calls Try.prog 23 #[.int .i64 (y : Int)] w fun e w' => e = .returned (.int .i64 (ly (y : Int))) ∧ w' = w := by
  obtain ⟨z, rfl⟩ : ∃ z : Nat, y = z + 1 := ⟨y - 1, by omega⟩
  have e : ((z + 1 : Nat) : Int) - 1 = (z : Int) := by omega
  unfold ly
  rw [e]
  generalize hy : ((z + 1 : Nat) : Int) = y at *
  obtain rfl : y = (z : Int) + 1 := by omega
  have hz : (z : Int) ≤ 100000 := by omega
  clear hy h1 h2 e
  go_enter Try.func23, Try.ntmps23
  go_wp2_with fail
  go_ret
  exact ⟨rfl, rfl⟩
/-- The days of each month of a year, its second one's aside. -/
def mA (f : Int) : Array Value := #[.int .i64 31, .int .i64 f, .int .i64 31, .int .i64 30, .int .i64 31, .int .i64 30, .int .i64 31, .int .i64 31, .int .i64 30, .int .i64 31, .int .i64 30, .int .i64 31]
theorem mA_at (y : Int) (i : Nat) (hi : i < 12) : (mA (md y 2))[i]? = some (.int .i64 (md y ((i : Int) + 1))) := by
  have : i = 0 ∨ i = 1 ∨ i = 2 ∨ i = 3 ∨ i = 4 ∨ i = 5 ∨ i = 6 ∨ i = 7 ∨ i = 8 ∨ i = 9 ∨ i = 10 ∨ i = 11 := by omega
  rcases this with rfl | rfl | rfl | rfl | rfl | rfl | rfl | rfl | rfl | rfl | rfl | rfl <;> rfl
theorem md_2 (y : Int) : (Lg y ∧ md y 2 = 29) ∨ (¬ Lg y ∧ md y 2 = 28) := by
  unfold md
  by_cases h : Lg y <;> simp [h]
theorem info12 : (Try.prog.info? 25).map (·.size) = some 12 := by kernel_rfl
set_option maxHeartbeats 4000000 in
theorem months_c (y : Nat) (w : World) : Calls Try.prog 24 #[.int .i64 (y : Int)] w fun e w' => e = .returned (.agg (mA (md (y : Int) 2))) ∧ Below w.heap.size w w' := by
  have hA : ∀ o p, Below w.heap.size w ((w.alloc o).alloc p) := fun o p => ((Below.refl _ w).alloc (Nat.le_refl _) _).alloc (by simp) _
  have hL : Lg (y : Int) ↔ ((y : Int) % 4 = 0 ∧ (y : Int) % 100 ≠ 0) ∨ (y : Int) % 400 = 0 := Iff.rfl
  rcases md_2 (y : Int) with ⟨h, e⟩ | ⟨h, e⟩
  all_goals
    rw [e]
    clear e
    rw [hL] at h
    clear hL
    have H := hide h
    clear h
    go_enter Try.func24, Try.ntmps24
    go_wp2_with fail
    all_goals first
      | exact bodyPost_ret (results_cell_row rfl _ _ w.heap.size 25 _ (0, 0) _ (by rfl) (heap_new1 w _ _) Try.underlying25 rfl info12) rfl ⟨rfl, hA _ _⟩
      | (exfalso; have h := H.out; clear H; simp at *; omega)
end Go.Proofs.Ythhajodedmaefab.T
