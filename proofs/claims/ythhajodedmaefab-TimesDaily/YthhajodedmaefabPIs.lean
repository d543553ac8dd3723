/- Regions that draw their order and whose callees lay blocks of their own; the program's within and isDate: contracts. -/
import Derived.Test.YthhajodedmaefabPFirst
namespace Go.Proofs.Ythhajodedmaefab.T
set_option maxRecDepth 100000
open Go Go.RowKit
set_option linter.unusedVariables false
/-- A world in which all is as it was in W, and more may lie behind. -/
structure BelowBy (W : World) where
  w : World
  h : Below W.heap.size W w
instance (W : World) : Inhabited (BelowBy W) := ⟨⟨W, Below.refl _ _⟩⟩
/-- The lexical walk of such a region, behind a structure: it is not unfolded by the way. -/
structure WQ (P : Program) (ops : Array Oper) (C : World → Prop) (Q : Act → Prop) (l : List Oper) (a : Act) : Prop where
  out : wpQuiet P ops C Q l a
theorem WQ.step {P : Program} {ops : Array Oper} {C : World → Prop} {Q : Act → Prop} {o : Oper} {rest : List Oper} {a : Act}
    (h : ∀ K : Act → Prop, (∀ a, WQ P ops C Q rest a → K a) → if Region.wanted o (yielded ops a.tmps) then o.quiet P a C K else K (a.put o.dst undef)) : WQ P ops C Q (o :: rest) a :=
  ⟨wpQuiet_step fun K hK => h K fun a' h' => hK a' h'.out⟩
theorem WQ.nil {P : Program} {ops : Array Oper} {C : World → Prop} {Q : Act → Prop} {a : Act} (h : Q a) : WQ P ops C Q [] a := ⟨wpQuiet_nil h⟩
theorem wp_region_below {P : Program} {id : Nat} {Q : Exit → Act → World → Prop} {a : Act} {w : World} {l : List Oper} (hm : P.follows .mixedOrders = true) (hB : Region.lexB .any l.toArray = true)
    (h : WQ P l.toArray (fun w' => ∃ p : BelowBy w, w' = p.w) (fun a' => ∀ w', (∃ p : BelowBy w, w' = p.w) → Q .normal a' w') l a) : (Code.region id l.toArray true).wp P Q a w :=
  wp_region_quiet (C := fun w' => ∃ p : BelowBy w, w' = p.w) hm hB ⟨⟨w.drew, below_drew (Below.refl _ _) 1⟩, rfl⟩ (by simpa using h.out)
theorem below_of {P : Program} {f : FuncId} {args : Array Value} {W : World} {p : BelowBy W} {v : Value}
    (h : Calls P f args p.w fun e w' => e = .returned v ∧ Below p.w.heap.size p.w w') : Calls P f args p.w fun e w'' => e = .returned v ∧ ∃ q : BelowBy W, w'' = q.w :=
  h.mono fun _ w' ⟨he, hw⟩ => ⟨he, ⟨w', p.h.trans (hw.mono p.h.size)⟩, rfl⟩
theorem below_of_same {P : Program} {f : FuncId} {args : Array Value} {W : World} {p : BelowBy W} {v : Value}
    (h : Calls P f args p.w fun e w' => e = .returned v ∧ w' = p.w) : Calls P f args p.w fun e w'' => e = .returned v ∧ ∃ q : BelowBy W, w'' = q.w :=
  h.mono fun _ _ ⟨he, hw⟩ => ⟨he, p, hw⟩
theorem by_cell {W : World} {a : Addr} {v : Value} (h : W.cell? a = some v) (p : BelowBy W) : p.w.cell? a = some v := (p.h.cell (lt_of_cell h)).trans h
theorem within_c (v a b : Int) (w : World) : Calls Try.prog 21 #[.int .i64 v, .int .i64 a, .int .i64 b] w fun e w' => e = .returned (.bool (decide (a ≤ v ∧ v ≤ b))) ∧ w' = w := by
  rcases (by omega : ¬ a ≤ v ∨ (a ≤ v ∧ ¬ v ≤ b) ∨ (a ≤ v ∧ v ≤ b)) with h | ⟨h, h'⟩ | ⟨h, h'⟩
  · rw [show decide (a ≤ v ∧ v ≤ b) = false from decide_eq_false (fun q => h q.1)]
    go_enter Try.func21, Try.ntmps21
    go_wp2_with fail
    go_ret
    exact ⟨rfl, rfl⟩
  · rw [show decide (a ≤ v ∧ v ≤ b) = false from decide_eq_false (fun q => h' q.2)]
    go_enter Try.func21, Try.ntmps21
    go_wp2_with fail
    go_ret
    exact ⟨rfl, rfl⟩
  · rw [show decide (a ≤ v ∧ v ≤ b) = true from decide_eq_true ⟨h, h'⟩]
    go_enter Try.func21, Try.ntmps21
    go_wp2_with fail
    go_ret
    exact ⟨rfl, rfl⟩
/-- The same at a region that draws: what it says is known by name. -/
theorem within_v {v a b : Int} {W : World} {p : BelowBy W} {c : Bool} (h : decide (a ≤ v ∧ v ≤ b) = c) : Calls Try.prog 21 #[.int .i64 v, .int .i64 a, .int .i64 b] p.w fun e w'' => e = .returned (.bool c) ∧ ∃ q : BelowBy W, w'' = q.w := by
  rw [← h]
  exact below_of_same (within_c v a b p.w)
theorem index12 (cs : Array Value) (k : IntKind) {i : Nat} (hi : i < 12) (v : Int) (h : cs[i]? = some (.int .i64 v)) (W : World) : (Instr.index 25 (.agg cs) (.int k (i : Int))).run Try.prog W = .ok (.int .i64 v) W := by
  have h1 := run_underlying Try.underlying25 W
  have h2 : (Go.sizeOf 3).run Try.prog W = .ok 1 W := by kernel_rfl
  simp [Instr.index, asIntOf, h1, h2, part, h]
  intro q
  omega
end Go.Proofs.Ythhajodedmaefab.T
