/- Two blocks: == tells whether they are like each other. -/
import Derived.Test.YtapmmcegdhhinaaDoorCLaid
import Derived.DeepKeys
namespace Go.Proofs.YtapmmcegdhhinaaDoor.K
set_option maxRecDepth 100000
open Go Go.RowKit

def eqB (f g : Nat → Nat) : Bool := all 16 fun i => Nat.beq (f i) (g i)
theorem eqB_iff (f g : Nat → Nat) : eqB f g = true ↔ E16 f g := by
  constructor
  · intro h i hi
    exact Nat.eq_of_beq_eq_true (all_of h hi)
  · intro h
    refine List.all_eq_true.2 fun i hi => ?_
    rw [h i (List.mem_range.1 hi)]
    exact Nat.beq_refl _
theorem eqB_eq {f g p q : Nat → Nat} (h : E16 f g ↔ E16 p q) : eqB f g = eqB p q := by
  rw [Bool.eq_iff_iff, eqB_iff, eqB_iff]
  exact h
theorem mapM_some {α β : Type} (g : α → Option β) (h : α → β) (l : List α) (H : ∀ x ∈ l, g x = some (h x)) : l.mapM g = some (l.map h) := by
  induction l with
  | nil => rfl
  | cons x r ih => simp [List.mapM_cons, H x (by simp), ih (fun y hy => H y (by simp [hy]))]
theorem und16 : Tryd.prog.underlying 27 = some (.array 16 5) := by kernel_rfl
theorem undU8 : Tryd.prog.underlying 5 = some (.int .u8) := by kernel_rfl
def litsOf (f : Nat → Nat) : List Lit := ((List.range 16).map fun i => [Lit.int .u8 (f i : Int)]).flatten
theorem lits16 (f : Nat → Nat) (hf : By16 f) : Tryd.prog.keyLits 3 27 (cA f 16).toList = some (litsOf f) := by
  unfold Program.keyLits
  simp only [und16]
  rw [if_pos (by rw [cells16, Array.length_toList, cA_size]), cellsU8, mapM_some _ (fun i => [Lit.int .u8 (f i : Int)])]
  · rfl
  · intro i hi
    have hi' : i < 16 := by simpa using hi
    have e : ((cA f 16).toList.drop (i * 1)).take 1 = [.int .u8 (f i : Nat)] := by
      have h := cA_at f hi'
      rw [← Array.getElem?_toList] at h
      rw [Nat.mul_one, List.take_one, List.head?_drop, h]; rfl
    rw [e]
    unfold Program.keyLits
    simp only [undU8]
    have := hf i hi'
    have h0 : IntKind.u8.min = 0 := by decide
    have h1 : IntKind.u8.max = 255 := by decide
    rw [if_pos ⟨trivial, by simp only [Lit.wf, h0, h1, Bool.and_eq_true, decide_eq_true_eq]; omega⟩]
theorem lits_iff (f g : Nat → Nat) : litsOf f = litsOf g ↔ E16 f g := by
  have e : ∀ h : Nat → Nat, litsOf h = (List.range 16).map fun i => Lit.int .u8 (h i : Int) := fun h => by rfl
  constructor
  · intro h i hi
    rw [e, e] at h
    have := congrArg (·[i]?) h
    simp [hi] at this
    omega
  · intro h
    rw [e, e]
    apply List.map_congr_left
    intro i hi
    rw [h i (List.mem_range.1 hi)]
theorem eq16 (f g : Nat → Nat) (hf : By16 f) (hg : By16 g) (w : World) : (Op.equalIn 10000 27 (.agg (cA f 16)) (.agg (cA g 16))).run Tryd.prog w = .ok (eqB f g) w := by
  obtain ⟨r, hr, hi⟩ := run_equalIn_deep (P := Tryd.prog) 9997 3 27 (by kernel_rfl) w 3 3 (.agg (cA f 16)) (.agg (cA g 16)) _ _ (by kernel_rfl) (by kernel_rfl) (lits16 f hf) (lits16 g hg)
  rw [lits_iff, ← eqB_iff, ← Bool.eq_iff_iff] at hi
  rw [← hi]
  exact hr
end Go.Proofs.YtapmmcegdhhinaaDoor.K
