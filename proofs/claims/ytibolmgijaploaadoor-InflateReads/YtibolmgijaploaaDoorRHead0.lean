/- The reference's lengths of a state with an error; what header answers. -/
import Derived.Test.YtibolmgijaploaaDoorRLens
import Derived.Test.YtibolmgijaploaaDoorG21PBlock
namespace Go.Proofs.YtibolmgijaploaaDoor
set_option maxRecDepth 100000
open Go Go.RowKit

set_option maxHeartbeats 1000000 in
theorem rlens_err (a o fa : Option Addr) (al ac ol oc fl fc : Nat) (p m e many : Int) (w : World) (he : ¬ e = 0) :
    Calls Tryd.prog 49 #[.agg (sA a al ac p o ol oc m e), .slice fa fl fc, .int .i64 many] w fun x w' => x = .returned (.tuple #[.agg (sA a al ac p o ol oc m e), .slice none 0 0]) ∧ Below w.heap.size w w' := by
  have HB : ∀ u v : Array Value, Hid (Below w.heap.size w ((w.alloc (.cells u 46)).alloc (.cells v 46))) := fun u v => ((Below.refl _ w).alloc (Nat.le_refl _) _).alloc (by simp) _
  unfold sA
  go_enter Tryd.func49, Tryd.ntmps49
  go_wp2
  go_returns
  exact ⟨rfl, (HB _ _).out⟩
/-- What header answers. -/
def RH (w : World) (a o : Option Addr) (al ac ol oc : Nat) (m : Int) (r : Except Int (Nat × (List Int × List Int))) (x : Ending) (w' : World) : Prop :=
  Below w.heap.size w w' ∧ ((∃ (q : Nat) (S D : List Int) (a1 a2 : Option Addr) (c1 c2 : Nat), r = .ok (q, (S, D)) ∧ x = .returned (.tuple #[.agg (sA a al ac (q : Int) o ol oc m 0), .slice a1 S.length c1, .slice a2 D.length c2]) ∧ Ints w.heap.size w'.heap.size w' a1 S ∧ Ints w.heap.size w'.heap.size w' a2 D) ∨ (∃ e q : Int, 60 ≤ e ∧ e ≤ 65 ∧ r = .error e ∧ x = .returned (.tuple #[.agg (sA a al ac q o ol oc m e), .slice none 0 0, .slice none 0 0])))
theorem two_put {w wz : World} {u v : Array Value} {gF y : Nat} {val : Value} {ob : Obj} (h : Two w wz u v) (hg : w.heap.size + 2 ≤ gF) : Two w ((wz.alloc ob).setCell ⟨gF, y, none⟩ val) u v :=
  (h.stay ((Below.refl _ wz).alloc (Nat.le_refl _) ob)).kept (Kept.setCell (M := fun b => b = gF) (Kept.refl _ (wz.alloc ob)) (fun _ => rfl) _) (fun i hi e => by omega)
theorem row_put {wz : World} {F : List Int} {gF y : Nat} {x : Int} {ob : Obj} (h : wz.heap[gF]? = some (.cells (valA F) 3 (0, 0))) : ((wz.alloc ob).setCell ⟨gF, y, none⟩ (.int .i64 x)).heap[gF]? = some (.cells (valA (F.set y x)) 3 (0, 0)) := by
  rw [set_of (heap_old h) y, valA_set]
theorem ord_cell (wz : World) (i : Nat) (hi : i < 19) : (wz.alloc (.cells (valA (iOrd.map Int.ofNat)) 3)).cell? ⟨wz.heap.size, i, none⟩ = some (.int .i64 ((iOrd.getD i 0 : Nat) : Int)) := by
  rw [cells_of (heap_new wz _) i, valA_at _ (by rw [List.length_map]; exact hi)]
  have hi' : i < iOrd.length := hi
  simp [ln, List.getD, hi']
/-- A part of a row that one owns: its blocks from the owner's base on. -/
theorem ints_takeB {w : World} {base g ac : Nat} {all : List Int} (h : Owns w base (.slice (some ⟨g, 0, none⟩) all.length ac) all) (k : Nat) : Ints base w.heap.size w (some ⟨g, 0, none⟩) (all.take k) := by
  rcases ints_take h k with h0 | ⟨b, off, _, h2, h3, ha, hc⟩
  · exact .inl h0
  · by_cases hp : 0 < all.length
    · obtain ⟨g', c9, hv9, hb, _⟩ := World.ownsRow.form h hp
      simp at hv9 ha
      exact .inr ⟨b, off, by omega, h2, h3, by simp [ha], hc⟩
    · exact .inl (by rw [List.length_take]; omega)
theorem ints_dropB {w : World} {base g ac : Nat} {all : List Int} (h : Owns w base (.slice (some ⟨g, 0, none⟩) all.length ac) all) (k : Nat) : Ints base w.heap.size w (some ⟨g, k, none⟩) (all.drop k) := by
  rcases ints_drop h k with h0 | ⟨b, off, _, h2, h3, ha, hc⟩
  · exact .inl h0
  · by_cases hp : 0 < all.length
    · obtain ⟨g', c9, hv9, hb, _⟩ := World.ownsRow.form h hp
      simp at hv9 ha
      exact .inr ⟨b, off, by omega, h2, h3, by simp [ha], hc⟩
    · exact .inl (by rw [List.length_drop]; omega)
end Go.Proofs.YtibolmgijaploaaDoor
