/- Several texts, laid together: PLens, PDyn, RHead0. -/
import Derived.Test.YtlakgbckopjelabGreatDoorG16LMem
import Derived.Test.YtlakgbckopjelabGreatDoorRLens
/- The stream's lengths: contract. -/
namespace Go.Proofs.YtlakgbckopjelabGreatDoor
set_option maxRecDepth 100000
open Go Go.RowKit

theorem iLoop_step {σ : Type} {T : Nat} {f : Nat → σ → Except Int (Nat × (Bool × σ))} {p q : Nat} {s t : σ} {c : Bool} (h : f p s = .ok (q, (c, t))) (h1 : p < q) (h2 : q ≤ T) : iLoop T f p s = if c = true then iLoop T f q t else .ok (q, t) := by
  cases c with
  | true => rw [iLoop_on h h1 h2]; rfl
  | false => rw [iLoop_end h]; rfl
variable {B bs br : Nat} {a : Option Addr} {len cap : Nat} {zs : List Int} {m : Nat} {w wr w' : World} {p : Nat} {o : Option Addr} {oc : Nat} {fc : Value} {out : List Int}
def LBad (br : Nat) (w : World) (e : Int) (x : Ending) (w' : World) : Prop := x = .returned (.tuple #[.slice none 0 0, .int .i64 e]) ∧ Kept (fun b => b = br) w w' ∧ 60 ≤ e ∧ e ≤ 65
end Go.Proofs.YtlakgbckopjelabGreatDoor

/- The stream's dynamicBlock: contract. -/
namespace Go.Proofs.YtlakgbckopjelabGreatDoor
set_option maxRecDepth 100000
open Go Go.RowKit

theorem ints_take {w : World} {base g ac : Nat} {all : List Int} (h : Owns w base (.slice (some ⟨g, 0, none⟩) all.length ac) all) (k : Nat) : Ints 0 w.heap.size w (some ⟨g, 0, none⟩) (all.take k) := by
  by_cases h0 : (all.take k).length = 0
  · exact .inl h0
  · have hpos : 0 < all.length := by rw [List.length_take] at h0; omega
    obtain ⟨g', c9, hv9, _, hlt9⟩ := World.ownsRow.form h hpos
    simp at hv9
    obtain ⟨rfl, rfl⟩ := hv9
    refine .inr ⟨g, 0, Nat.zero_le _, hlt9, hlt9, rfl, fun i hi => ?_⟩
    have hi2 : i < all.length ∧ i < k := by simp at hi; omega
    rw [Nat.zero_add, World.ownsRow.cellAt h i (by omega)]
    simp [ln, List.getD, hi2]
theorem ints_drop {w : World} {base g ac : Nat} {all : List Int} (h : Owns w base (.slice (some ⟨g, 0, none⟩) all.length ac) all) (k : Nat) : Ints 0 w.heap.size w (some ⟨g, k, none⟩) (all.drop k) := by
  by_cases h0 : (all.drop k).length = 0
  · exact .inl h0
  · have hpos : 0 < all.length := by simp at h0; omega
    obtain ⟨g', c9, hv9, _, hlt9⟩ := World.ownsRow.form h hpos
    simp at hv9
    obtain ⟨rfl, rfl⟩ := hv9
    refine .inr ⟨g, k, Nat.zero_le _, hlt9, hlt9, rfl, fun i hi => ?_⟩
    have hi2 : k + i < all.length := by simp at hi; omega
    rw [World.ownsRow.cellAt h (k + i) (by omega)]
    simp [ln, List.getD, hi2]
theorem own_cap {w : World} {base g ac : Nat} {all : List Int} (h : Owns w base (.slice (some ⟨g, 0, none⟩) all.length ac) all) : all.length ≤ ac := by
  rcases h.2 with ⟨h', _⟩ | ⟨g', cap', cur, h', _, hg, hc, _⟩
  · simp at h'
  · simp at h'; omega

section
variable {B bs br : Nat} {a : Option Addr} {len cap : Nat} {zs : List Int} {m : Nat} {w w' : World} {p : Nat} {o : Option Addr} {oc : Nat} {fc : Value} {out : List Int}
end
end Go.Proofs.YtlakgbckopjelabGreatDoor

/- The reference's lengths of a state with an error; what header answers. -/
namespace Go.Proofs.YtlakgbckopjelabGreatDoor
set_option maxRecDepth 100000
open Go Go.RowKit

set_option maxHeartbeats 1000000 in
theorem rlens_err (a o fa : Option Addr) (al ac ol oc fl fc : Nat) (p m e many : Int) (w : World) (he : ¬ e = 0) :
    Calls Tryz.prog 81 #[.agg (sA a al ac p o ol oc m e), .slice fa fl fc, .int .i64 many] w fun x w' => x = .returned (.tuple #[.agg (sA a al ac p o ol oc m e), .slice none 0 0]) ∧ Below w.heap.size w w' := by
  have HB : ∀ u v : Array Value, Hid (Below w.heap.size w ((w.alloc (.cells u 63)).alloc (.cells v 63))) := fun u v => ((Below.refl _ w).alloc (Nat.le_refl _) _).alloc (by simp) _
  unfold sA
  go_enter Tryz.func81, Tryz.ntmps81
  go_wp2
  go_returns
  exact ⟨rfl, (HB _ _).out⟩
/-- What header answers. -/
def RH (w : World) (a o : Option Addr) (al ac ol oc : Nat) (m : Int) (r : Except Int (Nat × (List Int × List Int))) (x : Ending) (w' : World) : Prop :=
  Below w.heap.size w w' ∧ ((∃ (q : Nat) (S D : List Int) (a1 a2 : Option Addr) (c1 c2 : Nat), r = .ok (q, (S, D)) ∧ x = .returned (.tuple #[.agg (sA a al ac (q : Int) o ol oc m 0), .slice a1 S.length c1, .slice a2 D.length c2]) ∧ Ints w.heap.size w'.heap.size w' a1 S ∧ Ints w.heap.size w'.heap.size w' a2 D) ∨ (∃ e q : Int, 60 ≤ e ∧ e ≤ 65 ∧ r = .error e ∧ x = .returned (.tuple #[.agg (sA a al ac q o ol oc m e), .slice none 0 0, .slice none 0 0])))
theorem two_put {w wz : World} {u v : Array Value} {gF y : Nat} {val : Value} {ob : Obj} (h : Two w wz u v) (hg : w.heap.size + 2 ≤ gF) : Two w ((wz.alloc ob).setCell ⟨gF, y, none⟩ val) u v :=
  (h.stay ((Below.refl _ wz).alloc (Nat.le_refl _) ob)).kept (Kept.setCell (M := fun b => b = gF) (Kept.refl _ (wz.alloc ob)) (fun _ => rfl) _) (fun i hi e => by omega)
theorem row_put {wz : World} {F : List Int} {gF y : Nat} {x : Int} {ob : Obj} (h : wz.heap[gF]? = some (.cells (valA F) 3 (0, 0))) : ((wz.alloc ob).setCell ⟨gF, y, none⟩ (.int .i64 x)).heap[gF]? = some (.cells (valA (F.set y x)) 3 (0, 0)) := by
  rw [set_of (heap_old h) y, valA_set]
theorem ord_cell (wz : World) (i : Nat) (hi : i < 19) : (wz.alloc (.cells (valA (iOrd.map Int.ofNat)) 3)).cell? ⟨wz.heap.size, i, none⟩ = some (.int .i64 ((iOrd.getD i 0 : Nat) : Int)) := by
  rw [cells_of (heap_new wz _) i, valA_at _ (by rw [List.length_map]; exact hi)]
  have hi' : i < iOrd.length := hi
  simp [ln, List.getD, hi']
/-- A part of a row that one owns: its blocks from the owner's base on. -/
theorem ints_takeB {w : World} {base g ac : Nat} {all : List Int} (h : Owns w base (.slice (some ⟨g, 0, none⟩) all.length ac) all) (k : Nat) : Ints base w.heap.size w (some ⟨g, 0, none⟩) (all.take k) := by
  rcases ints_take h k with h0 | ⟨b, off, _, h2, h3, ha, hc⟩
  · exact .inl h0
  · by_cases hp : 0 < all.length
    · obtain ⟨g', c9, hv9, hb, _⟩ := World.ownsRow.form h hp
      simp at hv9 ha
      exact .inr ⟨b, off, by omega, h2, h3, by simp [ha], hc⟩
    · exact .inl (by rw [List.length_take]; omega)
theorem ints_dropB {w : World} {base g ac : Nat} {all : List Int} (h : Owns w base (.slice (some ⟨g, 0, none⟩) all.length ac) all) (k : Nat) : Ints base w.heap.size w (some ⟨g, k, none⟩) (all.drop k) := by
  rcases ints_drop h k with h0 | ⟨b, off, _, h2, h3, ha, hc⟩
  · exact .inl h0
  · by_cases hp : 0 < all.length
    · obtain ⟨g', c9, hv9, hb, _⟩ := World.ownsRow.form h hp
      simp at hv9 ha
      exact .inr ⟨b, off, by omega, h2, h3, by simp [ha], hc⟩
    · exact .inl (by rw [List.length_drop]; omega)
end Go.Proofs.YtlakgbckopjelabGreatDoor
