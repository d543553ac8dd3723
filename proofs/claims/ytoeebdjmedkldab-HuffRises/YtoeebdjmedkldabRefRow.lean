/- The reference's lists of bits: Row, Lay, Fill: contracts. -/
import Derived.Test.YtoeebdjmedkldabOpen
import Derived.Laws.AppendOwnNone
namespace Go.Proofs.Ytoeebdjmedkldab
open Go.RowKit

/-- A slice value that owns the numbers L. -/
def Owns (w : World) (base : Nat) (v : Value) (L : List Int) : Prop := w.ownsRow base 3 1 v L.length (L.map (Value.int .i64))

theorem Owns.nil (w : World) (base : Nat) : Owns w base (.slice none 0 0) [] := World.ownsRow_nil _ _ _ _
theorem Owns.kept {M : Nat → Prop} {w w' : World} {base : Nat} {v : Value} {L : List Int} (h : Owns w base v L) (k : Kept M w w') (hn : ∀ g, v.ownBlock = some g → ¬ M g) : Owns w' base v L := ownsRow_kept h k hn
theorem Owns.low {w : World} {base base' : Nat} {v : Value} {L : List Int} (h : Owns w base v L) (hb : base' ≤ base) : Owns w base' v L := by
  obtain ⟨h1, h2⟩ := h
  refine ⟨h1, ?_⟩
  rcases h2 with h2 | ⟨g, cap, cur, hv, hg, r⟩
  · exact .inl h2
  · exact .inr ⟨g, cap, cur, hv, by omega, r⟩
theorem Owns.form {w : World} {base : Nat} {v : Value} {L : List Int} (h : Owns w base v L) : ∃ a cap, v = .slice a L.length cap ∧ (0 < L.length → ∃ g, v.ownBlock = some g ∧ base ≤ g ∧ g < w.heap.size ∧ a = some ⟨g, 0, none⟩ ∧ ∀ j, j < L.length → w.cell? ⟨g, j, none⟩ = some (.int .i64 (L.getD j 0))) := by
  rcases h.2 with ⟨rfl, h2⟩ | ⟨g, cap, cur, rfl, hg, hh, hr⟩
  · exact ⟨none, 0, by rw [h2], fun h => by omega⟩
  · refine ⟨_, _, rfl, fun _ => ⟨g, rfl, hg, lt_of_block hh, rfl, fun j hj => ?_⟩⟩
    have := World.ownsRow.cellAt h j (by omega)
    rw [this]
    simp [List.getD, hj]
theorem Owns.push {w : World} {base : Nat} {v : Value} {L : List Int} {x : Int} (h : w.ownsRow base 3 1 v (L.length + 1) (L.map (Value.int .i64) ++ [.int .i64 x])) : Owns w base v (L ++ [x]) := by
  unfold Owns
  simpa using h

theorem one_int (w : World) (x : Value) : ∀ j u, [x][j]? = some u → (w.alloc (.cells #[x] 3)).cell? ((⟨w.heap.size, 0, none⟩ : Addr).add j) = some u := World.news_of_block (heap_new w (.cells #[x] 3))

end Go.Proofs.Ytoeebdjmedkldab
