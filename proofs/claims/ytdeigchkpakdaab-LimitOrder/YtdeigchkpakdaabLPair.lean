/- Lengths of two lists of counts, and what both cost; a copy of one's own. -/
import Derived.Test.YtdeigchkpakdaabLPerm
import Derived.Test.YtdeigchkpakdaabLOpen
import Derived.Deep.DeepCutAuto
import Derived.Deep.RegionWith
namespace Go.Proofs.Ytdeigchkpakdaab
open Go Go.RowKit

def Yes (w : World) (e : Ending) (w' : World) : Prop := e = .returned (.bool true) ∧ Below w.heap.size w w'
theorem below_drewN {B : Nat} {w w' : World} (h : Below B w w') (q : Nat) : Below B w (w'.drewN q) := ⟨h.os, h.tape, h.output, h.size, h.block⟩
theorem own_new (w : World) : Owns (w.alloc (.cells #[] 3)) w.heap.size (.slice (some ⟨w.heap.size, 0, none⟩) 0 0) [] :=
  ⟨rfl, .inr ⟨w.heap.size, 0, #[], rfl, Nat.le_refl _, heap_new w _, Nat.le_refl _, by unfold maxLen; omega, rfl, rfl⟩⟩
theorem Owns.set {w : World} {base g cap : Nat} {L : List Int} (h : Owns w base (.slice (some ⟨g, 0, none⟩) L.length cap) L) {i : Nat} (hi : i < L.length) (x : Int) : Owns (w.setCell ⟨g, i, none⟩ (.int .i64 x)) base (.slice (some ⟨g, 0, none⟩) L.length cap) (L.set i x) := by
  have h0 : L ≠ [] := by intro e; subst e; simp at hi
  obtain ⟨g', sp, cap', hv, q1, q2, q3, q4, q5⟩ := h.ro h0
  simp only [Value.slice.injEq, Option.some.injEq, Addr.mk.injEq] at hv
  obtain ⟨⟨rfl, _⟩, _, rfl⟩ := hv
  have := Owns.of_ro (base := base) (cap := cap) (q5.set hi x) q1 (by simpa using q2) q3 (by simpa using q4)
  rw [List.length_set] at this
  exact this
theorem cost_nil (lo hi : Nat) (a : Option Addr) (cap : Nat) (A : List Int) (w : World) (hA : Ints lo hi w a A) (hla : A.length ≤ 17592186043904) :
    Calls Try.prog 7 #[.slice a A.length cap, .slice none 0 0] w fun e w' => e = .returned (.int .i64 0) ∧ ∃ q, w' = w.drewN q := by
  have := cost_c lo hi 0 0 a none cap 0 A [] w hA (.inl rfl) hla
  rw [show min A.length ([] : List Int).length = 0 by simp] at this
  exact this
/-- Cost of what Lengths told, in a later world. -/
theorem cost_of (lo hi gl : Nat) (a : Option Addr) (cap : Nat) (ls F : List Int) (L : Nat) (W : World) (hI : Ints lo hi W a ls) (hF : Ints 0 (gl + 1) W (some ⟨gl, 0, none⟩) F) (hG : LGoodR ls L F) (hA : Alw ls L) (hla : ls.length ≤ 17592186043904) :
    Calls Try.prog 7 #[.slice a ls.length cap, .slice (some ⟨gl, 0, none⟩) ls.length ls.length] W fun e w' => e = .returned (.int .i64 ((cst (zOf ls F (occ ls ls.length)) : Nat) : Int)) ∧ ∃ q, w' = W.drewN q := by
  have := cost_c lo hi 0 (gl + 1) a (some ⟨gl, 0, none⟩) cap ls.length ls F W hI hF hla
  rw [hG.cost hA, hG.len] at this
  exact this
end Go.Proofs.Ytdeigchkpakdaab
