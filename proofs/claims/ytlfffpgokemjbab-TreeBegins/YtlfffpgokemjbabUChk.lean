/- The reference's Check: contract. -/
import Derived.Test.YtlfffpgokemjbabURgt
import Derived.Test.YtlfffpgokemjbabUSrt
namespace Go.Proofs.Ytlfffpgokemjbab.U
set_option maxRecDepth 100000
open Go Go.RowKit
set_option linter.unusedVariables false
/-- The Path is the one of the entry ahead; is below it; lies below an entry that is no Folder. -/
def Twice (es : List En) (i : Nat) (m : En) : Prop := ∃ p, 0 < i ∧ es[i - 1]? = some p ∧ p.path.toList = m.path.toList
def Falls (es : List En) (i : Nat) (m : En) : Prop := ∃ p, 0 < i ∧ es[i - 1]? = some p ∧ gtB p.path m.path = true
def Under (es : List En) (i : Nat) (m : En) : Prop := ∃ k p, k < i ∧ es[k]? = some p ∧ p.path.data.toList ∈ E.prs m.path.data.toList m.path.data.toList.length ∧ p.kind ≠ 2
def Clean1 (es : List En) (i : Nat) (m : En) : Prop := Right m ∧ m.data.size ≤ 1048576 ∧ ¬ Twice es i m ∧ ¬ Falls es i m ∧ ¬ Under es i m
/-- What is told of the first entry with which something is amiss. -/
def Tells (es : List En) (i : Nat) (m : En) (c : Int) : Prop := (¬ Right m ∧ c = 160) ∨ (Right m ∧ 1048576 < m.data.size ∧ c = 162) ∨ (Right m ∧ m.data.size ≤ 1048576 ∧ Twice es i m ∧ c = 161) ∨ (Right m ∧ m.data.size ≤ 1048576 ∧ ¬ Twice es i m ∧ (Falls es i m ∨ Under es i m) ∧ c = 160)
def Chk (es : List En) (c : Int) : Prop := (1000 < es.length ∧ c = 162) ∨ (es.length ≤ 1000 ∧ ((c = 0 ∧ ∀ (i : Nat) m, es[i]? = some m → Clean1 es i m) ∨ ∃ (i : Nat) (m : En), es[i]? = some m ∧ (∀ (j : Nat) p, j < i → es[j]? = some p → Clean1 es j p) ∧ Tells es i m c))
def CkOk (es : List En) (w : World) (e : Ending) (w' : World) : Prop := ∃ c : Int, e = .returned (.int .i64 c) ∧ Chk es c ∧ Below w.heap.size w w'
theorem Tells.not {es : List En} {i : Nat} {m : En} {c : Int} (h : Tells es i m c) : ¬ Clean1 es i m ∧ c ≠ 0 := by
  rcases h with h | h | h | h
  · exact ⟨fun q => h.1 q.1, by omega⟩
  · exact ⟨fun q => by have := q.2.1; omega, by omega⟩
  · exact ⟨fun q => q.2.2.1 h.2.2.1, by omega⟩
  · exact ⟨fun q => by rcases h.2.2.2.1 with g | g; exact q.2.2.2.1 g; exact q.2.2.2.2 g, by omega⟩
theorem Tells.one {es : List En} {i : Nat} {m : En} {c d : Int} (h : Tells es i m c) (k : Tells es i m d) : c = d := by
  rcases h with h | h | h | h <;> rcases k with k | k | k | k <;> first
    | omega
    | (exfalso; first | exact h.1 k.1 | exact k.1 h.1 | exact h.2.2.1 k.2.2.1 | exact k.2.2.1 h.2.2.1 | (have := h.2.1; have := k.2.1; omega))
/-- Check has one answer. -/
theorem Chk.one {es : List En} {c d : Int} (h : Chk es c) (k : Chk es d) : c = d := by
  rcases h with ⟨h0, h⟩ | ⟨h0, h⟩ <;> rcases k with ⟨k0, k⟩ | ⟨k0, k⟩
  · omega
  · omega
  · omega
  · rcases h with ⟨h, ha⟩ | ⟨i, m, hm, ha, ht⟩ <;> rcases k with ⟨k, ka⟩ | ⟨j, p, kp, ka, kt⟩
    · omega
    · exact absurd (ha j p kp) kt.not.1
    · exact absurd (ka i m hm) ht.not.1
    · rcases Nat.lt_trichotomy i j with q | q | q
      · exact absurd (ka i m q hm) ht.not.1
      · subst q
        obtain rfl : m = p := Option.some.inj (hm.symm.trans kp)
        exact ht.one kt
      · exact absurd (ha j p q kp) kt.not.1
theorem six_at {W : World} {b off : Nat} {es : List En} (h : EntsIn W (some ⟨b, off, none⟩) es) {i : Nat} {m : En} (hm : es[i]? = some m) {V : World} (hV : Below W.heap.size W V) :
    V.cell? ⟨b, off + i * 6, none⟩ = some (.int .i64 m.kind) ∧ V.cell? ⟨b, off + i * 6 + 1, none⟩ = some (.string m.path) ∧ V.cell? ⟨b, off + i * 6 + 2, none⟩ = some (.string m.target) ∧ V.cell? ⟨b, off + i * 6 + 3, none⟩ = some (.int .i64 m.mode) ∧ V.cell? ⟨b, off + i * 6 + 4, none⟩ = some (.int .i64 m.time) ∧ V.cell? ⟨b, off + i * 6 + 5, none⟩ = some (.string m.data) := by
  obtain ⟨b', o', hb, e, h⟩ := (h.stay hV).six hm
  simp only [Option.some.injEq, Addr.mk.injEq] at e
  obtain ⟨rfl, rfl, _⟩ := e
  exact h
end Go.Proofs.Ytlfffpgokemjbab.U
