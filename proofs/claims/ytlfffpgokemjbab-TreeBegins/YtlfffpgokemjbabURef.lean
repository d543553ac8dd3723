/- The reference's Size and Same: contracts. -/
import Derived.Test.YtlfffpgokemjbabUWq
namespace Go.Proofs.Ytlfffpgokemjbab.U
set_option maxRecDepth 100000
open Go Go.RowKit
set_option linter.unusedVariables false
/-- All data together, as 64 bits hold it. -/
def szw (es : List En) : Int := es.foldl (fun n m => wrap64 (n + (m.data.size : Int))) 0
theorem szw_succ {es : List En} {i : Nat} {m : En} (hm : es[i]? = some m) : szw (es.take (i + 1)) = wrap64 (szw (es.take i) + (m.data.size : Int)) := by
  have : es.take (i + 1) = es.take i ++ [m] := by rw [List.take_add_one, hm]; rfl
  rw [this]
  unfold szw
  rw [List.foldl_append]
  rfl
theorem bytes_ext {a b : ByteArray} (h : a.toList = b.toList) : a = b := by
  have h2 : a.data.toList = b.data.toList := by rw [ByteArray.toList_eq, ByteArray.toList_eq] at h; exact h
  cases a; cases b
  simp only [ByteArray.mk.injEq]
  exact Array.toList_inj.1 h2
/-- Two entries are not the same. -/
def neE (m p : En) : Bool := !(decide (m.kind = p.kind) && (decide (m.path.toList = p.path.toList) && (decide (m.target.toList = p.target.toList) && (decide (m.mode = p.mode) && (decide (m.time = p.time) && decide (m.data.toList = p.data.toList))))))
theorem neE_iff {m p : En} : neE m p = false ↔ m = p := by
  unfold neE
  rw [Bool.not_eq_false']
  simp only [Bool.and_eq_true, decide_eq_true_eq]
  constructor
  · rintro ⟨h1, h2, h3, h4, h5, h6⟩
    cases m; cases p
    simp only at h1 h2 h3 h4 h5 h6
    obtain rfl := bytes_ext h2
    obtain rfl := bytes_ext h3
    obtain rfl := bytes_ext h6
    subst h1 h4 h5
    rfl
  · rintro rfl
    exact ⟨rfl, rfl, rfl, rfl, rfl, rfl⟩
theorem ifE {β : Type} (m p : En) (f : Bool → β) : (if m.kind = p.kind then if m.path.toList = p.path.toList then if m.target.toList = p.target.toList then if m.mode = p.mode then if m.time = p.time then if m.data.toList = p.data.toList then f false else f true else f true else f true else f true else f true else f true) = f (neE m p) := by
  unfold neE
  by_cases h1 : m.kind = p.kind
  · by_cases h2 : m.path.toList = p.path.toList
    · by_cases h3 : m.target.toList = p.target.toList
      · by_cases h4 : m.mode = p.mode
        · by_cases h5 : m.time = p.time
          · by_cases h6 : m.data.toList = p.data.toList <;> simp [h1, h2, h3, h4, h5, h6]
          · simp [h1, h2, h3, h4, h5]
        · simp [h1, h2, h3, h4]
      · simp [h1, h2, h3]
    · simp [h1, h2]
  · simp [h1]
def SmOk (es fs : List En) (w : World) (e : Ending) (w' : World) : Prop := ∃ b : Bool, e = .returned (.bool b) ∧ (b = true ↔ es = fs) ∧ Below w.heap.size w w'
theorem upto_eq {es fs : List En} (hl : es.length = fs.length) (h : ∀ j, j < es.length → es[j]? = fs[j]?) : es = fs := by
  apply List.ext_getElem? 
  intro j
  rcases Nat.lt_or_ge j es.length with q | q
  · exact h j q
  · rw [List.getElem?_eq_none q, List.getElem?_eq_none (by omega)]
end Go.Proofs.Ytlfffpgokemjbab.U
