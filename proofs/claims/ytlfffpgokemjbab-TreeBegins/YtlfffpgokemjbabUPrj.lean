/- The reference's Project: contract. -/
import Derived.Test.YtlfffpgokemjbabURef
import Derived.Test.YtlfffpgokemjbabTRef
namespace Go.Proofs.Ytlfffpgokemjbab.U
set_option maxRecDepth 100000
open Go Go.RowKit
set_option linter.unusedVariables false
/-- What a format keeps of an entry. -/
def keep1 (f : Int) (m : En) : En := if f = 1 then { m with time := T.flo m.time 100 } else m
def prj (f : Int) (es : List En) : List En := es.map (keep1 f)
def PrOk (f : Int) (es : List En) (w : World) (e : Ending) (w' : World) : Prop := ∃ v, e = .returned v ∧ OwnsEn w' w.heap.size v (prj f es) ∧ Below w.heap.size w w'
theorem prj_succ {f : Int} {es : List En} {i : Nat} {m : En} (hm : es[i]? = some m) : prj f (es.take (i + 1)) = prj f (es.take i) ++ [keep1 f m] := by
  have : es.take (i + 1) = es.take i ++ [m] := by rw [List.take_add_one, hm]; rfl
  rw [this]
  simp [prj]
theorem prj_len (f : Int) (es : List En) (i : Nat) : (prj f (es.take i)).length ≤ i := by simp [prj]; omega
theorem row2 {w : World} {t t2 : TypeId} (cs : Array Value) (m : En) : ∀ j u, m.cells.toList[j]? = some u → ((w.alloc (.cells cs t)).alloc (.cells m.cells t2)).cell? ((⟨w.heap.size + 1, 0, none⟩ : Addr).add j) = some u := fun j u h => by
  have e : ((⟨w.heap.size + 1, 0, none⟩ : Addr).add j) = ⟨w.heap.size + 1, j, none⟩ := by unfold Addr.add; split <;> simp_all
  rw [e]
  have := cells_new (w.alloc (.cells cs t)) m.cells t2 j u (by rw [← Array.getElem?_toList]; exact h)
  simpa using this
end Go.Proofs.Ytlfffpgokemjbab.U
