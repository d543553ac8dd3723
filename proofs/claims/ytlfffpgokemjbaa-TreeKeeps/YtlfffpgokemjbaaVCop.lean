/- The program's copied, Project: contracts. -/
import Derived.Test.YtlfffpgokemjbaaVRow
import Derived.Test.YtlfffpgokemjbaaUPrj
import Derived.Test.YtlfffpgokemjbaaPFloor
namespace Go.Proofs.Ytlfffpgokemjbaa.U
set_option maxRecDepth 100000
open Go Go.RowKit
set_option linter.unusedVariables false
def CpOk (es : List En) (w : World) (e : Ending) (w' : World) : Prop := ∃ g, w.heap.size ≤ g ∧ e = .returned (.slice (some ⟨g, 0, none⟩) es.length es.length) ∧ Er g es w' ∧ Below w.heap.size w w'
set_option maxHeartbeats 4000000 in
theorem copied_c (a : Option Addr) (cap : Nat) (es : List En) (w : World) (h : EntsIn w a es) (hl : es.length ≤ 1000000000) : Calls Try.prog 28 #[.slice a es.length cap] w (CpOk es w) := by
  have HP : Hid (∀ w', Er w.heap.size es w' → Below w.heap.size w w' → CpOk es w (.returned (.slice (some ⟨w.heap.size, 0, none⟩) es.length es.length)) w') := hide fun w' q r => ⟨_, Nat.le_refl _, rfl, q, r⟩
  obtain ⟨n, hnn⟩ : ∃ n, n = es.length := ⟨_, rfl⟩
  have HN := hide hnn
  rw [← hnn] at hl HP ⊢
  have HE := hide h
  obtain ⟨cur, hcur, hmk⟩ := made_ents n hl w
  have HC := hide hcur
  have HS : Hid (EntsIn (w.alloc (.cells cur 30)) a es) := hide (h.stay ((Below.refl _ w).alloc (Nat.le_refl _) _))
  clear h hnn hl hcur
  go_enter Try.func28, Try.ntmps28
  go_wp2_with (refine wpList_copyE _ rfl (.tmp 7) (.tmp 8) rfl w.heap.size n _ _ _ (by rfl) (by rfl) cur (heap_new w _) HC.out es HN.out.symm HS.out ?_; intro w2 h2 k2; have E2 := hide h2; have K2 := hide k2; clear h2 k2)
  go_ret
  exact HP.out _ E2.out (((Below.refl _ w).alloc (Nat.le_refl _) _).trans (K2.out.below (by simp) (fun i hi => by omega)))
/-- What Project tells: a row of its own. -/
def PjOk (f : Int) (es : List En) (w : World) (e : Ending) (w' : World) : Prop := CpOk (prj f es) w e w'
end Go.Proofs.Ytlfffpgokemjbaa.U
