/- The law on sums of any bytes: walked. -/
import Derived.Test.YtlbigbljioffjaaSOpen
import Derived.Test.YtlbigbljioffjaaSEq
namespace Go.Proofs.Ytlbigbljioffjaa.S
set_option maxRecDepth 100000
open Go Go.RowKit

set_option maxHeartbeats 4000000 in
theorem sums_walk (a : Option Addr) (cap : Nat) (ys : List Nat) (w : World) (h : BIn w a cap ys) (hl : ys.length ≤ 140737488351232) :
    Calls Try.prog 3 #[.slice a ys.length cap] w (Yes w) := by
  have HP := fun W (k : Below w.heap.size w W) => hide (sum_c a cap ys W h.by_ (h.text.below k) h.cap_ h.most (by omega))
  have HQ := fun W (k : Below w.heap.size w W) => hide (rsum_c a cap ys W h.by_ (h.text.below k) h.nil hl)
  clear h
  obtain ⟨oc, hoc⟩ : ∃ oc, oc = oA (sum ys) 20 := ⟨_, rfl⟩
  have heq := fun W => eq20 (sum ys) W
  rw [← hoc] at HP HQ heq
  clear hoc
  go_enter Try.func3, Try.ntmps3
  go_wp2_with (first
    | (go_at_call 7; refine (alive_c _).mono ?_; rintro e w1 ⟨rfl, b1⟩; have B1 := hide b1; clear b1)
    | (go_at_call 8; refine (HP _ B1.out).out.mono ?_; rintro e w2 ⟨rfl, b2⟩; have B2 := hide (B1.out.trans (b2.mono B1.out.size)); clear b2)
    | (go_at_call 9; refine (HQ _ B2.out).out.mono ?_; rintro e w3 ⟨rfl, b3⟩; have B3 := hide (B2.out.trans (b3.mono B2.out.size)); clear b3))
  go_ret
  exact ⟨rfl, B3.out⟩
end Go.Proofs.Ytlbigbljioffjaa.S
