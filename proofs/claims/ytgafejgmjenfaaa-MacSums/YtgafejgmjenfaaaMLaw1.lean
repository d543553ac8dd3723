/- The law on sums with a key: walked. -/
import Derived.Test.YtgafejgmjenfaaaMAlive
import Derived.Test.YtgafejgmjenfaaaPSum
import Derived.Test.YtgafejgmjenfaaaSEq
namespace Go.Proofs.Ytgafejgmjenfaaa.S
set_option maxRecDepth 100000
open Go Go.RowKit

set_option maxHeartbeats 4000000 in
theorem macSums_walk (a b : Option Addr) (ca cb : Nat) (key ys : List Nat) (w : World) (h0 : BIn w a ca key) (h1 : BIn w b cb ys) (hl0 : key.length ≤ 140737488351232) (hl1 : ys.length ≤ 140737488351232) :
    Calls Try.prog 3 #[.slice a key.length ca, .slice b ys.length cb] w (Yes w) := by
  have HP := fun W (k : Below w.heap.size w W) => hide (msum_c a b ca cb key ys W h0.by_ (h0.text.below k) h0.cap_ h0.most (by omega) h1.by_ (h1.text.below k) h1.cap_ h1.most (by omega))
  have HQ := fun W (k : Below w.heap.size w W) => hide (hsumr_c a b ca cb key ys W h0.by_ (h0.text.below k) h0.nil hl0 h1.by_ (h1.text.below k) h1.nil hl1)
  clear h0 h1
  obtain ⟨oc, hoc⟩ : ∃ oc, oc = oA (hmac key ys) 20 := ⟨_, rfl⟩
  have heq := fun W => eq20 (hmac key ys) W
  rw [← hoc] at HP HQ heq
  clear hoc
  go_enter Try.func3, Try.ntmps3
  go_wp2_with (first
    | (go_at_call 9; refine (alive_c _).mono ?_; rintro e w1 ⟨rfl, b1⟩; have B1 := hide b1; clear b1)
    | (go_at_call 10; refine (HP _ B1.out).out.mono ?_; rintro e w2 ⟨rfl, b2⟩; have B2 := hide (B1.out.trans (b2.mono B1.out.size)); clear b2)
    | (go_at_call 11; refine (HQ _ B2.out).out.mono ?_; rintro e w3 ⟨rfl, b3⟩; have B3 := hide (B2.out.trans (b3.mono B2.out.size)); clear b3))
  go_ret
  exact ⟨rfl, B3.out⟩
end Go.Proofs.Ytgafejgmjenfaaa.S
