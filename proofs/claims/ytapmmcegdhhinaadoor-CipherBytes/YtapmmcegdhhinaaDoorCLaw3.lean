/- CipherBytes, walked. -/
import Derived.Test.YtapmmcegdhhinaaDoorCLaid
namespace Go.Proofs.YtapmmcegdhhinaaDoor.K
set_option maxRecDepth 100000
open Go Go.RowKit
set_option linter.unusedVariables false

set_option maxHeartbeats 4000000 in
theorem cipherBytes_walk (a b : Nat) (w : World) (ha : a < 256) (hb : b < 256) (hT : Tab w) : Calls Tryd.prog 3 #[.int .u8 (a : Int), .int .u8 (b : Int)] w (Yes w) := by
  have HAL := hide (alive_c w hT)
  have H1 := hide (fun (W : World) (h : Below w.heap.size w W) => box_p a W ha (hT.stay h))
  have H2 := fun W => hide (times_p a b W ha hb)
  have H3 := fun W => hide (times_c a b W ha hb)
  have H4 := fun W => hide (box_c a W ha)
  generalize bx a = A at *
  generalize tm a b = X at *
  clear hT ha hb
  go_enter Tryd.func3, Tryd.ntmps3
  go_wp2_with (first
    | (go_at_call 9; refine HAL.out.mono ?_; rintro e w9 ⟨rfl, b9⟩; have B9 := hide b9; clear b9 HAL)
    | (go_at_call 10; refine (H2 _).out.mono ?_; rintro e w1 ⟨rfl, hw⟩; rw [hw]; clear hw w1 H2)
    | (go_at_call 11; refine (H3 _).out.mono ?_; rintro e w1 ⟨rfl, hw⟩; rw [hw]; clear hw w1 H3)
    | (go_at_call 12; refine (H1.out _ B9.out).mono ?_; rintro e w1 ⟨rfl, b1⟩; have B1 := hide (B9.out.trans (b1.mono B9.out.size)); clear b1 B9)
    | (go_at_call 13; refine (H4 _).out.mono ?_; rintro e w2 ⟨rfl, hw⟩; rw [hw]; clear hw w2 H4))
  go_ret
  exact ⟨rfl, B1.out⟩
end Go.Proofs.YtapmmcegdhhinaaDoor.K
