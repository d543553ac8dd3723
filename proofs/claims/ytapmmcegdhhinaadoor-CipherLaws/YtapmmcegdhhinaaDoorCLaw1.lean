/- CipherLaws, walked. -/
import Derived.Test.YtapmmcegdhhinaaDoorCLaid
namespace Go.Proofs.YtapmmcegdhhinaaDoor.K
set_option maxRecDepth 100000
open Go Go.RowKit
set_option linter.unusedVariables false

set_option maxHeartbeats 4000000 in
theorem cipherLaws_walk (a b c : Nat) (w : World) (ha : a < 256) (hb : b < 256) (hc : c < 256) (hT : Tab w) : Calls Tryd.prog 6 #[.int .u8 (a : Int), .int .u8 (b : Int), .int .u8 (c : Int)] w (Yes w) := by
  have HAL := hide (alive_c w hT)
  have H1 := fun W => hide (times_p a b W ha hb)
  have H2 := fun W => hide (times_p b c W hb hc)
  have H3 := fun W => hide (times_p b a W hb ha)
  have H4 := fun W => hide (times_p (tm a b) c W (tm_lt _ _) hc)
  have H5 := fun W => hide (times_p a (tm b c) W ha (tm_lt _ _))
  have H6 := fun W => hide (times_p a (b ^^^ c) W ha (xor_lt8 hb hc))
  have H7 := fun W => hide (times_p a c W ha hc)
  have H8 := fun W => hide (times_p 1 a W (by omega) ha)
  have hx1 := xor8 b c hb hc
  have hx2 := xor8 (tm a b) (tm a c) (tm_lt _ _) (tm_lt _ _)
  rw [← tm_r] at hx2
  rw [tm_comm hb ha] at H3
  rw [← tm_assoc ha hb hc] at H5
  rw [tm_one ha] at H8
  generalize tm (tm a b) c = Z at H4 H5
  generalize tm a b = X at H1 H3 H4 hx2
  generalize tm b c = Y at H2 H5
  generalize tm a (b ^^^ c) = V at H6 hx2
  generalize tm a c = U at H7 hx2
  generalize b ^^^ c = B at H6 hx1
  clear ha hb hc hT
  go_enter Tryd.func6, Tryd.ntmps6
  go_wp2_with (first
    | (go_at_call 10; refine (H1 _).out.mono ?_; rintro e w1 ⟨rfl, hw⟩; rw [hw]; clear hw w1 H1)
    | (go_at_call 10; refine (H2 _).out.mono ?_; rintro e w1 ⟨rfl, hw⟩; rw [hw]; clear hw w1 H2)
    | (go_at_call 9; refine HAL.out.mono ?_; rintro e w9 ⟨rfl, b9⟩; have B9 := hide b9; clear b9)
    | (go_at_call 10; refine (H3 _).out.mono ?_; rintro e w1 ⟨rfl, hw⟩; rw [hw]; clear hw w1 H3)
    | (go_at_call 10; refine (H4 _).out.mono ?_; rintro e w1 ⟨rfl, hw⟩; rw [hw]; clear hw w1 H4)
    | (go_at_call 10; refine (H5 _).out.mono ?_; rintro e w1 ⟨rfl, hw⟩; rw [hw]; clear hw w1 H5)
    | (go_at_call 10; refine (H6 _).out.mono ?_; rintro e w1 ⟨rfl, hw⟩; rw [hw]; clear hw w1 H6)
    | (go_at_call 10; refine (H7 _).out.mono ?_; rintro e w1 ⟨rfl, hw⟩; rw [hw]; clear hw w1 H7)
    | (go_at_call 10; refine (H8 _).out.mono ?_; rintro e w1 ⟨rfl, hw⟩; rw [hw]; clear hw w1 H8))
  go_ret
  exact ⟨rfl, B9.out⟩
end Go.Proofs.YtapmmcegdhhinaaDoor.K
