/- CipherBox, walked. -/
import Derived.Test.YtapmmcegdhhinaaDoorCLaid
namespace Go.Proofs.YtapmmcegdhhinaaDoor.K
set_option maxRecDepth 100000
open Go Go.RowKit
set_option linter.unusedVariables false

set_option maxHeartbeats 4000000 in
theorem cipherBox_walk (a b : Nat) (w : World) (ha : a < 256) (hb : b < 256) (hT : Tab w) : Calls Tryd.prog 7 #[.int .u8 (a : Int), .int .u8 (b : Int)] w (Yes w) := by
  have HAL := hide (alive_c w hT)
  have HT := hide hT
  have H1 := hide (fun (W : World) (h : Below w.heap.size w W) => box_p a W ha (hT.stay h))
  have H2 := hide (fun (W : World) (h : Below w.heap.size w W) => box_p b W hb (hT.stay h))
  have hne : ¬ ((bx a : Nat) : Int) = (a : Int) := fun e => (bx_is ha).2.2.1 (Int.ofNat.inj e)
  have hif : (((bx a : Nat) : Int) = ((bx b : Nat) : Int)) ↔ ((a : Int) = (b : Int)) := ⟨fun e => congrArg _ (bx_inj ha hb (Int.ofNat.inj e)), fun e => by rw [Int.ofNat.inj e]⟩
  have hdc : decide (((bx a : Nat) : Int) = ((bx b : Nat) : Int)) = decide ((a : Int) = (b : Int)) := decide_eq_decide.2 hif
  have hbq : (((bx a : Nat) : Int) == ((bx b : Nat) : Int)) = ((a : Int) == (b : Int)) := by rw [Bool.eq_iff_iff, beq_iff_eq, beq_iff_eq]; exact hif
  have HNB := hide (show (((bx a : Nat) : Int) != (a : Int)) = true from bne_iff_ne.2 hne)
  generalize bx a = A at *
  generalize bx b = B at *
  clear hT ha hb hif hne
  go_enter Tryd.func7, Tryd.ntmps7
  go_wp2_with (first
    | (go_at_call 9; refine HAL.out.mono ?_; rintro e w9 ⟨rfl, b9⟩; have B9 := hide b9; clear b9 HAL)
    | (go_at_call 12; refine (H1.out _ B9.out).mono ?_; rintro e w1 ⟨rfl, b1⟩; have B1 := hide (B9.out.trans (b1.mono B9.out.size)); clear b1 B9)
    | (go_at_call 12; refine (H2.out _ B1.out).mono ?_; rintro e w2 ⟨rfl, b2⟩; have B2 := hide (B1.out.trans (b2.mono B1.out.size)); clear b2 B1)
    | (go_at_call 12; refine (H1.out _ B2.out).mono ?_; rintro e w3 ⟨rfl, b3⟩; have B3 := hide (B2.out.trans (b3.mono B2.out.size)); clear b3 B2))
  go_ret
  exact ⟨by show Ending.returned (.bool ((A : Int) != (a : Int))) = _; rw [HNB.out], B3.out⟩
end Go.Proofs.YtapmmcegdhhinaaDoor.K
