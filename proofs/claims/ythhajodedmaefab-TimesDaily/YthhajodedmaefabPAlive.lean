/- The laws' probe: contract. -/
import Derived.Test.YthhajodedmaefabPDos
namespace Go.Proofs.Ythhajodedmaefab.T
set_option maxRecDepth 100000
open Go Go.RowKit
set_option linter.unusedVariables false
theorem dt_2000 : IsDt (951868800000000000 / 1000000000) 2000 3 1 0 0 0 := by
  have := IsDt.of (y := 2000) (m := 3) (d := 1) (h := 0) (mi := 0) (se := 0) (by decide) (by decide)
  rw [show dn 2000 3 1 * 86400 + 0 * 3600 + 0 * 60 + 0 = 951868800000000000 / 1000000000 by decide] at this
  exact this
theorem dt_1969 : IsDt (-1 / 1000000000) 1969 12 31 23 59 59 := by
  have := IsDt.of (y := 1969) (m := 12) (d := 31) (h := 23) (mi := 59) (se := 59) (by decide) (by decide)
  rw [show dn 1969 12 31 * 86400 + 23 * 3600 + 59 * 60 + 59 = -1 / 1000000000 by decide] at this
  exact this
set_option maxHeartbeats 4000000 in
theorem alive_c (w : World) : Calls Try.prog 6 #[] w fun e w' => e = .returned (.bool true) ∧ Below w.heap.size w w' := by
  have HF := hide (pfromDate_c 2000 3 1 0 0 0 w)
  rw [show FdV 2000 3 1 0 0 0 = 951868800000000000 by decide, show FdB 2000 3 1 0 0 0 = true by decide] at HF
  have HD := fun W => hide (toDos_yes (t := 951868800000000000) W (by decide) (by decide) dt_2000 (by decide))
  simp only [show dosD 2000 3 1 = 10337 by decide, show dosK 0 0 0 = 0 by decide] at HD
  have HN := fun W => hide (fromNt_c 116444736000000000 W (by decide) (by decide))
  simp only [show ntv 116444736000000000 = 0 by decide, show ntb 116444736000000000 = true by decide] at HN
  have HT := fun W => hide (toDate_c (t := -1) W (by decide) (by decide) dt_1969)
  have hf : ∀ W, (Instr.field 23 (.agg #[.int .i64 1969, .int .i64 12, .int .i64 31, .int .i64 23, .int .i64 59, .int .i64 59]) 0).run Try.prog W = .ok (.int .i64 1969) W := fun W => by kernel_rfl
  go_enter Try.func6, Try.ntmps6
  go_wp2_with (first
    | (go_at_call 11; refine HF.out.mono ?_; rintro e w1 ⟨rfl, hw⟩; have B1 := hide hw; clear hw HF)
    | (go_at_call 12; refine (HD _).out.mono ?_; rintro e w2 ⟨rfl, hw⟩; have B2 := hide (B1.out.trans (hw.mono B1.out.size)); clear hw HD B1)
    | (go_at_call 13; refine (HN _).out.mono ?_; rintro e w3 ⟨rfl, hw⟩; obtain rfl := hw.symm; clear HN)
    | (go_at_call 5; refine (HT _).out.mono ?_; rintro e w4 ⟨rfl, hw⟩; have B4 := hide (B2.out.trans (hw.mono B2.out.size)); clear hw HT B2))
  go_ret
  exact ⟨rfl, B4.out⟩
end Go.Proofs.Ythhajodedmaefab.T
