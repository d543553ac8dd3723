/- The reference's FromDos and ToDos: contracts. -/
import Derived.Test.YthhajodedmaefaaLawD
namespace Go.Proofs.Ythhajodedmaefaa.T
set_option maxRecDepth 100000
open Go Go.RowKit
set_option linter.unusedVariables false
set_option maxHeartbeats 4000000 in
theorem rfromDos_c (D K : Int) (w : World) (hD : 0 ≤ D ∧ D < 65536) (hK : 0 ≤ K ∧ K < 65536) : Calls Try.prog 15 #[.int .u16 D, .int .u16 K] w fun e w' => e = .returned (.tuple #[.int .i64 (FdV (1980 + D / 512) (D / 32 % 16) (D % 32) (K / 2048) (K / 32 % 64) (K % 32 * 2)), .bool (FdB (1980 + D / 512) (D / 32 % 16) (D % 32) (K / 2048) (K / 32 % 64) (K % 32 * 2))]) ∧ Below w.heap.size w w' := by
  have HF := fun W => hide (rfromDate_v (1980 + D / 512) (D / 32 % 16) (D % 32) (K / 2048) (K / 32 % 64) (K % 32 * 2) W)
  generalize FdV (1980 + D / 512) (D / 32 % 16) (D % 32) (K / 2048) (K / 32 % 64) (K % 32 * 2) = v at *
  generalize FdB (1980 + D / 512) (D / 32 % 16) (D % 32) (K / 2048) (K / 32 % 64) (K % 32 * 2) = b at *
  go_enter Try.func15, Try.ntmps15
  go_wp2_with (first | (go_at_call 10; refine (HF _).out.mono ?_; rintro e w1 ⟨rfl, hw⟩; have B1 := hide hw; clear hw HF))
  go_ret2
  exact ⟨rfl, B1.out⟩
theorem rtoDos_no {t Y M d h mi se : Int} (w : World) (ht : -9223372036854775808 ≤ t) (ht2 : t ≤ 9223372036854775807) (hd : IsDt (t / 1000000000) Y M d h mi se) (hy : ¬ (1980 ≤ Y ∧ Y ≤ 2107)) : Calls Try.prog 17 #[.int .i64 t] w fun e w' => e = .returned (.tuple #[.int .u16 0, .int .u16 0, .bool false]) ∧ Below w.heap.size w w' := by
  have HT := fun W => hide (rtoDate_c W ht ht2 hd)
  clear hd
  rcases (by omega : Y < 1980 ∨ (¬ Y < 1980 ∧ 2107 < Y)) with h1 | ⟨h1, h2⟩
  · go_enter Try.func17, Try.ntmps17
    go_wp2_with (first
      | (go_at_call 13; refine (HT _).out.mono ?_; rintro e w1 ⟨rfl, hw⟩; have B1 := hide hw; clear hw HT))
    all_goals go_ret3
    all_goals exact ⟨rfl, B1.out.alloc B1.out.size _⟩
  · go_enter Try.func17, Try.ntmps17
    go_wp2_with (first
      | (go_at_call 13; refine (HT _).out.mono ?_; rintro e w1 ⟨rfl, hw⟩; have B1 := hide hw; clear hw HT))
    all_goals go_ret3
    all_goals exact ⟨rfl, B1.out.alloc B1.out.size _⟩
set_option maxHeartbeats 4000000 in
theorem rtoDos_yes {t Y M d h mi se : Int} (w : World) (ht : -9223372036854775808 ≤ t) (ht2 : t ≤ 9223372036854775807) (hd : IsDt (t / 1000000000) Y M d h mi se) (hy : 1980 ≤ Y ∧ Y ≤ 2107) : Calls Try.prog 17 #[.int .i64 t] w fun e w' => e = .returned (.tuple #[.int .u16 (dosD Y M d), .int .u16 (dosK h mi se), .bool true]) ∧ Below w.heap.size w w' := by
  have HT := fun W => hide (rtoDate_c W ht ht2 hd)
  obtain ⟨⟨hm, hdd, _⟩, hh, hmi, hse, _⟩ := hd
  have hml := md_le Y M
  have hd5 : 1 ≤ d ∧ d ≤ 31 := by omega
  clear hdd hml
  unfold dosD dosK
  have h1 : ¬ Y < 1980 := by omega
  have h2 : ¬ 2107 < Y := by omega
  go_enter Try.func17, Try.ntmps17
  go_wp2_with (first
    | (go_at_call 13; refine (HT _).out.mono ?_; rintro e w1 ⟨rfl, hw⟩; have B1 := hide hw; clear hw HT))
  all_goals go_ret3
  all_goals exact ⟨rfl, B1.out.alloc B1.out.size _⟩
end Go.Proofs.Ythhajodedmaefaa.T
