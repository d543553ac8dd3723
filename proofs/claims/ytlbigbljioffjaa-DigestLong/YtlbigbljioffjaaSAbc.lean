/- The laws' probe: the sum of abc, reckoned; contract of alive. -/
import Derived.Test.YtlbigbljioffjaaSSum
import Derived.Test.YtlbigbljioffjaaSMsg
import Derived.Lib.SlBytesConst
namespace Go.Proofs.Ytlbigbljioffjaa.S
set_option maxRecDepth 100000
open Go Go.RowKit

theorem abc_0 : oB (sum [97, 98, 99]) 0 = 169 := by kernel_rfl
theorem abc_1 : oB (sum [97, 98, 99]) 1 = 153 := by kernel_rfl
theorem abc_19 : oB (sum [97, 98, 99]) 19 = 157 := by kernel_rfl
theorem cells_of' {w : World} {b : Nat} {cs : Array Value} {t : TypeId} {fr : Nat × Nat} (h : w.heap[b]? = some (.cells cs t fr)) (i : Nat) : w.cell? ⟨b, i, none⟩ = cs[i]? := by simp [World.cell?, h]
theorem abc_text (w : World) : TextAt (w.alloc (.cells #[.int .u8 97, .int .u8 98, .int .u8 99] 5 (3, 4))) (some ⟨w.heap.size, 0, none⟩) [97, 98, 99] := .inr ⟨w.heap.size, 0, rfl, by simp, fun i hi => by
  rw [Nat.zero_add, cells_of' (heap_new w _)]
  match i, hi with
  | 0, _ => rfl
  | 1, _ => rfl
  | 2, _ => rfl⟩

set_option maxHeartbeats 4000000 in
theorem alive_c (w : World) : Calls Try.prog 7 #[] w fun e w' => e = .returned (.bool true) ∧ Below w.heap.size w w' := by
  have HS := hide (sum_c (some ⟨w.heap.size, 0, none⟩) 3 [97, 98, 99] (w.alloc (.cells #[.int .u8 97, .int .u8 98, .int .u8 99] 5 (3, 4))) (by intro x hx; simp at hx; omega) (abc_text w) (by simp) (by omega) (by simp))
  have BA := hide ((Below.refl _ w).alloc (Nat.le_refl _) (.cells #[.int .u8 97, .int .u8 98, .int .u8 99] 5 (3, 4)) : Below w.heap.size w _)
  have hz : ∀ w, (zeroValue 24).run Try.prog w = .ok (.agg (oA (sum [97, 98, 99]) 0)) w := (zero20 _).1
  have e0 : (oA (sum [97, 98, 99]) 20)[0]? = some (.int .u8 169) := by rw [oA, fA_at .u8 _ (by omega) (by omega), abc_0]; rfl
  have e1 : (oA (sum [97, 98, 99]) 20)[1]? = some (.int .u8 153) := by rw [oA, fA_at .u8 _ (by omega) (by omega), abc_1]; rfl
  have e19 : (oA (sum [97, 98, 99]) 20)[19]? = some (.int .u8 157) := by rw [oA, fA_at .u8 _ (by omega) (by omega), abc_19]; rfl
  have H20 := hide (info20 (oB (sum [97, 98, 99])) 20)
  have HSZ := hide (show (oA (sum [97, 98, 99]) 0).size = (oA (sum [97, 98, 99]) 20).size by rw [oA, oA, fA_size, fA_size])
  have HON : Hid ((oA (sum [97, 98, 99]) 20).all (·.oneCell') = true) := fA_one _ _ _ _
  change Hid ((Try.prog.info? 24).map (·.size) = some (oA (sum [97, 98, 99]) 20).size) at H20
  generalize oA (sum [97, 98, 99]) 20 = oc at *
  generalize oA (sum [97, 98, 99]) 0 = o0 at *
  have hcv := Lib.run_convert_bytes_const (P := Try.prog) w 22 5 #[.int .u8 97, .int .u8 98, .int .u8 99] 3 3 Try.underlying22 Try.underlying5
  go_enter Try.func7, Try.ntmps7
  go_upto_region 2 with (first
    | (go_at_call 8; refine HS.out.mono ?_; rintro e w1 ⟨rfl, k1⟩; have B1 := hide k1; clear k1)
    | (refine wpList_store_row rfl 24 (.tmp 1) (.tmp 4) rfl w1.heap.size oc (by rfl) (by rfl) o0 24 (heap_new _ _) H20.out HSZ.out HON.out ?_; intro w2 G2 K2))
  have BW := BA.out.trans (B1.out.mono BA.out.size)
  have B2 := hide ((BW.alloc BW.size (.cells o0 24)).trans (K2.out.below (by have := BW.size; simp; omega) (fun i hi e => by have := BW.size; omega)))
  have c0 := (cells_of G2.out 0).trans e0
  have c1 := (cells_of G2.out 1).trans e1
  have c19 := (cells_of G2.out 19).trans e19
  clear BW K2 HS
  go_wp2_with fail
  go_ret
  exact ⟨rfl, B2.out⟩
end Go.Proofs.Ytlbigbljioffjaa.S
