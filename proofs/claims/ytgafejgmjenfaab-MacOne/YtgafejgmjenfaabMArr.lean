/- masked, sumBehind: contracts. -/
import Derived.Test.YtgafejgmjenfaabHOwn
namespace Go.Proofs.Ytgafejgmjenfaab.S
set_option maxRecDepth 100000
open Go Go.RowKit

set_option maxHeartbeats 4000000 in
theorem masked_c (xs : List Nat) (x : Nat) (w : World) (hl : xs.length = 64) (hy : By xs) (hx : x < 256) :
    Calls Try.prog 11 #[.agg (kA xs), .int .u8 (x : Int)] w fun e w' => e = .returned (.agg (kA (xs.map (· ^^^ x)))) ∧ Below w.heap.size w w' := by
  have hz : ∀ w, (zeroValue 33).run Try.prog w = .ok (.agg (kA Z64)) w := zero64.1
  have HY := hide hy
  have HL := hide hl
  have HI := hide (info64 (xs := xs.map (· ^^^ x)) (by rw [List.length_map]; exact hl))
  have HE := hide (show flipL xs x 64 = xs.map (· ^^^ x) by rw [← hl]; exact flipL_end xs x)
  have HS := hide (show (kA Z64).size = (kA (xs.map (· ^^^ x))).size by rw [kA_size, kA_size, List.length_map, hl]; exact Z64_length)
  have HO := hide (kA_one (xs.map (· ^^^ x)))
  have R0 : Hid (((w.alloc (.cells (kA xs) 33)).alloc (.cells (kA Z64) 33)).heap[w.heap.size]? = some (.cells (kA (flipL xs x 0)) 33 (0, 0))) := by rw [flipL_zero]; exact heap_new1 _ _ _
  have R1 := hide (heap_new2 w (.cells (kA xs) 33) (.cells (kA Z64) 33))
  have B0 := hide (((Below.refl _ w).alloc (Nat.le_refl _) (.cells (kA xs) 33)).alloc (by simp) (.cells (kA Z64) 33) : Below w.heap.size w _)
  clear hy hl
  generalize xs.map (· ^^^ x) = ms at HI HE HS HO ⊢
  go_enter Try.func11, Try.ntmps11
  go_wp2_with fail
  generalize (w.alloc (.cells (kA xs) 33)).alloc (.cells (kA Z64) 33) = w1 at R0 R1 B0 ⊢
  go_loopg [6] 64 (fun gk u6 wx => ∃ i : Nat, i + gk = 64 ∧ u6 = .int .i64 i ∧ Hid (wx.heap[w.heap.size]? = some (.cells (kA (flipL xs x i)) 33 (0, 0))) ∧ Hid (wx.heap[w.heap.size + 1]? = some (.cells (kA Z64) 33 (0, 0))) ∧ Hid (Below w.heap.size w wx))
  case atStart => exact ⟨0, by omega, rfl, R0, R1, B0⟩
  case round =>
    obtain ⟨i, hig, rfl, RX, RY, BX⟩ := hrel
    clear R0 R1 B0
    cases gk with
    | zero =>
      obtain rfl : i = 64 := by omega
      have hge : ¬ ((64 : Nat) : Int) < 64 := by omega
      rw [HE.out] at RX
      go_wp2_with (first
        | (refine wpList_load_row rfl 33 (.tmp 2) rfl w.heap.size (by rfl) (kA ms) 33 (0, 0) RX.out _ Try.underlying33 rfl HI.out ?_)
        | (refine wpList_store_row rfl 33 (.tmp 4) (.tmp 16) rfl (w.heap.size + 1) (kA ms) (by rfl) (by rfl) (kA Z64) 33 RY.out HI.out HS.out HO.out ?_; intro w2 G2 K2))
      have hld : (loadVar 33 ⟨w.heap.size + 1, 0, none⟩).run Try.prog w2 = .ok (.agg (kA ms)) w2 :=
        run_loadVar_row _ _ 33 33 (kA ms) (0, 0) _ G2.out Try.underlying33 rfl HI.out
      refine bodyPost_ret (v := .agg (kA ms)) ?_ rfl ⟨rfl, BX.out.trans (K2.out.below BX.out.size (fun i hi e => by omega))⟩
      simp [results, asAddr, hld]
    | succ g1 =>
      have hlt : (i : Int) < 64 := by omega
      have hi : i < xs.length := by rw [HL.out]; omega
      have hc := (cells_of RX.out i).trans (kA_at _ (by rw [flipL_length]; exact hi))
      rw [flipL_at _ _ hi] at hc
      have hf := free_of RX.out i
      have hset := hide (set_kA RX.out i (xs.getD i 0 ^^^ x))
      rw [flipL_set _ _ hi] at hset
      have hset1 := hide ((set_other (w := wr) (c := w.heap.size) (i := i) (u := .int .u8 ((xs.getD i 0 ^^^ x : Nat) : Int)) (b := w.heap.size + 1) (by simp)).trans RY.out)
      have BS := hide (BX.out.setCell (p := ⟨w.heap.size, i, none⟩) (by simp) (.int .u8 ((xs.getD i 0 ^^^ x : Nat) : Int)))
      have hq := HY.out.getD i
      have hxr := xor8 _ x hq hx
      generalize xs.getD i 0 ^^^ x = Zv at hset hset1 BS hxr
      generalize xs.getD i 0 = Kv at hc hq hxr
      have i0 : (0 : Int) ≤ (i : Int) := by omega
      clear hi
      go_wp2_with fail
      go_roundg g1
      case measure => omega
      case rel => exact ⟨i + 1, by omega, by go_num, hset, hset1, BS⟩
end Go.Proofs.Ytgafejgmjenfaab.S
