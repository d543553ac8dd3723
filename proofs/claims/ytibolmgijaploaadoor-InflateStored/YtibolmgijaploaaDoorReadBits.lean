/- The reader's Bits: where so many bits are left, it tells them as a number and stands behind them. -/
import Derived.Test.YtibolmgijaploaaDoorRead
namespace Go.Proofs.YtibolmgijaploaaDoor
open Go.RowKit

theorem piece_nat (ba bt b off len cap pos wanted : Nat) (wi : Int) (hwi : wi = wanted) (zs : List Int) (w : World)
    (ha : w.cell? ⟨ba, 0, none⟩ = some (.int .i64 (pos : Int))) (hf : w.frozen? ⟨ba, 0, none⟩ = false) (ht : w.cell? ⟨bt, 0, none⟩ = some (.slice (some ⟨b, off, none⟩) len cap))
    (hc : ∀ i, i < len → w.cell? ⟨b, off + i, none⟩ = some (.int .u8 (zs.getD i 0))) (hz : ∀ i, 0 ≤ zs.getD i 0 ∧ zs.getD i 0 ≤ 255) (hp1 : pos < len * 8) (hl : len * 8 ≤ 9223372036854775000) (hw0 : 1 ≤ wanted) (hw1 : wanted ≤ 24) :
    Calls Tryd.prog 61 #[.int .i64 wi, .pointer (some ⟨ba, 0, none⟩), .pointer (some ⟨bt, 0, none⟩)] w fun e w' => ∃ l : Nat, 1 ≤ l ∧ l ≤ wanted ∧ l ≤ 8 ∧ e = .returned (.tuple #[.int .i64 (bitsVal zs pos l), .int .i64 (l : Int)]) ∧ w' = w.setCell ⟨ba, 0, none⟩ (.int .i64 ((pos + l : Nat) : Int)) := by
  subst hwi
  have e8 : ((pos : Int) / 8).toNat = pos / 8 := by omega
  have hzz := hz (pos / 8)
  refine (piece_any ba bt b off len cap pos wanted (zs.getD (pos / 8) 0) w ha hf ht (by rw [e8]; exact hc _ (by omega)) (by omega) (by omega) hl (by omega) (by omega) hzz.1 hzz.2).mono ?_
  rintro e w' ⟨rfl, rfl⟩
  have em : min (8 - (pos : Int) % 8) wanted = ((min (8 - pos % 8) wanted : Nat) : Int) := by omega
  refine ⟨min (8 - pos % 8) wanted, by omega, by omega, by omega, ?_, ?_⟩
  · rw [em, bitsVal_byte zs pos _ (by omega), show ((pos : Int) % 8).toNat = pos % 8 by omega, Int.toNat_natCast]
  · rw [em]; rfl

theorem bits_join (zs : List Int) (p k l : Nat) (h : k + l ≤ 24) : bits .or .i64 (bitsVal zs p k) (wrap64 (bitsVal zs (p + k) l * 2 ^ k)) = bitsVal zs p (k + l) := by
  have h1 := bitsVal_bd zs p k
  have h2 := bitsVal_bd zs (p + k) l
  have hp := pow_pos' k
  have h3 : bitsVal zs (p + k) l * 2 ^ k < 2 ^ (k + l) := by
    rw [Nat.add_comm k l, Int.pow_add]
    exact Int.mul_lt_mul_of_pos_right h2.2 (show (0 : Int) < 2 ^ k by omega)
  have h4 : 0 ≤ bitsVal zs (p + k) l * 2 ^ k := Int.mul_nonneg h2.1 (by omega)
  have h5 := @pow_le_24 (k + l) h
  rw [IntWalk.wrap64_in _ ⟨by omega, by omega⟩, or_add _ _ k h1.1 h1.2 h2.1 (by omega) (by omega), bitsVal_add]

set_option maxHeartbeats 1000000 in
theorem bits_yes (B br : Nat) (a : Option Addr) (len cap p n : Nat) (zs : List Int) (w : World) (hb : w.heap[br]? = some (.cells #[.slice a len cap, .int .i64 (p : Int)] 54 (0, 0)))
    (ht : Text B w a len zs) (hl : len * 8 ≤ 9223372036854775000) (hn : n ≤ 24) (hp : p + n ≤ len * 8) :
    Calls Tryd.prog 31 #[.pointer (some ⟨br, 0, none⟩), .int .i64 n] w fun e w' => e = .returned (.tuple #[.int .i64 (bitsVal zs p n), .bool true]) ∧ w'.heap[br]? = some (.cells #[.slice a len cap, .int .i64 ((p + n : Nat) : Int)] 54 (0, 0)) ∧ Kept (fun k => k = br) w w' := by
  have c0 := cells_of hb 0
  have c1 := cells_of hb 1
  have hbr := lt_of_block hb
  simp at c0 c1
  go_enter Tryd.func31, Tryd.ntmps31
  go_wp2_with (first | (go_at_call 50; refine (fits_yes _ _ (by omega) (by omega)).mono ?_; rintro e w ⟨rfl, rfl⟩) | (go_at_call 14; refine (left_any br a len cap p _ (by assumption) (by assumption) (by omega) (by omega) (by omega)).mono ?_; rintro e w' ⟨rfl, q, rfl⟩))
  go_region_held3 (fun w' => w'.cell? ⟨br, 0, none⟩ = some (.slice a len cap) ∧ w'.cell? ⟨br, 1, none⟩ = some (.int .i64 (p : Int))) (go_keep) ((go_at_call 51; refine (pieces_any _ _ _ _ _).mono ?_; rintro e w' ⟨rfl, rfl⟩))
  all_goals go_wp2
  go_loopw [7, 8] (fun v i wr => ∃ k : Nat, k ≤ n ∧ i = .int .i64 k ∧ v = .int .i64 (bitsVal zs p k) ∧ wr.heap[w.heap.size]? = some (.cells #[.slice a len cap] 22 (0, 0)) ∧ wr.heap[w.heap.size + 1]? = some (.cells #[.int .i64 ((p + k : Nat) : Int)] 3 (0, 0)) ∧ Kept (fun _ => False) w wr)
    (fun _ i _ => n - (intOf i).toNat)
  case atStart => exact ⟨0, Nat.zero_le _, rfl, rfl, heap_new1 (w.drewN (q + 1)) _ _, heap_new2 (w.drewN (q + 1)) _ _, ((Kept.refl _ _).drewN _).alloc _ _ |>.alloc _ _⟩
  case round =>
    obtain ⟨k, hk, rfl, rfl, hT, hA, hK⟩ := hrel
    clear c0 c1
    have hbr' := hK.heap hb (fun h => h)
    have d0 := cells_of hbr' 0
    have d1 := cells_of hbr' 1
    have f1 := free_of hbr' 1
    simp at d0 d1
    by_cases hlt : k < n
    · obtain ⟨hz1, hz2, hz3⟩ := ht.kept hK (fun _ _ h => h)
      obtain ⟨b, off, hbB, rfl, hcell⟩ := hz3.resolve_left (by omega)
      have t0 := cell_of_one hT
      have a0 := cell_of_one hA
      have af := free_of_one hA
      have HH : Hid (∀ i, i < len → wr.cell? ⟨b, off + i, none⟩ = some (.int .u8 (zs.getD i 0))) := hcell
      have HZ : Hid (∀ i, 0 ≤ zs.getD i 0 ∧ zs.getD i 0 ≤ 255) := hz2
      clear hcell hz2 hz3
      go_wp2_with (go_at_call 61; refine (piece_nat _ _ b off len cap (p + k) (n - k) _ (by omega) zs _ a0 af t0 HH.out HZ.out (by omega) hl (by omega) (by omega)).mono ?_; rintro e w' ⟨l, hl1, hl2, hl3, rfl, rfl⟩)
      go_roundw
      case rel =>
        refine ⟨k + l, by omega, by go_num, ?_, ?_, ?_, ?_⟩
        · exact congrArg (Value.int .i64) (bits_join zs p k l (by omega))
        · rw [set_other (by omega)]; exact hT
        · rw [one_setCell hA, show ((p : Int) + k + l) = ((p + (k + l) : Nat) : Int) by omega]
        · exact hK.setCell (fun h => absurd (show w.heap.size + 1 < w.heap.size from h) (by omega)) _
      case measure => simp [intOf]; omega
    · have : k = n := by omega
      subst this
      go_wp2
      go_ret2
      refine ⟨rfl, ?_, ?_⟩
      · rw [set_of hbr']; rfl
      · exact Kept.setCell (M := fun k => k = br) (hK.mono (fun _ _ h => h.elim)) (fun _ => rfl) _
#print axioms bits_yes
end Go.Proofs.YtibolmgijaploaaDoor
