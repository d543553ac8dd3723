/- A message's end is written: contract of finish. -/
import Derived.Test.YtgamfpgejkhbcaaDoorSWrite
namespace Go.Proofs.YtgamfpgejkhbcaaDoor.S
set_option maxRecDepth 100000
open Go Go.RowKit

/-- The place i of the end of a text, of which t bytes of the number v are laid; z zeros stand ahead of it. -/
def eF (z v t i : Nat) : Nat := if i = 0 then 128 else if z < i ∧ i < z + 1 + t then v / 256 ^ (7 - (i - z - 1)) % 256 else 0
def eA (z v t : Nat) : Array Value := fA .u8 72 (eF z v t) 72
theorem eA_set {z v t : Nat} (ht : t < 8) (hz : z < 64) : (eA z v t).setIfInBounds (z + 1 + t) (.int .u8 ((v / 256 ^ (7 - t) % 256 : Nat) : Int)) = eA z v (t + 1) := by
  apply Array.ext_getElem?
  intro i
  rw [Array.getElem?_setIfInBounds]
  by_cases hi : i < 72
  · rw [eA, eA, fA_size, fA_at .u8 _ hi hi, fA_at .u8 _ hi hi]
    by_cases e : z + 1 + t = i
    · subst e
      rw [if_pos rfl, if_pos (by omega), eF, if_neg (by omega), if_pos (by omega), show z + 1 + t - z - 1 = t by omega]
    · rw [if_neg e]
      unfold eF
      by_cases h0 : i = 0
      · rw [if_pos h0, if_pos h0]
      · rw [if_neg h0, if_neg h0]
        by_cases h1 : z < i ∧ i < z + 1 + t
        · rw [if_pos h1, if_pos (by omega)]
        · rw [if_neg h1, if_neg (by omega)]
  · rw [if_neg (by omega), eA, eA, Array.getElem?_eq_none (by rw [fA_size]; omega), Array.getElem?_eq_none (by rw [fA_size]; omega)]
theorem eF_end (n i : Nat) (hi : i < (ending n).length) : (ending n).getD i 0 = eF (zs n) (8 * n % 18446744073709551616) 8 i := by
  rw [ending_length] at hi
  unfold ending eF
  rcases i with _ | i
  · rfl
  · rw [if_neg (by omega), List.cons_append, List.getD_cons_succ]
    by_cases h : i < zs n
    · rw [if_neg (by omega), List.getD_eq_getElem?_getD, List.getElem?_append_left (by simpa using h)]
      simp [h]
    · rw [if_pos (by omega), List.getD_eq_getElem?_getD, List.getElem?_append_right (by simpa using h), List.length_replicate]
      have h8 : i - zs n < 8 := by omega
      simp only [be8, List.getElem?_map, List.getElem?_range h8, Option.map_some, Option.getD_some]
      rw [show i + 1 - zs n - 1 = i - zs n by omega]
theorem zs_lt (n : Nat) : zs n < 64 := Nat.mod_lt _ (by omega)
theorem zero72 : (∀ w, (zeroValue 105).run Tryd.prog w = .ok (.agg (Array.replicate 72 (.int .u8 0))) w) ∧ (Tryd.prog.info? 105).map (·.size) = some 72 := zero_of_info (by kernel_rfl)
theorem eA_start (z v : Nat) : (Array.replicate 72 (Value.int .u8 0)).setIfInBounds 0 (.int .u8 128) = eA z v 0 := by
  apply Array.ext_getElem?
  intro i
  rw [Array.getElem?_setIfInBounds, Array.getElem?_replicate, Array.size_replicate]
  by_cases hi : i < 72
  · rw [eA, fA_at .u8 _ hi hi]
    unfold eF
    by_cases h0 : 0 = i
    · subst h0; rfl
    · rw [if_neg h0, if_pos hi, if_neg (Ne.symm h0), if_neg (by omega)]; rfl
  · rw [if_neg (by omega), if_neg hi, eA, Array.getElem?_eq_none (by rw [fA_size]; omega)]

/-- What stands in memory while the end is laid. -/
structure EndAt (z v : Nat) (w wx : World) (t : Nat) : Prop where
  r : wx.heap[w.heap.size]? = some (.cells (eA z v t) 105 (0, 0))
  bel : Below w.heap.size w wx
theorem EndAt.set {z v : Nat} {w wx : World} {t : Nat} (h : EndAt z v w wx t) (ht : t < 8) (hz : z < 64) : EndAt z v w (wx.setCell ⟨w.heap.size, z + 1 + t, none⟩ (.int .u8 ((v / 256 ^ (7 - t) % 256 : Nat) : Int))) (t + 1) :=
  ⟨by rw [set_of h.r, eA_set ht hz], h.bel.setCell (by simp) _⟩
theorem EndAt.start (z v : Nat) (w : World) : EndAt z v w (w.alloc (.cells (eA z v 0) 105)) 0 :=
  ⟨heap_new _ _, (Below.refl _ w).alloc (Nat.le_refl _) _⟩

set_option maxHeartbeats 4000000 in
theorem finish_c (bh : Nat) (xs : List Nat) (w : World) (hh : HashAt w bh xs) (hx : xs.length ≤ 1000000000000000) :
    Calls Tryd.prog 66 #[.pointer (some ⟨bh, 0, none⟩)] w fun e w' => e = .returned (.tuple #[]) ∧ HashAt w' bh (msg xs) ∧ Kept (fun k => k = bh) w w' := by
  have hz := zero72.1
  have hbw := hh.lt
  obtain ⟨q, hI, hW⟩ := hh
  have c5 := (cells_of hI 5).trans (hA_5 _ _ _)
  have HH : Hid (HashAt w bh xs) := ⟨q, hI, hW⟩
  clear hI hW
  obtain ⟨N, hN⟩ : ∃ N, N = xs.length := ⟨_, rfl⟩
  have HN := hide hN
  rw [← hN] at c5 hx
  clear hN
  obtain ⟨z, hz'⟩ : ∃ z, z = zs N := ⟨_, rfl⟩
  have hzl : z < 64 := by rw [hz']; exact zs_lt N
  have e1 : ((55 - (N : Int)) % 18446744073709551616) % 64 = (z : Int) := by rw [hz']; unfold zs; omega
  have e2 : ((55 - (N : Int)) % 18446744073709551616).tmod 64 = (z : Int) := by rw [Int.tmod_eq_emod_of_nonneg (by omega)]; exact e1
  have e5 : (IntKind.u64.wrap (55 - (N : Int))).tmod 64 = (z : Int) := by rw [show IntKind.u64.wrap (55 - (N : Int)) = (55 - (N : Int)) % 18446744073709551616 by simp [IntKind.wrap, IntKind.signed, IntKind.bits]]; exact e2
  have e6 : IntKind.u64.wrap (1 + (z : Int)) = ((z + 1 : Nat) : Int) := by rw [show IntKind.u64.wrap (1 + (z : Int)) = (1 + (z : Int)) % 18446744073709551616 by simp [IntKind.wrap, IntKind.signed, IntKind.bits]]; omega
  have e7 : 1 + (z : Int) = ((z + 1 : Nat) : Int) := by omega
  obtain ⟨y, hy⟩ : ∃ y, y = z + 1 := ⟨_, rfl⟩
  rw [← hy] at e6 e7
  have hyl : y < 65 := by omega
  have HZ := hide hz'
  have HY := hide hy
  clear hy e1 e2
  obtain ⟨v, hv⟩ : ∃ v, v = 8 * N % 18446744073709551616 := ⟨_, rfl⟩
  have HV := hide hv
  have e3 : 8 * (N : Int) % 18446744073709551616 = (v : Int) := by omega
  have e4 : 8 * (N : Int) = (v : Int) := by omega
  have hvl : v < 18446744073709551616 := by omega
  have HS0 := hide (EndAt.start z v w)
  clear hz' hv
  go_enter Tryd.func66, Tryd.ntmps66
  go_upto_region 2 with fail
  rw [eA_start z v]
  have hc5 : (w.alloc (.cells (eA z v 0) 105)).cell? ⟨bh, 5, none⟩ = some (.int .u64 (N : Int)) := (World.cell?_of_block (w := w) (Below.heap_alloc _ _ _ hbw)).trans c5
  generalize w.alloc (.cells (eA z v 0) 105) = w1 at HS0 hc5 ⊢
  clear c5 hz
  go_wp2_with fail
  go_loopg [19] 8 (fun gk v19 wx => ∃ t : Nat, t + gk = 8 ∧ v19 = .int .u64 t ∧ Hid (EndAt z v w wx t))
  case atStart => exact ⟨0, by omega, rfl, HS0⟩
  case round =>
    obtain ⟨t, htg, rfl, HS⟩ := hrel
    clear HS0 hc5
    cases gk with
    | zero =>
      obtain rfl : t = 8 := by omega
      have hsl : ∀ W, (Instr.sliceAt 105 (.pointer (some ⟨w.heap.size, 0, none⟩)) none (some (.int .u64 ((y : Int) + 8))) none).run Tryd.prog W = .ok (.slice (some ⟨w.heap.size, 0, none⟩) (ending xs.length).length 72) W := fun W => by
        have h := slice72_h .u64 W w.heap.size 0 (y + 8) (by omega)
        have e : (ending xs.length).length = y + 8 := by rw [ending_length, ← HN.out, ← HZ.out, HY.out]
        rw [e]
        exact h
      have HWR := hide (write_c bh (some ⟨w.heap.size, 0, none⟩) 72 xs (ending xs.length) wr (HashAt.below HH.out HS.out.bel hbw) (ending_by _)
        (.inr ⟨w.heap.size, 0, rfl, lt_of_block HS.out.r, by omega, fun i hi => by
          rw [Nat.zero_add, cells_of HS.out.r, eF_end _ _ hi, ← HN.out, ← HZ.out, ← HV.out]
          rw [ending_length] at hi
          have := zs_lt xs.length
          exact fA_at .u8 _ (by omega) (by omega)⟩) (by rw [ending_length]; have := zs_lt xs.length; omega) (by omega) (by rw [ending_length]; have := zs_lt xs.length; have := HN.out; omega))
      have BX := hide HS.out.bel
      go_wp2_with (go_at_call 62; refine HWR.out.mono ?_; rintro e w4 ⟨rfl, h4, k4⟩)
      go_end0
      exact ⟨rfl, h4, (Kept.mono (M' := fun k => k = bh) (Kept.of_below BX.out) (fun i hi h => by omega)).trans k4 (fun _ _ h => h)⟩
    | succ g =>
      have hlt : (t : Int) < 8 := by omega
      have hc := (cells_of HS.out.r (y + t)).trans (fA_at .u8 _ (show y + t < 72 by omega) (show y + t < 72 by omega))
      have hf := free_of HS.out.r (y + t)
      have hv1 : (v : Int) / 2 ^ (8 * (7 - t)) = ((v / 256 ^ (7 - t) : Nat) : Int) := by
        rw [show (256 : Nat) = 2 ^ 8 from rfl, ← Nat.pow_mul]; push_cast; rfl
      have hset := hide (HS.out.set (show t < 8 by omega) hzl)
      rw [← HY.out] at hset
      generalize v / 256 ^ (7 - t) = D at hv1 hset
      go_wp2_with fail
      go_roundg g
      case measure => omega
      case rel => exact ⟨t + 1, by omega, by go_num, hset⟩
end Go.Proofs.YtgamfpgejkhbcaaDoor.S
