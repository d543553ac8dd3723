/- Parcels taken together two by two. -/
import Derived.Test.YtdeigchkpakdaaaLPar
namespace Go.Proofs.Ytdeigchkpakdaaa
open Go Go.RowKit

def prsP (xs : List (Int × Bool)) : List (Int × Bool) := (List.range (xs.length / 2)).map fun i => ((px xs (2 * i)).1 + (px xs (2 * i + 1)).1, true)
theorem prsP_length (xs : List (Int × Bool)) : (prsP xs).length = xs.length / 2 := by simp [prsP]
theorem prsP_at (xs : List (Int × Bool)) {i : Nat} (h : i < xs.length / 2) : px (prsP xs) i = ((px xs (2 * i)).1 + (px xs (2 * i + 1)).1, true) := by
  rw [px_in (by rw [prsP_length]; exact h)]; simp [prsP]
/-- No parcel is too great. -/
def Small (xs : List (Int × Bool)) (W : Int) : Prop := ∀ i, i < xs.length → 0 ≤ (px xs i).1 ∧ (px xs i).1 ≤ W

set_option maxHeartbeats 1000000 in
set_option maxRecDepth 100000 in
theorem pack_c (lo hi : Nat) (a : Option Addr) (cap : Nat) (xs : List (Int × Bool)) (w : World) (hn : xs.length ≤ 100000) (hs : Small xs 1152921504606846976) (hhi : hi ≤ w.heap.size) (hP : Par lo hi w a xs) :
    Calls Try.prog 27 #[.slice a xs.length cap] w fun e w' => e = .returned (.slice (some ⟨w.heap.size, 0, none⟩) (xs.length / 2) (xs.length / 2)) ∧ PRo w.heap.size (prsP xs) w' ∧ Below w.heap.size w w' := by
  obtain ⟨i0, hi0, hz0, hz1', hz2'⟩ := info_parts Try.infoPar
  have hmk := made_pars (xs.length / 2) i0 hi0 hz0 hz1' hz2' (by omega)
  obtain ⟨N, hN⟩ : ∃ N, xs.length / 2 = N := ⟨_, rfl⟩
  have HN := hide hN
  have hN' : (xs.length : Int) / 2 = (N : Int) := by omega
  have hN1 : 2 * N ≤ xs.length := by omega
  rw [hN] at hmk ⊢
  clear hN
  have HP := hide hP
  have HS := hide hs
  clear hP hs
  go_enter Try.func27, Try.ntmps27
  go_wp2_with fail
  go_loopg [11] N (fun gk v11 wx => ∃ i : Nat, i + gk = N ∧ v11 = .int .i64 i ∧ Hid (PRo w.heap.size (filP (prsP xs) i) wx ∧ Below w.heap.size w wx))
  case atStart =>
    refine ⟨0, by omega, rfl, ?_, (Below.refl _ w).alloc (Nat.le_refl _) _⟩
    rw [filP_zero, prsP_length, HN.out]
    exact heap_new w _
  case round =>
    obtain ⟨i, hig, rfl, HI⟩ := hrel
    cases gk with
    | zero =>
      obtain rfl : i = N := by omega
      go_wp2_with fail
      go_ret
      have := HI.out
      rw [← HN.out, ← prsP_length, filP_all] at this
      exact ⟨rfl, this⟩
    | succ gk =>
      obtain ⟨b, s, ys, hb1, hb2, hro, rfl, hle, hpx⟩ := HP.out.resolve_left (by omega)
      have hrw : PRo b ys wr := hro.kept (Kept.of_below HI.out.2) (by omega)
      have hlt : (i : Int) < (N : Int) := by omega
      have e1 := hpx (2 * i) (by omega)
      have e2 := hpx (2 * i + 1) (by omega)
      have cx := hrw.c0 (i := s + 2 * i) (by omega)
      have cy := hrw.c0 (i := s + (2 * i + 1)) (by omega)
      rw [e1] at cx
      rw [e2] at cy
      have hx0 : (0 : Int) ≤ 2 * (i : Int) + 1 := by omega
      have hx1 : 2 * (i : Int) + 1 < (xs.length : Int) := by omega
      have hx2 : (2 * (i : Int) + 1).toNat = 2 * i + 1 := by omega
      have hx3 : (0 : Int) ≤ 2 * (i : Int) := by omega
      have hx4 : 2 * (i : Int) < (xs.length : Int) := by omega
      have hx5 : (2 * (i : Int)).toNat = 2 * i := by omega
      have bX := HS.out (2 * i) (by omega)
      have bY := HS.out (2 * i + 1) (by omega)
      have hset := HI.out.1.set (i := i) (by rw [filP_length, prsP_length, HN.out]; omega) (px (prsP xs) i)
      rw [filP_set _ i (by rw [prsP_length, HN.out]; omega), prsP_at xs (by rw [HN.out]; omega)] at hset
      have HSET := hide hset
      have t0 := HI.out.1.c0 (i := i) (by rw [filP_length, prsP_length, HN.out]; omega)
      have t1 := HI.out.1.c1 (i := i) (by rw [filP_length, prsP_length, HN.out]; omega)
      have f0 := HI.out.1.free (2 * i)
      have f1 := HI.out.1.free (2 * i + 1)
      rw [show 2 * (s + 2 * i) = 2 * s + 2 * i * 2 by omega] at cx
      rw [show 2 * (s + (2 * i + 1)) = 2 * s + (2 * i + 1) * 2 by omega] at cy
      rw [show 2 * i = i * 2 by omega] at t0 t1 f0 f1
      clear hset hpx e1 e2
      generalize (px xs (2 * i)).1 = X at cx bX HSET
      generalize (px xs (2 * i + 1)).1 = Y at cy bY HSET
      generalize (px (filP (prsP xs) i) i).1 = T0 at t0
      generalize (px (filP (prsP xs) i) i).2 = T1 at t1
      go_wp2_with fail
      go_region
      go_wp2_with fail
      go_roundg gk
      case measure => omega
      case rel =>
        have hs := HSET.out
        rw [show 2 * i = i * 2 by omega] at hs
        exact ⟨i + 1, by omega, by go_num, hs, ((HI.out.2.setCell (Nat.le_refl _) _).setCell (Nat.le_refl _) _).drew⟩
end Go.Proofs.Ytdeigchkpakdaaa
