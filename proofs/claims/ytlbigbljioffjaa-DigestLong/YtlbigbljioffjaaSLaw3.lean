/- The law on like bytes: walked. -/
import Derived.Test.YtlbigbljioffjaaSOpen
import Derived.Test.YtlbigbljioffjaaSEq
namespace Go.Proofs.Ytlbigbljioffjaa.S
set_option maxRecDepth 100000
open Go Go.RowKit

set_option maxHeartbeats 4000000 in
theorem long_walk (n c : Int) (w : World) (hc : (Lit.int .u8 c).wf = true) :
    Calls Try.prog 5 #[.int .i64 n, .int .u8 c] w (Yes w) := by
  have hcb := bounds_u8 hc
  clear hc
  by_cases hneg : n < 0
  · go_enter Try.func5, Try.ntmps5
    go_wp2_with (go_at_call 7; refine (alive_c _).mono ?_; rintro e w2 ⟨rfl, b2⟩)
    go_ret
    exact ⟨rfl, b2⟩
  · by_cases hbig : 5000 < n
    · go_enter Try.func5, Try.ntmps5
      go_wp2_with (go_at_call 7; refine (alive_c _).mono ?_; rintro e w2 ⟨rfl, b2⟩)
      go_ret
      exact ⟨rfl, b2⟩
    · obtain ⟨N, rfl⟩ : ∃ N : Nat, n = (N : Int) := ⟨n.toNat, by omega⟩
      obtain ⟨x, rfl⟩ : ∃ x : Nat, c = (x : Int) := ⟨c.toNat, by omega⟩
      have hN : N ≤ 5000 := by omega
      have hx : x < 256 := by omega
      have hmk : ∀ W : World, (Instr.makeSlice 22 (.int .i64 (N : Int)) (.int .i64 (N : Int))).run Try.prog W = .ok (.slice (some ⟨W.heap.size, 0, none⟩) N N) (W.alloc (.cells (fA .u8 N (fun _ => x) 0) 5)) := fun W => by
        rw [made_full N (by omega) W, fA_zero, fA_zero]
      have H0 := hide (heap_new w (.cells (fA .u8 N (fun _ => x) 0) 5))
      have BA := hide ((Below.refl _ w).alloc (Nat.le_refl _) (.cells (fA .u8 N (fun _ => x) 0) 5) : Below w.heap.size w _)
      go_enter Try.func5, Try.ntmps5
      go_wp2_with fail
      generalize w.alloc (.cells (fA .u8 N (fun _ => x) 0) 5) = w1 at H0 BA ⊢
      go_loopg [18] N (fun gk v18 wx => ∃ t : Nat, t + gk = N ∧ v18 = .int .i64 t ∧ Hid (wx.heap[w.heap.size]? = some (.cells (fA .u8 N (fun _ => x) t) 5 (0, 0))) ∧ Hid (Below w.heap.size w wx))
      case atStart => exact ⟨0, by omega, rfl, H0, BA⟩
      case round =>
        obtain ⟨t, htg, rfl, HX, BX⟩ := hrel
        clear H0 BA
        cases gk with
        | zero =>
          obtain rfl : t = N := by omega
          have hge : ¬ (t : Int) < (t : Int) := by omega
          have hlen : (List.replicate t x).length = t := List.length_replicate
          have hby : By (List.replicate t x) := fun y hy => by simp at hy; omega
          have htx : TextAt wr (some ⟨w.heap.size, 0, none⟩) (List.replicate t x) := .inr ⟨w.heap.size, 0, rfl, lt_of_block HX.out, fun i hi => by
            rw [hlen] at hi
            rw [Nat.zero_add, cells_of HX.out, fA_at .u8 _ hi hi]
            simp [hi]⟩
          have HP : ∀ W, Below wr.heap.size wr W → Hid (Calls Try.prog 8 #[.slice (some ⟨w.heap.size, 0, none⟩) t t] W fun e w' => e = .returned (.agg (oA (sum (List.replicate t x)) 20)) ∧ Below W.heap.size W w') := fun W k => by
            have := sum_c (some ⟨w.heap.size, 0, none⟩) t (List.replicate t x) W hby (htx.below k) (by rw [hlen]; exact Nat.le_refl _) (by omega) (by rw [hlen]; omega)
            rw [hlen] at this
            exact this
          have HQ : ∀ W, Below wr.heap.size wr W → Hid (Calls Try.prog 9 #[.slice (some ⟨w.heap.size, 0, none⟩) t t] W fun e w' => e = .returned (.agg (oA (sum (List.replicate t x)) 20)) ∧ Below W.heap.size W w') := fun W k => by
            have := rsum_c (some ⟨w.heap.size, 0, none⟩) t (List.replicate t x) W hby (htx.below k) (fun e => by cases e) (by rw [hlen]; omega)
            rw [hlen] at this
            exact this
          have heq := fun W => eq20 (sum (List.replicate t x)) W
          generalize oA (sum (List.replicate t x)) 20 = oc at HP HQ heq
          clear hlen hby htx
          go_wp2_with (first
            | (go_at_call 7; refine (alive_c _).mono ?_; rintro e w2 ⟨rfl, b2⟩; have B2 := hide b2; clear b2)
            | (go_at_call 8; refine (HP _ B2.out).out.mono ?_; rintro e w3 ⟨rfl, b3⟩; have B3 := hide (B2.out.trans (b3.mono B2.out.size)); clear b3)
            | (go_at_call 9; refine (HQ _ B3.out).out.mono ?_; rintro e w4 ⟨rfl, b4⟩; have B4 := hide (B3.out.trans (b4.mono B3.out.size)); clear b4))
          go_ret
          exact ⟨rfl, BX.out.trans (B4.out.mono BX.out.size)⟩
        | succ g1 =>
          have hlt : (t : Int) < (N : Int) := by omega
          have hcl := (cells_of HX.out t).trans (fA_not .u8 _ (show t < N by omega))
          have hfr := free_of HX.out t
          have hset : Hid ((wr.setCell ⟨w.heap.size, t, none⟩ (.int .u8 (x : Int))).heap[w.heap.size]? = some (.cells (fA .u8 N (fun _ => x) (t + 1)) 5 (0, 0))) := by
            rw [set_of HX.out]
            have := fA_set .u8 (fun _ => x) (show t < N by omega)
            rw [← this]
            exact rfl
          have BS := hide (BX.out.setCell (p := ⟨w.heap.size, t, none⟩) (Nat.le_refl _) (.int .u8 (x : Int)))
          go_wp2_with fail
          go_roundg g1
          case measure => omega
          case rel => exact ⟨t + 1, by omega, by go_num, hset, BS⟩
end Go.Proofs.Ytlbigbljioffjaa.S
