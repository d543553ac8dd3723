/- The law that Seal tells what the reference tells: walked. -/
import Derived.Test.YtgamfpgejkhbcaaDoorNSame
namespace Go.Proofs.YtgamfpgejkhbcaaDoor.S
set_option maxRecDepth 100000
open Go Go.RowKit

set_option maxHeartbeats 4000000 in
theorem counterSeals_walk (cs : Array Value) (s : Int) (a1 : Option Addr) (c1 : Nat) (y1 : List Nat) (a2 : Option Addr) (c2 : Nat) (y2 : List Nat) (a3 : Option Addr) (c3 : Nat) (y3 : List Nat) (w : World) (h : CaseIn w cs s a1 c1 y1 a2 c2 y2 a3 c3 y3) (hT : K.Tab w) :
    Calls Tryd.prog 4 #[.agg cs] w (Yes w) := by
  obtain ⟨rfl, t1, t2, t3, l1, l2, l3⟩ := h
  have BA := hide ((Below.refl _ w).alloc (Nat.le_refl _) (.cells #[.int .i64 s, .slice a1 y1.length c1, .slice a2 y2.length c2, .slice a3 y3.length c3] 29) : Below w.heap.size w _)
  have R0 := heap_new w (.cells #[.int .i64 s, .slice a1 y1.length c1, .slice a2 y2.length c2, .slice a3 y3.length c3] 29)
  have q0 := cells_of R0 0
  have q1 := cells_of R0 1
  have q2 := cells_of R0 2
  have q3 := cells_of R0 3
  simp only [List.getElem?_toArray, List.getElem?_cons_zero, List.getElem?_cons_succ] at q0 q1 q2 q3
  have hT0 := hT.stay BA.out
  have HT0 := hide hT0
  have T1 := t1.below BA.out
  have T2 := t2.below BA.out
  have T3 := t3.below BA.out
  have hlt : w.heap.size < (w.alloc (.cells #[.int .i64 s, .slice a1 y1.length c1, .slice a2 y2.length c2, .slice a3 y3.length c3] 29)).heap.size := by simp
  by_cases hs : y1.length ≤ 2000 ∧ y3.length ≤ 2000
  · have HSH := hide (short_yes a1 a3 y1.length c1 y3.length c3 (w.alloc (.cells #[.int .i64 s, .slice a1 y1.length c1, .slice a2 y2.length c2, .slice a3 y3.length c3] 29)) hs.1 hs.2)
    obtain ⟨zs, er, HP, HR⟩ : ∃ zs er, Hid (Calls Tryd.prog 13 #[.int .i64 s, .slice a1 y1.length c1, .slice a2 y2.length c2, .slice a3 y3.length c3] (w.alloc (.cells #[.int .i64 s, .slice a1 y1.length c1, .slice a2 y2.length c2, .slice a3 y3.length c3] 29)) (TelRes zs er (w.alloc (.cells #[.int .i64 s, .slice a1 y1.length c1, .slice a2 y2.length c2, .slice a3 y3.length c3] 29)))) ∧ Hid (∀ W, Below (w.alloc (.cells #[.int .i64 s, .slice a1 y1.length c1, .slice a2 y2.length c2, .slice a3 y3.length c3] 29)).heap.size (w.alloc (.cells #[.int .i64 s, .slice a1 y1.length c1, .slice a2 y2.length c2, .slice a3 y3.length c3] 29)) W → Calls Tryd.prog 14 #[.int .i64 s, .slice a1 y1.length c1, .slice a2 y2.length c2, .slice a3 y3.length c3] W (TelRes zs er W)) := by
      by_cases hk : kbs s = 0 ∨ 2 * y2.length ≠ kbs s
      · refine ⟨[], 130, hide ?_, hide fun W hb => ?_⟩
        · refine (seal_no s a1 a2 a3 y1.length c1 y2.length c2 y3.length c3 (w.alloc (.cells #[.int .i64 s, .slice a1 y1.length c1, .slice a2 y2.length c2, .slice a3 y3.length c3] 29)) hk).mono ?_
          rintro e w' ⟨rfl, rfl⟩
          exact TelRes.none (Below.refl _ _)
        · refine (rseal_no s a1 a2 a3 y1.length c1 y2.length c2 y3.length c3 W hk l2).mono ?_
          rintro e w' ⟨rfl, rfl⟩
          exact TelRes.none (Below.refl _ _)
      · obtain ⟨n, hn, hkn⟩ : ∃ n, (n = 4 ∨ n = 6 ∨ n = 8) ∧ kbs s = 4 * n := by
          rcases kbs_cases s with h0 | h0
          · exact absurd (.inl h0) hk
          · exact h0
        have hsl : y2.length = 2 * n := by omega
        refine ⟨sealL (kyL y1 y2 (4 * n)) y2 n y3, 0, hide ?_, hide fun W hb => ?_⟩
        · refine (seal_c s n a1 a2 a3 c1 c2 c3 y1 y2 y3 (w.alloc (.cells #[.int .i64 s, .slice a1 y1.length c1, .slice a2 y2.length c2, .slice a3 y3.length c3] 29)) hn hkn T1.by_ T1.text T1.cap_ T1.most (by omega) T2.by_ T2.text T2.nil hsl T3.by_ T3.text (by omega) hT0).mono ?_
          rintro e w' ⟨v, rfl, ho, hb⟩
          exact TelRes.own ho hb
        · refine (rseal_c s n a1 a2 a3 c1 c2 c3 y1 y2 y3 W hn hkn T1.by_ (T1.text.below hb) T1.nil (by omega) T2.by_ (T2.text.below hb) T2.nil hsl T3.by_ (T3.text.below hb) (by omega)).mono ?_
          rintro e w' ⟨v, rfl, ho, hb2⟩
          exact TelRes.own ho hb2
    generalize y1.length = N1 at *
    generalize y2.length = N2 at *
    generalize y3.length = N3 at *
    clear hT hT0 R0 T1 T2 T3 t1 t2 t3 l1 l2 l3 hs
    obtain ⟨Z, hZ⟩ : ∃ Z, Z = zs.length := ⟨_, rfl⟩
    have HZ := hide hZ
    clear hZ
    go_enter Tryd.func4, Tryd.ntmps4
    go_upto_region 4 with (first
      | (go_at_call 9; refine HSH.out.mono ?_; rintro e wq ⟨rfl, hw⟩; obtain rfl := hw.symm; clear HSH)
      | (go_at_call 13; refine HP.out.mono ?_; rintro e w1 ⟨x1, k1, rfl, p1, b1⟩; have P1 := hide p1; have B1 := hide b1; clear b1 p1 HP))
    have HR1 := hide (HR.out w1 B1.out)
    have d0 := (B1.out.cell (p := ⟨w.heap.size, 0, none⟩) hlt).trans q0
    have d1 := (B1.out.cell (p := ⟨w.heap.size, 1, none⟩) hlt).trans q1
    have d2 := (B1.out.cell (p := ⟨w.heap.size, 2, none⟩) hlt).trans q2
    have d3 := (B1.out.cell (p := ⟨w.heap.size, 3, none⟩) hlt).trans q3
    clear q0 q1 q2 q3
    clear HR
    go_upto_region 5 with (go_at_call 14; refine HR1.out.mono ?_; rintro e w2 ⟨x2, k2, rfl, p2, b2⟩; have P2 := hide p2; have B2 := hide b2; clear b2 p2 HR1)
    have BB2 := hide (BA.out.trans ((B1.out.trans (B2.out.mono B1.out.size)).mono BA.out.size))
    have HV1 := fun W (k : Below w2.heap.size w2 W) => hide (conv_at (cap := k1) ((P1.out.below B2.out).below k))
    have HV2 := fun W (k : Below w2.heap.size w2 W) => hide (conv_at (cap := k2) (P2.out.below k))
    rw [← HZ.out] at HV1 HV2 ⊢
    generalize strOfNums (zs.map fun (x : Nat) => (x : Int)) = S at HV1 HV2
    have HT2 := hide (HT0.out.stay (B1.out.trans (B2.out.mono B1.out.size)))
    clear P1 P2 B1 B2 HZ HT0
    go_wp2_with (go_at_call 10; refine (alive_c _ HT2.out).mono ?_; rintro e w3 ⟨rfl, b3⟩; have B3 := hide (BB2.out.trans (b3.mono BB2.out.size)); have hv1 := (HV1 w3 b3).out; have hv2 := (HV2 w3 b3).out; clear b3)
    go_ret
    exact ⟨rfl, B3.out⟩
  · have HSH := hide (short_no a1 a3 y1.length c1 y3.length c3 (w.alloc (.cells #[.int .i64 s, .slice a1 y1.length c1, .slice a2 y2.length c2, .slice a3 y3.length c3] 29)) hs)
    generalize y1.length = N1 at *
    generalize y2.length = N2 at *
    generalize y3.length = N3 at *
    clear hT hT0 R0 T1 T2 T3 t1 t2 t3 l1 l2 l3 hs
    go_enter Tryd.func4, Tryd.ntmps4
    go_wp2_with (first
      | (go_at_call 9; refine HSH.out.mono ?_; rintro e wq ⟨rfl, hw⟩; obtain rfl := hw.symm; clear HSH)
      | (go_at_call 10; refine (alive_c _ HT0.out).mono ?_; rintro e w3 ⟨rfl, b3⟩; have B3 := hide (BA.out.trans (b3.mono BA.out.size)); clear b3))
    go_ret
    exact ⟨rfl, B3.out⟩
end Go.Proofs.YtgamfpgejkhbcaaDoor.S
