/- The law on bytes alone: walked. -/
import Derived.Test.YtofcpnehnpopaaaMOpen
namespace Go.Proofs.Ytofcpnehnpopaaa
set_option maxRecDepth 100000
open Go Go.RowKit

set_option maxHeartbeats 4000000 in
theorem bytes_walk (a : Option Addr) (cap : Nat) (zs : List Int) (lv : Int) (w : World) (h : BIn w a cap zs) (hl : zs.length ≤ 1048576) :
    Calls Try.prog 5 #[.slice a zs.length cap, .int .i64 lv] w (Yes w) := by
  have HT := hide h.by_
  obtain ⟨lw, hlw, hl0⟩ : ∃ lw : Int, (if 0 < lv then 0 else lv) = lw ∧ lw < 1 := ⟨_, rfl, by split <;> omega⟩
  have HF : Hid (Calls Try.prog 14 #[.slice a zs.length cap, .int .i64 lw] w fun e w' => ∃ a1 c1, e = .returned (.slice a1 zs.length c1) ∧ Toks w' a1 (alT zs) ∧ Below w.heap.size w w') := (find_c a cap zs lw w h.by_ (by omega) h.cap_ h.most).mono fun e w' ⟨a1, c1, xs, he, ho, hb, h0, _⟩ => by
    obtain rfl := h0 hl0
    obtain ⟨_, _, hv, htk, _, _, _⟩ := ho.form
    simp only [Value.slice.injEq] at hv
    obtain ⟨rfl, _, rfl⟩ := hv
    rw [alT_length] at he
    exact ⟨_, _, he, htk, hb⟩
  clear h hl0
  go_enter Try.func5, Try.ntmps5
  go_wp2_with (go_at_call 14; refine HF.out.mono ?_; rintro e w1 ⟨a1, c1, rfl, k1, k2⟩; have T1 := hide k1; have B1 := hide k2; clear k1 k2 HF)
  go_loopg [6, 7, 19] zs.length (fun gk v6 v7 v19 wx => ∃ i : Nat, i + gk = zs.length ∧ v19 = .int .i64 i ∧ Hid (Below w1.heap.size w1 wx))
  case atStart => exact ⟨0, by omega, rfl, Below.refl _ _⟩
  case round =>
    obtain ⟨i, hig, rfl, HB⟩ := hrel
    have BW : Hid (Below w.heap.size w wr) := B1.out.trans (HB.out.mono B1.out.size)
    cases gk with
    | zero =>
      have hge : ¬ (i : Int) < (zs.length : Int) := by omega
      go_wp2_with (go_at_call 9; refine (alive_c _).mono ?_; rintro e w4 ⟨rfl, b4⟩)
      go_ret
      exact ⟨rfl, BW.out.trans (b4.mono BW.out.size)⟩
    | succ g1 =>
      have hlt : (i : Int) < (zs.length : Int) := by omega
      obtain ⟨b, off, rfl, hbl, c0, c1', c2⟩ := T1.out.three HB.out (i := i) (by rw [alT_length]; omega)
      rw [alT_at zs (by omega)] at c0 c1' c2
      simp only at c0 c1' c2
      have hdc : ∃ b2 off2, a = some ⟨b2, off2, none⟩ ∧ b2 < w.heap.size ∧ wr.cell? ⟨b2, off2 + i, none⟩ = some (.int .u8 (ln zs i)) := by
        rcases HT.out.at_ with h' | ⟨b2, off2, h1, ha, hc⟩
        · omega
        · exact ⟨b2, off2, ha, h1, (BW.out.cell (p := ⟨b2, off2 + i, none⟩) h1).trans (hc i (by omega))⟩
      obtain ⟨b2, off2, rfl, hb2, hc2⟩ := hdc
      have hsz := BW.out.size
      have hb2' : b2 < wr.heap.size := by omega
      generalize ln zs i = X at c0 hc2
      have HEND : Hid (∀ n, Below w1.heap.size w1 ((wr.alloc (tO (X, 0, 0))).drewN n)) := fun n => by
        have := HB.out.alloc HB.out.size (tO (X, 0, 0))
        exact ⟨this.os, this.tape, this.output, this.size, this.block⟩
      go_upto_region 7 with fail
      go_quiet (fail)
      go_wp2_with fail
      go_roundg g1
      case measure => omega
      case rel => exact ⟨i + 1, by omega, by go_num, HEND.out nq⟩
end Go.Proofs.Ytofcpnehnpopaaa
