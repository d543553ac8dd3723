/- The law on what stays as it was: walked. -/
import Derived.Test.YtofcpnehnpopaabMFinds0
import Derived.Test.YtofcpnehnpopaabMSame
import Derived.Test.YtofcpnehnpopaabMCutP
namespace Go.Proofs.Ytofcpnehnpopaab
set_option maxRecDepth 100000
open Go Go.RowKit

theorem cutR_bd {k : Nat} (hk : 1 ≤ k) : ∀ (n : Nat) (xs : List Tk), xs.length ≤ n → (cutR k xs).length ≤ xs.length ∧ ∀ r ∈ cutR k xs, r.length ≤ xs.length := by
  intro n
  induction n with
  | zero => intro xs h; have : xs = [] := List.eq_nil_of_length_eq_zero (by omega); subst this; rw [cutR_nil]; simp
  | succ n ih =>
    intro xs h
    by_cases h0 : xs = []
    · subst h0; rw [cutR_nil]; simp
    · have hp := List.length_pos_iff.2 h0
      obtain ⟨i1, i2⟩ := ih (xs.drop k) (by rw [List.length_drop]; omega)
      rw [List.length_drop] at i1 i2
      rw [cutR_cons hk h0]
      refine ⟨by rw [List.length_cons]; omega, fun r hr => ?_⟩
      rcases List.mem_cons.1 hr with rfl | hr
      · rw [List.length_take]; omega
      · have := i2 r hr; omega
theorem cut_bd (many : Int) (xs : List Tk) : (cutR (rowLen many xs.length) xs).length ≤ xs.length ∧ ∀ i, (rw_ (cutR (rowLen many xs.length) xs) i).length ≤ xs.length := by
  by_cases h0 : xs = []
  · subst h0
    rw [cutR_nil]
    simp [rw_]
  · have hp := List.length_pos_iff.2 h0
    have hk : 1 ≤ rowLen many xs.length := by unfold rowLen; split <;> omega
    obtain ⟨h1, h2⟩ := cutR_bd hk xs.length xs (Nat.le_refl _)
    refine ⟨h1, fun i => ?_⟩
    unfold rw_ List.getD
    cases e : (cutR (rowLen many xs.length) xs)[i]? with
    | none => simp
    | some r => exact h2 r (List.mem_of_getElem? e)
/-- Rows that may be written into. -/
structure RowsW (lo : Nat) (w : World) (v : Value) (R : List (List Tk)) (vs : List Value) : Prop where
  own : w.ownsRow lo 24 1 v R.length vs
  rows : ∀ i, i < R.length → ∃ a c, vw vs i = .slice a (rw_ R i).length c ∧ (0 < (rw_ R i).length → ∃ g cs, a = some ⟨g, 0, none⟩ ∧ lo ≤ g ∧ w.heap[g]? = some (.cells cs 29 (0, 0)) ∧ (rw_ R i).length * 3 ≤ cs.size)
theorem RowsT.w {lo : Nat} {w : World} {v : Value} {R : List (List Tk)} {vs : List Value} (h : RowsT lo w v R vs) : RowsW lo w v R vs := by
  refine ⟨h.own, fun i hi => ?_⟩
  have ho := h.rows i hi
  rcases ho.2 with ⟨hv, h2⟩ | ⟨g, cap, cur, hv, hg, hh, hc1, hc2, hc3, hc4⟩
  · exact ⟨none, 0, by rw [hv, h2], fun h => by omega⟩
  · exact ⟨_, cap, hv, fun _ => ⟨g, cur, rfl, hg, hh, by rw [hc3]; omega⟩⟩
theorem RowsW.set {lo : Nat} {w : World} {v : Value} {R : List (List Tk)} {vs : List Value} (h : RowsW lo w v R vs) {g : Nat} {cs : Array Value} (hg : w.heap[g]? = some (.cells cs 29 (0, 0))) (j : Nat) (u : Value) : RowsW lo (w.setCell ⟨g, j, none⟩ u) v R vs := by
  have hk : Kept (fun b => b = g) w (w.setCell ⟨g, j, none⟩ u) := Kept.setCell (M := fun b => b = g) (Kept.refl _ w) (fun _ => rfl) _
  refine ⟨ownsRow_kept h.own hk (fun x hx e => ?_), fun i hi => ?_⟩
  · subst e; exact ownsRow_apart h.own hg (by decide) hx
  · obtain ⟨a, c, hv, hr⟩ := h.rows i hi
    refine ⟨a, c, hv, fun h0 => ?_⟩
    obtain ⟨g', cs', ha, hl, hh, hs⟩ := hr h0
    by_cases e : g' = g
    · subst e
      rw [hg] at hh
      simp at hh
      subst hh
      exact ⟨g', _, ha, hl, set_of hg j u, by simpa using hs⟩
    · exact ⟨g', cs', ha, hl, hk.heap hh e, hs⟩
theorem RowsW.form {lo : Nat} {w : World} {v : Value} {R : List (List Tk)} {vs : List Value} (h : RowsW lo w v R vs) : ∃ a cap, v = .slice a R.length cap ∧ (∀ i, i < R.length → ∃ g, a = some ⟨g, 0, none⟩ ∧ g < w.heap.size ∧ w.cell? ⟨g, i, none⟩ = some (vw vs i)) := by
  have hl : vs.length = R.length := by have := h.own.1; omega
  rcases h.own.2 with ⟨rfl, h2⟩ | ⟨g, cap, cur, rfl, hg, hh, hr⟩
  · exact ⟨none, 0, by rw [h2], fun i hi => by omega⟩
  · refine ⟨_, _, rfl, fun i hi => ⟨g, rfl, lt_of_block hh, ?_⟩⟩
    rw [World.ownsRow.cellAt h.own i (by omega)]
    simp [vw, List.getD, hl, hi]
theorem some_cell {w : World} {g : Nat} {cs : Array Value} {t : TypeId} (h : w.heap[g]? = some (.cells cs t (0, 0))) {j : Nat} (hj : j < cs.size) : ∃ u, w.cell? ⟨g, j, none⟩ = some u := by
  rw [cells_of h]; exact ⟨_, Array.getElem?_eq_getElem hj⟩

set_option maxHeartbeats 8000000 in
theorem keeps_walk (a : Option Addr) (cap : Nat) (zs : List Int) (lv many : Int) (w : World) (h : BIn w a cap zs) :
    Calls Try.prog 3 #[.slice a zs.length cap, .int .i64 lv, .int .i64 many] w (Yes w) := by
  by_cases hl : 3000 < zs.length
  case pos =>
    have hl' : (3000 : Int) < (zs.length : Int) := by omega
    clear h hl
    go_enter Try.func3, Try.ntmps3
    go_wp2_with (go_at_call 5; refine (alive_c _).mono ?_; rintro e w1 ⟨rfl, b1⟩)
    go_ret
    exact ⟨rfl, b1⟩
  have hl' : ¬ (3000 : Int) < (zs.length : Int) := by omega
  have HF := hide ((find_c a cap zs lv w h.by_ (by omega) h.cap_ h.most).mono fun _ _ k => k.all h.by_.rng)
  obtain ⟨S, hS⟩ : ∃ S, strOfNums zs = S := ⟨_, rfl⟩
  have HCV : Hid (∀ W, Below w.heap.size w W → (convert 22 9 (.slice a zs.length cap)).run Try.prog W = .ok (.string S) W) := fun W hW => by rw [← hS]; exact conv_bys (h.by_.stay hW)
  have hcv0 := HCV.out w (Below.refl _ _)
  clear h hS
  go_enter Try.func3, Try.ntmps3
  go_upto_region 5 with (go_at_call 6; refine HF.out.mono ?_; rintro e w1 ⟨a1, c1, xs, rfl, k1, k2, _, _, _, k6, _, k8⟩; have T1 := hide k1; have B1 := hide k2; have O1 := hide k8; have hn := k6; clear k1 k2 k6 k8 HF)
  clear hcv0
  have hsz1 := B1.out.size
  obtain ⟨_, _, hv1, _, _, hnil, hcap1⟩ := O1.out.form
  simp only [Value.slice.injEq] at hv1
  obtain ⟨rfl, _, rfl⟩ := hv1
  have HNIL := hide hnil
  clear hnil
  have HCUT : Hid (∀ W, Below w1.heap.size w1 W → Calls Try.prog 7 #[.slice a1 xs.length c1, .int .i64 many] W (CutOk xs (rowLen many xs.length) W)) := fun W hW => cut_c a1 c1 xs many W (T1.out.stay hW) hcap1 (by omega)
  go_wp2_with (first
    | (at_builtin; refine wpList_appT _ rfl _ _ rfl w1.heap.size _ [] rfl (own_emptyT w1 (Nat.le_refl _)) a1 xs.length c1 rfl xs (T1.out.stay ((Below.refl _ w1).alloc (Nat.le_refl _) _)) HNIL.out rfl (by simp; omega) (by simp) ?_; intro a2 c2 w2 h2 g2; have O2 := hide h2; have B2 : Hid (Below w1.heap.size w1 w2) := ((Below.refl _ w1).alloc (Nat.le_refl _) _).grown g2 (by simp) (fun k e => (ownsRow_lt (own_emptyT w1 (Nat.le_refl _)) e).1); clear h2 g2)
    | (go_at_call 7; refine (HCUT.out w2 B2.out).mono ?_; rintro e w3 ⟨v3, vs, rfl, k1, k2⟩; have RW3 := hide k1.w; have B3 := hide k2; clear k1 k2; obtain ⟨a3, c3, rfl, _⟩ := RW3.out.form))
  rw [List.nil_append] at O2
  rw [show ([] : List Tk).length + xs.length = xs.length by simp] at O2
  obtain ⟨_, _, hv2, htk2, _, _, _⟩ := O2.out.form
  simp only [Value.slice.injEq] at hv2
  obtain ⟨rfl, _, rfl⟩ := hv2
  have T2 := hide htk2
  have T1' := hide (T1.out.stay B2.out)
  clear O1 O2 T1 htk2 HCUT HNIL
  have BW2 : Hid (Below w.heap.size w w2) := B1.out.trans (B2.out.mono B1.out.size)
  obtain ⟨hRl, hrl⟩ := cut_bd many xs
  have HRL := hide hrl
  clear hrl
  generalize cutR (rowLen many xs.length) xs = R at RW3 hRl HRL ⊢
  go_loopg [11, 12, 29, 35] R.length (fun gk v11 v12 v29 v35 wx => ∃ i : Nat, i + gk = R.length ∧ v29 = .int .i64 i ∧ Hid (RowsW w2.heap.size wx (.slice a3 R.length c3) R vs ∧ Below w2.heap.size w2 wx))
  case atStart => exact ⟨0, by omega, rfl, RW3.out, B3.out⟩
  case round =>
    clear RW3 B3
    obtain ⟨i, hig, rfl, HS⟩ := hrel
    cases gk with
    | zero =>
      have hge : ¬ (i : Int) < (R.length : Int) := by omega
      have HBX : Hid (Below w.heap.size w wr) := BW2.out.trans (HS.out.2.mono BW2.out.size)
      have HSM : Hid (∀ W, Below wr.heap.size wr W → Calls Try.prog 8 #[.slice a1 xs.length c1, .slice a2 xs.length c2] W fun e w' => e = .returned (.bool true) ∧ ∃ q, w' = W.drewN q) := fun W hW => by
        have bw : Below w2.heap.size w2 W := HS.out.2.trans (hW.mono HS.out.2.size)
        exact same_yes a1 a2 c1 c2 xs W (T1'.out.stay bw) (T2.out.stay bw) (by omega)
      go_wp2_with (first
        | (go_at_call 5; refine (alive_c _).mono ?_; rintro e w5 ⟨rfl, b5⟩; have B5 := hide b5; have hcv := HCV.out w5 (HBX.out.trans (b5.mono HBX.out.size)); clear b5)
        | (go_at_call 8; refine (HSM.out w5 B5.out).mono ?_; rintro e w6 ⟨rfl, q6, rfl⟩))
      go_ret
      have bf := HBX.out.trans (B5.out.mono HBX.out.size)
      exact ⟨rfl, bf.os, bf.tape, bf.output, bf.size, bf.block⟩
    | succ g1 =>
      have hlt : (i : Int) < (R.length : Int) := by omega
      obtain ⟨_, _, hv3, hcells⟩ := HS.out.1.form
      simp only [Value.slice.injEq] at hv3
      obtain ⟨rfl, _, rfl⟩ := hv3
      obtain ⟨g3, rfl, hg3, hc3⟩ := hcells i (by omega)
      obtain ⟨ar, cr, hvr, hrow⟩ := HS.out.1.rows i (by omega)
      rw [hvr] at hc3
      obtain ⟨N, hN⟩ : ∃ N, (rw_ R i).length = N := ⟨_, rfl⟩
      rw [hN] at hc3 hrow
      have HVR := hide hvr
      have HN := hide hN
      have hNl : N ≤ 3000 := by have := HRL.out i; rw [hN] at this; omega
      clear hcells hvr hrow hN
      go_wp2_with fail
      go_loopg [12, 35] N (fun g2 v12 v35 wx => ∃ j : Nat, j + g2 = N ∧ v35 = .int .i64 j ∧ Hid (RowsW w2.heap.size wx (.slice (some ⟨g3, 0, none⟩) R.length c3) R vs ∧ Below w2.heap.size w2 wx))
      case atStart => exact ⟨0, by omega, rfl, HS.out⟩
      case round =>
        obtain ⟨j, hjg, rfl, HJ⟩ := hrel
        cases gk with
        | zero =>
          have hge : ¬ (j : Int) < (N : Int) := by omega
          go_wp2_with fail
          go_roundg g1
          case measure => omega
          case rel => exact ⟨i + 1, by omega, by go_num, HJ.out⟩
        | succ g4 =>
          have hlt2 : (j : Int) < (N : Int) := by omega
          obtain ⟨ar', cr', hvr', hrow'⟩ := HJ.out.1.rows i (by omega)
          rw [HVR.out] at hvr'
          simp only [Value.slice.injEq] at hvr'
          obtain ⟨rfl, _, rfl⟩ := hvr'
          rw [HN.out] at hrow'
          obtain ⟨g, cs, rfl, hlo, hh, hcs⟩ := hrow' (by omega)
          obtain ⟨u0, d0⟩ := some_cell hh (j := j * 3) (by omega)
          obtain ⟨u1, d1⟩ := some_cell hh (j := j * 3 + 1) (by omega)
          obtain ⟨u2, d2⟩ := some_cell hh (j := j * 3 + 2) (by omega)
          have f0 := free_of hh (j * 3)
          have f1 := free_of hh (j * 3 + 1)
          have f2 := free_of hh (j * 3 + 2)
          have hgl := lt_of_block hh
          have HEND : Hid (RowsW w2.heap.size (((wr.setCell ⟨g, j * 3, none⟩ (.int .u8 0)).setCell ⟨g, j * 3 + 1, none⟩ (.int .i64 (-1))).setCell ⟨g, j * 3 + 2, none⟩ (.int .i64 0)) (.slice (some ⟨g3, 0, none⟩) R.length c3) R vs ∧ Below w2.heap.size w2 (((wr.setCell ⟨g, j * 3, none⟩ (.int .u8 0)).setCell ⟨g, j * 3 + 1, none⟩ (.int .i64 (-1))).setCell ⟨g, j * 3 + 2, none⟩ (.int .i64 0))) :=
            ⟨((HJ.out.1.set hh _ _).set (set_of hh _ _) _ _).set (set_of (set_of hh _ _) _ _) _ _, ((HJ.out.2.setCell hlo _).setCell hlo _).setCell hlo _⟩
          clear hrow' hh
          go_wp2_with fail
          go_roundg g4
          case measure => omega
          case rel => exact ⟨j + 1, by omega, by go_num, HEND.out⟩
end Go.Proofs.Ytofcpnehnpopaab
