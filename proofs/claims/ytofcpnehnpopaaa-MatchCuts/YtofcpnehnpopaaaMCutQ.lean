/- The reference's Cut: contract. -/
import Derived.Test.YtofcpnehnpopaaaMCutP
import Derived.Deep.AppendLies
namespace Go.Proofs.Ytofcpnehnpopaaa
set_option maxRecDepth 100000
open Go Go.RowKit

theorem OwnsT.low {w : World} {base base' : Nat} {v : Value} {L : List Tk} (h : OwnsT w base v L) (hb : base' ≤ base) : OwnsT w base' v L := by
  obtain ⟨h1, h2⟩ := h
  refine ⟨h1, ?_⟩
  rcases h2 with h2 | ⟨g, cap, cur, hv, hg, r⟩
  · exact .inl h2
  · exact .inr ⟨g, cap, cur, hv, by omega, r⟩
/-- Rows, the last one being made. -/
structure QSt (lo m : Nat) (w : World) (v : Value) (A : List (List Tk)) (B : List Tk) (us : List Value) (x : Value) : Prop where
  own : w.ownsRow lo 22 1 v (A.length + 1) (us ++ [x])
  init : ∀ i, i < A.length → OwnsT w lo (vw us i) (rw_ A i) ∧ ∀ g, (vw us i).ownBlock = some g → g < m
  last : OwnsT w m x B
  lom : lo ≤ m
  mle : m ≤ w.heap.size
/-- Rows so far. -/
def RQ (lo : Nat) (w : World) (v : Value) (R : List (List Tk)) : Prop := (R = [] ∧ v = .slice none 0 0) ∨ ∃ A B us x m, R = A ++ [B] ∧ QSt lo m w v A B us x
theorem QSt.ulen {lo m : Nat} {w : World} {v : Value} {A : List (List Tk)} {B : List Tk} {us : List Value} {x : Value} (h : QSt lo m w v A B us x) : us.length = A.length := by
  have := h.own.1
  simp at this
  omega
theorem QSt.rows {lo m : Nat} {w : World} {v : Value} {A : List (List Tk)} {B : List Tk} {us : List Value} {x : Value} (h : QSt lo m w v A B us x) : RowsT lo w v (A ++ [B]) (us ++ [x]) := by
  refine ⟨by rw [List.length_append, List.length_singleton]; exact h.own, fun i hi => ?_⟩
  rw [List.length_append, List.length_singleton] at hi
  by_cases e : i < A.length
  · rw [vw_left (by rw [h.ulen]; exact e), rw_left e]; exact (h.init i e).1
  · obtain rfl : i = A.length := by omega
    rw [rw_last, ← h.ulen, vw_last]; exact h.last.low h.lom
theorem RQ.rows {lo : Nat} {w : World} {v : Value} {R : List (List Tk)} (h : RQ lo w v R) : ∃ vs, RowsT lo w v R vs := by
  rcases h with ⟨rfl, rfl⟩ | ⟨A, B, us, x, m, rfl, h⟩
  · exact ⟨[], RowsT.nil _ _⟩
  · exact ⟨_, h.rows⟩
/-- A new row, still empty. -/
theorem QSt.fresh {lo : Nat} {w w4 : World} {v v' : Value} {R : List (List Tk)} {vs : List Value} (h : RowsT lo w v R vs) (hlo : lo ≤ w.heap.size) (ho : w4.ownsRow lo 22 1 v' (R.length + 1) (vs ++ [.slice none 0 0])) (hg : w.grownBy w4 v.ownBlock) : QSt lo w.heap.size w4 v' R [] vs (.slice none 0 0) := by
  have hp := h.push (OwnsT.nil w lo) ho hg
  refine ⟨ho, fun i hi => ?_, OwnsT.nil _ _, hlo, hg.size⟩
  have := hp.rows i (by rw [List.length_append]; omega)
  rw [vw_left (by rw [h.len]; exact hi), rw_left hi] at this
  exact ⟨this, fun g hg' => (ownsRow_lt (h.rows i hi) hg').2⟩
theorem QSt.outer {lo m : Nat} {w : World} {v : Value} {A : List (List Tk)} {B : List Tk} {us : List Value} {x : Value} (h : QSt lo m w v A B us x) : ∃ g cap cur, v = .slice (some ⟨g, 0, none⟩) (A.length + 1) cap ∧ lo ≤ g ∧ w.heap[g]? = some (.cells cur 22 (0, 0)) ∧ w.cell? ⟨g, A.length, none⟩ = some x ∧ A.length < cur.size := by
  rcases h.own.2 with ⟨_, h2⟩ | ⟨g, cap, cur, rfl, hg, hh, hc1, hc2, hc3, hc4⟩
  · omega
  · refine ⟨g, cap, cur, rfl, hg, hh, ?_, by omega⟩
    rw [World.ownsRow.cellAt h.own A.length (by omega)]
    simp [← h.ulen]
/-- One token more in the last row: its slice is written anew. -/
theorem QSt.more {lo m : Nat} {w w0 w4 : World} {v x x' : Value} {A : List (List Tk)} {B B' : List Tk} {us : List Value} (h : QSt lo m w v A B us x) (hw : Below w.heap.size w w0) {g cap : Nat} {cur : Array Value} (hv : v = .slice (some ⟨g, 0, none⟩) (A.length + 1) cap) (hgb : w.heap[g]? = some (.cells cur 22 (0, 0)))
    (ho : OwnsT w4 m x' B') (hg : w0.grownBy w4 x.ownBlock) : QSt lo m (w4.setCell ⟨g, A.length, none⟩ x') v A B' us x' ∧ w4.heap[g]? = some (.cells cur 22 (0, 0)) := by
  have hk := Kept.of_grown hg
  have hz := hw.size
  have hl0 : OwnsT w0 m x B := h.last.stay hw
  have hgb0 : w0.heap[g]? = some (.cells cur 22 (0, 0)) := (hw.block g (lt_of_block hgb)).trans hgb
  have hgb4 : w4.heap[g]? = some (.cells cur 22 (0, 0)) := hk.heap hgb0 (fun e => ownsRow_apart hl0 hgb0 (by decide) e.symm)
  have hset : Kept (fun b => b = g) w4 (w4.setCell ⟨g, A.length, none⟩ x') := Kept.setCell (M := fun b => b = g) (Kept.refl _ w4) (fun _ => rfl) _
  have hap : ∀ y b q, OwnsT w4 b y q → OwnsT (w4.setCell ⟨g, A.length, none⟩ x') b y q := fun y b q hq => hq.kept hset (fun z hz e => by subst e; exact ownsRow_apart hq hgb4 (by decide) hz)
  refine ⟨⟨?_, fun i hi => ?_, hap _ _ _ ho, h.lom, by simp [World.setCell]; have := hg.size; have := h.mle; omega⟩, hgb4⟩
  · have hul := h.ulen
    rcases h.own.2 with ⟨_, h2⟩ | ⟨g', cap', cur', hv', hg', hh, hc1, hc2, hc3, hc4⟩
    · omega
    · rw [hv] at hv'
      simp at hv'
      obtain ⟨rfl, rfl⟩ := hv'
      rw [hgb] at hh
      simp at hh
      subst hh
      refine ⟨by simp [hul], .inr ⟨g, cap, _, hv, hg', set_of hgb4 _ _, hc1, hc2, by simpa using hc3, ?_⟩⟩
      have e : cur.toList.take ((A.length + 1) * 1) = us ++ [x] := hc4
      rw [Nat.mul_one] at e ⊢
      rw [Array.toList_setIfInBounds, List.take_set, e, List.set_append_right _ _ (by omega), hul, Nat.sub_self]
      rfl
  · obtain ⟨q1, q2⟩ := h.init i hi
    refine ⟨hap _ _ _ ((q1.stay hw).kept hk (fun z hz e => ?_)), q2⟩
    have h1 := q2 z hz
    have h2 := (ownsRow_lt h.last e.symm).1
    omega

theorem mod_row {i n : Nat} {many : Int} (hi : i < n) (h0 : 0 < i) (hm : 1 ≤ many) : ((i : Int) % many = 0 ↔ i % rowLen many n = 0) := by
  unfold rowLen
  rw [if_neg (by omega)]
  obtain ⟨M, rfl⟩ : ∃ M : Nat, many = M := ⟨many.toNat, by omega⟩
  rw [Int.toNat_natCast]
  have e : (i : Int) % (M : Int) = ((i % M : Nat) : Int) := by simp
  rw [e]
  by_cases h : M ≤ n
  · rw [Nat.min_eq_left h]; omega
  · rw [Nat.min_eq_right (by omega), Nat.mod_eq_of_lt (show i < M by omega), Nat.mod_eq_of_lt hi]; omega
theorem mod_one {i n : Nat} {many : Int} (hi : i < n) (h0 : 0 < i) (hm : many < 1) : ¬ i % rowLen many n = 0 := by
  unfold rowLen
  rw [if_pos hm, Nat.mod_eq_of_lt hi]
  omega

set_option maxHeartbeats 8000000 in
theorem qcut_c (a : Option Addr) (cap : Nat) (xs : List Tk) (many : Int) (w : World) (h : Toks w a xs) (hl : xs.length ≤ 1000000) :
    Calls Try.prog 18 #[.slice a xs.length cap, .int .i64 many] w (CutOk xs (rowLen many xs.length) w) := by
  obtain ⟨i1, hi1, hy0, hy1', hy2'⟩ := info_parts Try.infoToks
  obtain ⟨j1, hj1, hj0, hj1', hj2'⟩ := info_parts Try.infoTok
  have HT := hide h
  clear h
  go_enter Try.func18, Try.ntmps18
  go_wp2_with fail
  go_loopg [5, 6, 7] xs.length (fun gk v5 v6 v7 wx => ∃ (i : Nat) (R : List (List Tk)) (a5 : Option Addr) (c5 : Nat), i + gk = xs.length ∧ v5 = .slice a5 R.length c5 ∧ v6 = .int .i64 i ∧ R.length ≤ i ∧ Hid (RQ w.heap.size wx (.slice a5 R.length c5) R ∧ R = cutR (rowLen many xs.length) (xs.take i) ∧ Below w.heap.size w wx))
  case atStart => exact ⟨0, [], none, 0, by omega, rfl, rfl, by simp, .inl ⟨rfl, rfl⟩, by simp [cutR_nil], Below.refl _ _⟩
  case round =>
    obtain ⟨i, R, a5, c5, hig, rfl, rfl, hRi, HS⟩ := hrel
    cases gk with
    | zero =>
      obtain rfl : i = xs.length := by omega
      go_wp2_with fail
      go_ret
      obtain ⟨vs, hvs⟩ := HS.out.1.rows
      have e := HS.out.2.1
      rw [List.take_length] at e
      exact ⟨_, vs, rfl, by rw [← e]; exact hvs, HS.out.2.2⟩
    | succ g1 =>
      have hlt : (i : Int) < (xs.length : Int) := by omega
      have hk1 : 1 ≤ rowLen many xs.length := by unfold rowLen; split <;> omega
      have hsn := cutR_snoc hk1 (tk xs i) (xs.take i).length (xs.take i) (Nat.le_refl _)
      rw [← tk_take_snoc (by omega), ← HS.out.2.1, List.length_take, Nat.min_eq_left (by omega)] at hsn
      have HSN := hide hsn
      have hszw := HS.out.2.2.size
      clear hsn
      by_cases hnew : i % rowLen many xs.length = 0
      case pos =>
        have hcut := HSN.out.1 hnew
        have HCUT := hide hcut
        obtain ⟨vs, hvs⟩ := HS.out.1.rows
        have HRV := hide hvs
        have HBW := hide HS.out.2.2
        have HOWN : Hid ((wr.alloc (.cells #[.slice none 0 0] 22)).ownsRow w.heap.size 22 1 (.slice a5 R.length c5) R.length vs) := World.ownsRow.alloc hvs.own _
        have HDEC : Hid (i = 0 ∨ (0 < i ∧ 1 ≤ many ∧ (i : Int) % many = 0)) := hide (by
          by_cases c0 : i = 0
          · exact .inl c0
          · by_cases c1 : many < 1
            · exact absurd hnew (mod_one (by omega) (by omega) c1)
            · exact .inr ⟨by omega, by omega, (mod_row (by omega) (by omega) (by omega)).2 hnew⟩)
        have HNEW : Hid (∀ v4 w4, w4.ownsRow w.heap.size 22 1 v4 (R.length + 1) (vs ++ [.slice none 0 0]) → World.grownBy (wr.alloc (.cells #[.slice none 0 0] 22)) w4 (Value.slice a5 R.length c5).ownBlock → QSt w.heap.size (wr.alloc (.cells #[.slice none 0 0] 22)).heap.size w4 v4 R [] vs (.slice none 0 0) ∧ Below w.heap.size w w4) := fun v4 w4 q1 q2 => by
          have bb : Below wr.heap.size wr (wr.alloc (.cells #[.slice none 0 0] 22)) := (Below.refl _ wr).alloc (Nat.le_refl _) _
          exact ⟨QSt.fresh (HRV.out.stay bb) (by simp; omega) q1 q2, (HBW.out.alloc hszw _).grown q2 (by simp; omega) (fun g e => (ownsRow_lt HRV.out.own e).1)⟩
        clear hcut hvs HS HSN hnew
        rcases HDEC.out with hi0 | ⟨hi0, hm1, hmod⟩
        case inl =>
          have hd0 : ((i : Int) == 0) = true := by simp [hi0]
          clear hi0
          go_upto_region 8 with (at_builtin; refine wpList_append_own _ rfl _ _ 36 rfl w.heap.size 22 i1 (.slice none 0 0) 1 24 Try.underlying36 hi1 hy0 hy1' hy2' rfl (by decide) _ R.length vs rfl HOWN.out ⟨_, 0, none⟩ 1 1 [.slice none 0 0] rfl rfl (one_row _ _ _ (by simp)) (by intro u hu; simp at hu; subst hu; rfl) (by unfold maxLen; omega) (by omega) (by simp; omega) ?_; intro v4 w4 q1 q2 _; obtain ⟨a7, c7, rfl⟩ := own_form1 q1; have HP := hide (HNEW.out _ _ q1 q2); clear q1 q2)
          clear HNEW HOWN HRV HBW HDEC
          obtain ⟨W, hW⟩ : ∃ W, W = w4 := ⟨_, rfl⟩
          rw [← hW] at HP ⊢
          clear hW
          generalize (wr.alloc (.cells #[.slice none 0 0] 22)).heap.size = m at HP
          have HQ := hide HP.out.1
          have HBB := hide HP.out.2
          clear HP
          obtain ⟨RL, hRL⟩ : ∃ RL, R = RL := ⟨_, rfl⟩
          obtain ⟨X, hX⟩ : ∃ X : Value, Value.slice none 0 0 = X := ⟨_, rfl⟩
          obtain ⟨BB, hBB⟩ : ∃ BB : List Tk, ([] : List Tk) = BB := ⟨_, rfl⟩
          have hxl : ∃ ax cx, X = .slice ax BB.length cx := ⟨none, 0, by rw [← hX, ← hBB]; rfl⟩
          have HC2 : Hid (R ++ [BB ++ [tk xs i]] = cutR (rowLen many xs.length) (xs.take (i + 1))) := hide (by rw [← hBB, HCUT.out]; rfl)
          rw [hBB] at HQ
          rw [hX] at HQ
          clear hX hBB hRL HCUT
          obtain ⟨ax, cx, rfl⟩ := hxl
          obtain ⟨g5, cp5, cur, hv5, hlo5, hh5, hc5, hs5⟩ := HQ.out.outer
          simp only [Value.slice.injEq] at hv5
          obtain ⟨rfl, _, rfl⟩ := hv5
          obtain ⟨b, off, rfl, hbl, d0, d1, d2⟩ := HT.out.three HBB.out (i := i) (by omega)
          obtain ⟨t, ht⟩ : ∃ t, tk xs i = t := ⟨_, rfl⟩
          rw [ht] at d0 d1 d2 HC2
          obtain ⟨tb, tlg, tbk⟩ := t
          simp only at d0 d1 d2
          have hg5 := lt_of_block hh5
          have hBBl : BB.length ≤ 1000000 := by
            have h1 := HC2.out
            have h2 := cutR_flat (k := rowLen many xs.length) hk1 (xs.take (i + 1)).length (xs.take (i + 1)) (Nat.le_refl _)
            rw [← h1, List.flatten_append] at h2
            have h3 := congrArg List.length h2
            simp at h3
            omega
          have HMR : Hid (∀ a9 c9 w9, OwnsT w9 m (.slice a9 (BB.length + 1) c9) (BB ++ [(tb, tlg, tbk)]) → World.grownBy (W.drew.alloc (tO (tb, tlg, tbk))) w9 (Value.slice ax BB.length cx).ownBlock → QSt w.heap.size m (w9.setCell ⟨g5, R.length, none⟩ (.slice a9 (BB.length + 1) c9)) (.slice (some ⟨g5, 0, none⟩) (R.length + 1) c7) R (BB ++ [(tb, tlg, tbk)]) vs (.slice a9 (BB.length + 1) c9) ∧ w9.heap[g5]? = some (.cells cur 22 (0, 0)) ∧ Below w.heap.size w (w9.setCell ⟨g5, R.length, none⟩ (.slice a9 (BB.length + 1) c9))) := fun a9 c9 w9 q1 q2 => by
            have hw : Below W.heap.size W (W.drew.alloc (tO (tb, tlg, tbk))) := (Below.refl _ W).drew.alloc (Nat.le_refl _) _
            obtain ⟨z1, z2⟩ := HQ.out.more hw rfl hh5 q1 q2
            have hm1 := HQ.out.lom
            have hb := HBB.out.trans (hw.mono HBB.out.size)
            exact ⟨z1, z2, (hb.grown q2 hb.size (fun g e => by have := (ownsRow_lt HQ.out.last e).1; omega)).setCell hlo5 _⟩
          have HLO : Hid (∀ o, (W.drew.alloc o).ownsRow m 32 3 (.slice ax BB.length cx) BB.length (tc BB)) := fun o => HQ.out.last.stay ((Below.refl _ W).drew.alloc (Nat.le_refl _) _)
          have hmW := HQ.out.mle
          clear HQ HBB ht hh5
          have k0 : W.drew.cell? ⟨b, off + i * 3, none⟩ = some (.int .u8 tb) := d0
          have k1 : W.drew.cell? ⟨b, off + i * 3 + 1, none⟩ = some (.int .i64 tlg) := d1
          have k2 : W.drew.cell? ⟨b, off + i * 3 + 2, none⟩ = some (.int .i64 tbk) := d2
          have k5 : W.drew.cell? ⟨g5, R.length, none⟩ = some (.slice ax BB.length cx) := hc5
          have hbl' : b < W.drew.heap.size := hbl
          have hg5' : g5 < W.drew.heap.size := hg5
          have hmW' : m ≤ W.drew.heap.size := hmW
          obtain ⟨WD, hWD⟩ : ∃ WD, W.drew = WD := ⟨_, rfl⟩
          have i1' : (0 : Int) ≤ (R.length : Int) := by omega
          have i2' : (R.length : Int) < (R.length : Int) + 1 := by omega
          have i3' : (0 : Int) ≤ (i : Int) := by omega
          clear d0 d1 d2 hc5
          refine wp_region_any (by kernel_rfl) ?_
          change wpAny _ _ _ _ _ _ _ (World.drew _)
          rw [hWD] at k0 k1 k2 k5 hbl' hg5' hmW' HMR HLO ⊢
          clear hWD
          (refine wpAny_take (i := 0) (v := ?_) rfl (by kernel_rfl) (by kernel_rfl) (by kernel_rfl) (fun _ _ _ h => h) (Or.inl ⟨by rfl, ?_⟩) ?_; rotate_left; (intro w; go_simp); (try with_reducible rfl); try simp only [Act.put, List.getElem_toArray, List.getElem_cons_zero, List.setIfInBounds_toArray, List.set_cons_zero, List.set_cons_succ])
          (refine wpAny_take (i := 1) (v := ?_) rfl (by kernel_rfl) (by kernel_rfl) (by kernel_rfl) (fun _ _ _ h => h) (Or.inl ⟨by rfl, ?_⟩) ?_; rotate_left; (intro w; go_simp); (try with_reducible rfl); try simp only [Act.put, List.getElem_toArray, List.getElem_cons_zero, List.getElem_cons_succ, List.setIfInBounds_toArray, List.set_cons_zero, List.set_cons_succ])
          (refine wpAny_take (i := 2) (v := ?_) rfl (by kernel_rfl) (by kernel_rfl) (by kernel_rfl) (fun _ _ _ h => h) (Or.inl ⟨by rfl, ?_⟩) ?_; rotate_left; (intro w; go_simp); (try with_reducible rfl); try simp only [Act.put, List.getElem_toArray, List.getElem_cons_zero, List.getElem_cons_succ, List.setIfInBounds_toArray, List.set_cons_zero, List.set_cons_succ])
          (refine wpAny_take (i := 3) (v := ?_) rfl (by kernel_rfl) (by kernel_rfl) (by kernel_rfl) (fun _ _ _ h => h) (Or.inl ⟨by rfl, ?_⟩) ?_; rotate_left; (intro w; go_simp); (try with_reducible rfl); try simp only [Act.put, List.getElem_toArray, List.getElem_cons_zero, List.getElem_cons_succ, List.setIfInBounds_toArray, List.set_cons_zero, List.set_cons_succ])
          (refine wpAny_take (i := 4) (v := ?_) rfl (by kernel_rfl) (by kernel_rfl) (by kernel_rfl) (fun _ _ _ h => h) (Or.inl ⟨by rfl, ?_⟩) ?_; rotate_left; (intro w; go_simp); (try with_reducible rfl); try simp only [Act.put, List.getElem_toArray, List.getElem_cons_zero, List.getElem_cons_succ, List.setIfInBounds_toArray, List.set_cons_zero, List.set_cons_succ])
          (refine wpAny_take (i := 6) (v := ?_) rfl (by kernel_rfl) (by kernel_rfl) (by kernel_rfl) (fun _ _ _ h => h) (Or.inl ⟨by rfl, ?_⟩) ?_; rotate_left; (intro w; go_simp); (try with_reducible rfl); try simp only [Act.put, List.getElem_toArray, List.getElem_cons_zero, List.getElem_cons_succ, List.setIfInBounds_toArray, List.set_cons_zero, List.set_cons_succ])
          (refine wpAny_take (i := 7) (v := ?_) rfl (by kernel_rfl) (by kernel_rfl) (by kernel_rfl) (fun _ _ _ h => h) (Or.inl ⟨by rfl, ?_⟩) ?_; rotate_left; (intro w; go_simp); (try with_reducible rfl); try simp only [Act.put, List.getElem_toArray, List.getElem_cons_zero, List.getElem_cons_succ, List.setIfInBounds_toArray, List.set_cons_zero, List.set_cons_succ])
          (refine wpAny_take (i := 8) (v := ?_) rfl (by kernel_rfl) (by kernel_rfl) (by kernel_rfl) (fun _ _ _ h => h) (Or.inl ⟨by rfl, ?_⟩) ?_; rotate_left; (intro w; go_simp); (try with_reducible rfl); try simp only [Act.put, List.getElem_toArray, List.getElem_cons_zero, List.getElem_cons_succ, List.setIfInBounds_toArray, List.set_cons_zero, List.set_cons_succ])
          refine wpAny_ready (rs := [5, 9]) (by kernel_rfl) (by simp) ?_
          refine AllReady.cons rfl (fun K hK => ?_) (AllReady.cons rfl (fun K hK => ?_) (AllReady.nil))
          · go_simp
            try (refine hK _ _ ?_; clear hK K)
            try simp only [Act.put, List.getElem_toArray, List.getElem_cons_zero, List.getElem_cons_succ, List.setIfInBounds_toArray, List.set_cons_zero, List.set_cons_succ]
            refine wpAny_ready (rs := [9]) (by kernel_rfl) (by simp) ?_
            refine AllReady.cons rfl (fun K hK => ?_) AllReady.nil
            go_simp
            try (refine hK _ _ ?_; clear hK K)
            try simp only [Act.put, List.getElem_toArray, List.getElem_cons_zero, List.getElem_cons_succ, List.setIfInBounds_toArray, List.set_cons_zero, List.set_cons_succ]
            refine wpAny_ready (rs := [10]) (by kernel_rfl) (by simp) ?_
            refine AllReady.cons rfl (fun K hK => ?_) AllReady.nil
            go_simp
            try (refine hK _ _ ?_; clear hK K)
            try simp only [Act.put, List.getElem_toArray, List.getElem_cons_zero, List.getElem_cons_succ, List.setIfInBounds_toArray, List.set_cons_zero, List.set_cons_succ]
            refine wpAny_ready (rs := [11]) (by kernel_rfl) (by simp) ?_
            refine AllReady.cons rfl (fun K hK => ?_) AllReady.nil
            refine step_append_lies _ (by rfl) _ _ 22 (by rfl) m 32 j1 (.agg #[.int .u8 0, .int .i64 0, .int .i64 0]) 3 24 Try.underlying22 hj1 hj0 hj1' hj2' rfl (by omega) (.slice ax BB.length cx) BB.length (tc BB) (by rfl) (HLO.out _) ⟨WD.heap.size, 0, none⟩ 1 1 [.int .u8 tb, .int .i64 tlg, .int .i64 tbk] (by rfl) rfl (one_tok WD (tb, tlg, tbk) _ rfl) (by intro u hu; simp at hu; rcases hu with rfl | rfl | rfl <;> rfl) (by omega) (by unfold maxLen; omega) (by omega) (by simp; omega) (WD.heap.size + 1) (by simp) ?_; intro g9 c9 w9 hown hgrow hat hlt9; obtain ⟨z1, z2, z3⟩ := HMR.out (some ⟨g9, 0, none⟩) c9 w9 (OwnsT.push hown) hgrow; have Z1 := hide z1; have Z3 := hide z3; obtain ⟨u5, e5⟩ := some_cell z2 hs5; have f5 := free_of z2 R.length; have hz9 := lt_of_block z2; clear z1 z2 z3 hown hgrow hat hlt9
            try (refine hK _ _ ?_; clear hK K)
            try simp only [Act.put, List.getElem_toArray, List.getElem_cons_zero, List.getElem_cons_succ, List.setIfInBounds_toArray, List.set_cons_zero, List.set_cons_succ]
            (refine wpAny_take (i := 12) (v := ?_) rfl (by kernel_rfl) (by kernel_rfl) (by kernel_rfl) (fun _ _ _ h => h) (Or.inl ⟨by rfl, ?_⟩) ?_; rotate_left; (intro w; go_simp); (try with_reducible rfl); try simp only [Act.put, List.getElem_toArray, List.getElem_cons_zero, List.getElem_cons_succ, List.setIfInBounds_toArray, List.set_cons_zero, List.set_cons_succ])
            refine wpAny_ready (rs := [13]) (by kernel_rfl) (by simp) ?_
            refine AllReady.cons rfl (fun K hK => ?_) AllReady.nil
            go_simp
            try (refine hK _ _ ?_; clear hK K)
            try simp only [Act.put, List.getElem_toArray, List.getElem_cons_zero, List.getElem_cons_succ, List.setIfInBounds_toArray, List.set_cons_zero, List.set_cons_succ]
            refine wpAny_done (by kernel_rfl) ?_ _
            go_wp2_with fail
            go_roundg g1
            case measure => omega
            case rel => exact ⟨i + 1, R ++ [BB ++ [(tb, tlg, tbk)]], some ⟨g5, 0, none⟩, c7, by omega, by simp, by go_num, by simp; omega, .inr ⟨R, BB ++ [(tb, tlg, tbk)], _, _, m, rfl, by rw [List.length_append, List.length_singleton]; exact Z1.out⟩, HC2.out, Z3.out⟩
          · go_simp
            try (refine hK _ _ ?_; clear hK K)
            try simp only [Act.put, List.getElem_toArray, List.getElem_cons_zero, List.getElem_cons_succ, List.setIfInBounds_toArray, List.set_cons_zero, List.set_cons_succ]
            refine wpAny_ready (rs := [5, 10]) (by kernel_rfl) (by simp) ?_
            refine AllReady.cons rfl (fun K hK => ?_) (AllReady.cons rfl (fun K hK => ?_) (AllReady.nil))
            · go_simp
              try (refine hK _ _ ?_; clear hK K)
              try simp only [Act.put, List.getElem_toArray, List.getElem_cons_zero, List.getElem_cons_succ, List.setIfInBounds_toArray, List.set_cons_zero, List.set_cons_succ]
              refine wpAny_ready (rs := [10]) (by kernel_rfl) (by simp) ?_
              refine AllReady.cons rfl (fun K hK => ?_) AllReady.nil
              go_simp
              try (refine hK _ _ ?_; clear hK K)
              try simp only [Act.put, List.getElem_toArray, List.getElem_cons_zero, List.getElem_cons_succ, List.setIfInBounds_toArray, List.set_cons_zero, List.set_cons_succ]
              refine wpAny_ready (rs := [11]) (by kernel_rfl) (by simp) ?_
              refine AllReady.cons rfl (fun K hK => ?_) AllReady.nil
              refine step_append_lies _ (by rfl) _ _ 22 (by rfl) m 32 j1 (.agg #[.int .u8 0, .int .i64 0, .int .i64 0]) 3 24 Try.underlying22 hj1 hj0 hj1' hj2' rfl (by omega) (.slice ax BB.length cx) BB.length (tc BB) (by rfl) (HLO.out _) ⟨WD.heap.size, 0, none⟩ 1 1 [.int .u8 tb, .int .i64 tlg, .int .i64 tbk] (by rfl) rfl (one_tok WD (tb, tlg, tbk) _ rfl) (by intro u hu; simp at hu; rcases hu with rfl | rfl | rfl <;> rfl) (by omega) (by unfold maxLen; omega) (by omega) (by simp; omega) (WD.heap.size + 1) (by simp) ?_; intro g9 c9 w9 hown hgrow hat hlt9; obtain ⟨z1, z2, z3⟩ := HMR.out (some ⟨g9, 0, none⟩) c9 w9 (OwnsT.push hown) hgrow; have Z1 := hide z1; have Z3 := hide z3; obtain ⟨u5, e5⟩ := some_cell z2 hs5; have f5 := free_of z2 R.length; have hz9 := lt_of_block z2; clear z1 z2 z3 hown hgrow hat hlt9
              try (refine hK _ _ ?_; clear hK K)
              try simp only [Act.put, List.getElem_toArray, List.getElem_cons_zero, List.getElem_cons_succ, List.setIfInBounds_toArray, List.set_cons_zero, List.set_cons_succ]
              (refine wpAny_take (i := 12) (v := ?_) rfl (by kernel_rfl) (by kernel_rfl) (by kernel_rfl) (fun _ _ _ h => h) (Or.inl ⟨by rfl, ?_⟩) ?_; rotate_left; (intro w; go_simp); (try with_reducible rfl); try simp only [Act.put, List.getElem_toArray, List.getElem_cons_zero, List.getElem_cons_succ, List.setIfInBounds_toArray, List.set_cons_zero, List.set_cons_succ])
              refine wpAny_ready (rs := [13]) (by kernel_rfl) (by simp) ?_
              refine AllReady.cons rfl (fun K hK => ?_) AllReady.nil
              go_simp
              try (refine hK _ _ ?_; clear hK K)
              try simp only [Act.put, List.getElem_toArray, List.getElem_cons_zero, List.getElem_cons_succ, List.setIfInBounds_toArray, List.set_cons_zero, List.set_cons_succ]
              refine wpAny_done (by kernel_rfl) ?_ _
              go_wp2_with fail
              go_roundg g1
              case measure => omega
              case rel => exact ⟨i + 1, R ++ [BB ++ [(tb, tlg, tbk)]], some ⟨g5, 0, none⟩, c7, by omega, by simp, by go_num, by simp; omega, .inr ⟨R, BB ++ [(tb, tlg, tbk)], _, _, m, rfl, by rw [List.length_append, List.length_singleton]; exact Z1.out⟩, HC2.out, Z3.out⟩
            · go_simp
              try (refine hK _ _ ?_; clear hK K)
              try simp only [Act.put, List.getElem_toArray, List.getElem_cons_zero, List.getElem_cons_succ, List.setIfInBounds_toArray, List.set_cons_zero, List.set_cons_succ]
              refine wpAny_ready (rs := [5]) (by kernel_rfl) (by simp) ?_
              refine AllReady.cons rfl (fun K hK => ?_) AllReady.nil
              go_simp
              try (refine hK _ _ ?_; clear hK K)
              try simp only [Act.put, List.getElem_toArray, List.getElem_cons_zero, List.getElem_cons_succ, List.setIfInBounds_toArray, List.set_cons_zero, List.set_cons_succ]
              refine wpAny_ready (rs := [11]) (by kernel_rfl) (by simp) ?_
              refine AllReady.cons rfl (fun K hK => ?_) AllReady.nil
              refine step_append_lies _ (by rfl) _ _ 22 (by rfl) m 32 j1 (.agg #[.int .u8 0, .int .i64 0, .int .i64 0]) 3 24 Try.underlying22 hj1 hj0 hj1' hj2' rfl (by omega) (.slice ax BB.length cx) BB.length (tc BB) (by rfl) (HLO.out _) ⟨WD.heap.size, 0, none⟩ 1 1 [.int .u8 tb, .int .i64 tlg, .int .i64 tbk] (by rfl) rfl (one_tok WD (tb, tlg, tbk) _ rfl) (by intro u hu; simp at hu; rcases hu with rfl | rfl | rfl <;> rfl) (by omega) (by unfold maxLen; omega) (by omega) (by simp; omega) (WD.heap.size + 1) (by simp) ?_; intro g9 c9 w9 hown hgrow hat hlt9; obtain ⟨z1, z2, z3⟩ := HMR.out (some ⟨g9, 0, none⟩) c9 w9 (OwnsT.push hown) hgrow; have Z1 := hide z1; have Z3 := hide z3; obtain ⟨u5, e5⟩ := some_cell z2 hs5; have f5 := free_of z2 R.length; have hz9 := lt_of_block z2; clear z1 z2 z3 hown hgrow hat hlt9
              try (refine hK _ _ ?_; clear hK K)
              try simp only [Act.put, List.getElem_toArray, List.getElem_cons_zero, List.getElem_cons_succ, List.setIfInBounds_toArray, List.set_cons_zero, List.set_cons_succ]
              (refine wpAny_take (i := 12) (v := ?_) rfl (by kernel_rfl) (by kernel_rfl) (by kernel_rfl) (fun _ _ _ h => h) (Or.inl ⟨by rfl, ?_⟩) ?_; rotate_left; (intro w; go_simp); (try with_reducible rfl); try simp only [Act.put, List.getElem_toArray, List.getElem_cons_zero, List.getElem_cons_succ, List.setIfInBounds_toArray, List.set_cons_zero, List.set_cons_succ])
              refine wpAny_ready (rs := [13]) (by kernel_rfl) (by simp) ?_
              refine AllReady.cons rfl (fun K hK => ?_) AllReady.nil
              go_simp
              try (refine hK _ _ ?_; clear hK K)
              try simp only [Act.put, List.getElem_toArray, List.getElem_cons_zero, List.getElem_cons_succ, List.setIfInBounds_toArray, List.set_cons_zero, List.set_cons_succ]
              refine wpAny_done (by kernel_rfl) ?_ _
              go_wp2_with fail
              go_roundg g1
              case measure => omega
              case rel => exact ⟨i + 1, R ++ [BB ++ [(tb, tlg, tbk)]], some ⟨g5, 0, none⟩, c7, by omega, by simp, by go_num, by simp; omega, .inr ⟨R, BB ++ [(tb, tlg, tbk)], _, _, m, rfl, by rw [List.length_append, List.length_singleton]; exact Z1.out⟩, HC2.out, Z3.out⟩

        case inr =>
          have hd0 : ((i : Int) == 0) = false := by simp; omega
          have hi0' : ¬ (i : Int) = 0 := by omega
          have hm0 : 0 < many := by omega
          have hm0' : ¬ many = 0 := by omega
          have htm : (i : Int).tmod many = 0 := by rw [Int.tmod_eq_emod_of_nonneg (by omega)]; exact hmod
          go_upto_region 8 with (at_builtin; refine wpList_append_own _ rfl _ _ 36 rfl w.heap.size 22 i1 (.slice none 0 0) 1 24 Try.underlying36 hi1 hy0 hy1' hy2' rfl (by decide) _ R.length vs rfl HOWN.out ⟨_, 0, none⟩ 1 1 [.slice none 0 0] rfl rfl (one_row _ _ _ (by simp)) (by intro u hu; simp at hu; subst hu; rfl) (by unfold maxLen; omega) (by omega) (by simp; omega) ?_; intro v4 w4 q1 q2 _; obtain ⟨a7, c7, rfl⟩ := own_form1 q1; have HP := hide (HNEW.out _ _ q1 q2); clear q1 q2)
          clear HNEW HOWN HRV HBW HDEC
          obtain ⟨W, hW⟩ : ∃ W, W = w4 := ⟨_, rfl⟩
          rw [← hW] at HP ⊢
          clear hW
          generalize (wr.alloc (.cells #[.slice none 0 0] 22)).heap.size = m at HP
          have HQ := hide HP.out.1
          have HBB := hide HP.out.2
          clear HP
          obtain ⟨RL, hRL⟩ : ∃ RL, R = RL := ⟨_, rfl⟩
          obtain ⟨X, hX⟩ : ∃ X : Value, Value.slice none 0 0 = X := ⟨_, rfl⟩
          obtain ⟨BB, hBB⟩ : ∃ BB : List Tk, ([] : List Tk) = BB := ⟨_, rfl⟩
          have hxl : ∃ ax cx, X = .slice ax BB.length cx := ⟨none, 0, by rw [← hX, ← hBB]; rfl⟩
          have HC2 : Hid (R ++ [BB ++ [tk xs i]] = cutR (rowLen many xs.length) (xs.take (i + 1))) := hide (by rw [← hBB, HCUT.out]; rfl)
          rw [hBB] at HQ
          rw [hX] at HQ
          clear hX hBB hRL HCUT
          obtain ⟨ax, cx, rfl⟩ := hxl
          obtain ⟨g5, cp5, cur, hv5, hlo5, hh5, hc5, hs5⟩ := HQ.out.outer
          simp only [Value.slice.injEq] at hv5
          obtain ⟨rfl, _, rfl⟩ := hv5
          obtain ⟨b, off, rfl, hbl, d0, d1, d2⟩ := HT.out.three HBB.out (i := i) (by omega)
          obtain ⟨t, ht⟩ : ∃ t, tk xs i = t := ⟨_, rfl⟩
          rw [ht] at d0 d1 d2 HC2
          obtain ⟨tb, tlg, tbk⟩ := t
          simp only at d0 d1 d2
          have hg5 := lt_of_block hh5
          have hBBl : BB.length ≤ 1000000 := by
            have h1 := HC2.out
            have h2 := cutR_flat (k := rowLen many xs.length) hk1 (xs.take (i + 1)).length (xs.take (i + 1)) (Nat.le_refl _)
            rw [← h1, List.flatten_append] at h2
            have h3 := congrArg List.length h2
            simp at h3
            omega
          have HMR : Hid (∀ a9 c9 w9, OwnsT w9 m (.slice a9 (BB.length + 1) c9) (BB ++ [(tb, tlg, tbk)]) → World.grownBy (W.drew.alloc (tO (tb, tlg, tbk))) w9 (Value.slice ax BB.length cx).ownBlock → QSt w.heap.size m (w9.setCell ⟨g5, R.length, none⟩ (.slice a9 (BB.length + 1) c9)) (.slice (some ⟨g5, 0, none⟩) (R.length + 1) c7) R (BB ++ [(tb, tlg, tbk)]) vs (.slice a9 (BB.length + 1) c9) ∧ w9.heap[g5]? = some (.cells cur 22 (0, 0)) ∧ Below w.heap.size w (w9.setCell ⟨g5, R.length, none⟩ (.slice a9 (BB.length + 1) c9))) := fun a9 c9 w9 q1 q2 => by
            have hw : Below W.heap.size W (W.drew.alloc (tO (tb, tlg, tbk))) := (Below.refl _ W).drew.alloc (Nat.le_refl _) _
            obtain ⟨z1, z2⟩ := HQ.out.more hw rfl hh5 q1 q2
            have hm1 := HQ.out.lom
            have hb := HBB.out.trans (hw.mono HBB.out.size)
            exact ⟨z1, z2, (hb.grown q2 hb.size (fun g e => by have := (ownsRow_lt HQ.out.last e).1; omega)).setCell hlo5 _⟩
          have HLO : Hid (∀ o, (W.drew.alloc o).ownsRow m 32 3 (.slice ax BB.length cx) BB.length (tc BB)) := fun o => HQ.out.last.stay ((Below.refl _ W).drew.alloc (Nat.le_refl _) _)
          have hmW := HQ.out.mle
          clear HQ HBB ht hh5
          have k0 : W.drew.cell? ⟨b, off + i * 3, none⟩ = some (.int .u8 tb) := d0
          have k1 : W.drew.cell? ⟨b, off + i * 3 + 1, none⟩ = some (.int .i64 tlg) := d1
          have k2 : W.drew.cell? ⟨b, off + i * 3 + 2, none⟩ = some (.int .i64 tbk) := d2
          have k5 : W.drew.cell? ⟨g5, R.length, none⟩ = some (.slice ax BB.length cx) := hc5
          have hbl' : b < W.drew.heap.size := hbl
          have hg5' : g5 < W.drew.heap.size := hg5
          have hmW' : m ≤ W.drew.heap.size := hmW
          obtain ⟨WD, hWD⟩ : ∃ WD, W.drew = WD := ⟨_, rfl⟩
          have i1' : (0 : Int) ≤ (R.length : Int) := by omega
          have i2' : (R.length : Int) < (R.length : Int) + 1 := by omega
          have i3' : (0 : Int) ≤ (i : Int) := by omega
          clear d0 d1 d2 hc5
          refine wp_region_any (by kernel_rfl) ?_
          change wpAny _ _ _ _ _ _ _ (World.drew _)
          rw [hWD] at k0 k1 k2 k5 hbl' hg5' hmW' HMR HLO ⊢
          clear hWD
          (refine wpAny_take (i := 0) (v := ?_) rfl (by kernel_rfl) (by kernel_rfl) (by kernel_rfl) (fun _ _ _ h => h) (Or.inl ⟨by rfl, ?_⟩) ?_; rotate_left; (intro w; go_simp); (try with_reducible rfl); try simp only [Act.put, List.getElem_toArray, List.getElem_cons_zero, List.setIfInBounds_toArray, List.set_cons_zero, List.set_cons_succ])
          (refine wpAny_take (i := 1) (v := ?_) rfl (by kernel_rfl) (by kernel_rfl) (by kernel_rfl) (fun _ _ _ h => h) (Or.inl ⟨by rfl, ?_⟩) ?_; rotate_left; (intro w; go_simp); (try with_reducible rfl); try simp only [Act.put, List.getElem_toArray, List.getElem_cons_zero, List.getElem_cons_succ, List.setIfInBounds_toArray, List.set_cons_zero, List.set_cons_succ])
          (refine wpAny_take (i := 2) (v := ?_) rfl (by kernel_rfl) (by kernel_rfl) (by kernel_rfl) (fun _ _ _ h => h) (Or.inl ⟨by rfl, ?_⟩) ?_; rotate_left; (intro w; go_simp); (try with_reducible rfl); try simp only [Act.put, List.getElem_toArray, List.getElem_cons_zero, List.getElem_cons_succ, List.setIfInBounds_toArray, List.set_cons_zero, List.set_cons_succ])
          (refine wpAny_take (i := 3) (v := ?_) rfl (by kernel_rfl) (by kernel_rfl) (by kernel_rfl) (fun _ _ _ h => h) (Or.inl ⟨by rfl, ?_⟩) ?_; rotate_left; (intro w; go_simp); (try with_reducible rfl); try simp only [Act.put, List.getElem_toArray, List.getElem_cons_zero, List.getElem_cons_succ, List.setIfInBounds_toArray, List.set_cons_zero, List.set_cons_succ])
          (refine wpAny_take (i := 4) (v := ?_) rfl (by kernel_rfl) (by kernel_rfl) (by kernel_rfl) (fun _ _ _ h => h) (Or.inl ⟨by rfl, ?_⟩) ?_; rotate_left; (intro w; go_simp); (try with_reducible rfl); try simp only [Act.put, List.getElem_toArray, List.getElem_cons_zero, List.getElem_cons_succ, List.setIfInBounds_toArray, List.set_cons_zero, List.set_cons_succ])
          (refine wpAny_take (i := 6) (v := ?_) rfl (by kernel_rfl) (by kernel_rfl) (by kernel_rfl) (fun _ _ _ h => h) (Or.inl ⟨by rfl, ?_⟩) ?_; rotate_left; (intro w; go_simp); (try with_reducible rfl); try simp only [Act.put, List.getElem_toArray, List.getElem_cons_zero, List.getElem_cons_succ, List.setIfInBounds_toArray, List.set_cons_zero, List.set_cons_succ])
          (refine wpAny_take (i := 7) (v := ?_) rfl (by kernel_rfl) (by kernel_rfl) (by kernel_rfl) (fun _ _ _ h => h) (Or.inl ⟨by rfl, ?_⟩) ?_; rotate_left; (intro w; go_simp); (try with_reducible rfl); try simp only [Act.put, List.getElem_toArray, List.getElem_cons_zero, List.getElem_cons_succ, List.setIfInBounds_toArray, List.set_cons_zero, List.set_cons_succ])
          (refine wpAny_take (i := 8) (v := ?_) rfl (by kernel_rfl) (by kernel_rfl) (by kernel_rfl) (fun _ _ _ h => h) (Or.inl ⟨by rfl, ?_⟩) ?_; rotate_left; (intro w; go_simp); (try with_reducible rfl); try simp only [Act.put, List.getElem_toArray, List.getElem_cons_zero, List.getElem_cons_succ, List.setIfInBounds_toArray, List.set_cons_zero, List.set_cons_succ])
          refine wpAny_ready (rs := [5, 9]) (by kernel_rfl) (by simp) ?_
          refine AllReady.cons rfl (fun K hK => ?_) (AllReady.cons rfl (fun K hK => ?_) (AllReady.nil))
          · go_simp
            try (refine hK _ _ ?_; clear hK K)
            try simp only [Act.put, List.getElem_toArray, List.getElem_cons_zero, List.getElem_cons_succ, List.setIfInBounds_toArray, List.set_cons_zero, List.set_cons_succ]
            refine wpAny_ready (rs := [9]) (by kernel_rfl) (by simp) ?_
            refine AllReady.cons rfl (fun K hK => ?_) AllReady.nil
            go_simp
            try (refine hK _ _ ?_; clear hK K)
            try simp only [Act.put, List.getElem_toArray, List.getElem_cons_zero, List.getElem_cons_succ, List.setIfInBounds_toArray, List.set_cons_zero, List.set_cons_succ]
            refine wpAny_ready (rs := [10]) (by kernel_rfl) (by simp) ?_
            refine AllReady.cons rfl (fun K hK => ?_) AllReady.nil
            go_simp
            try (refine hK _ _ ?_; clear hK K)
            try simp only [Act.put, List.getElem_toArray, List.getElem_cons_zero, List.getElem_cons_succ, List.setIfInBounds_toArray, List.set_cons_zero, List.set_cons_succ]
            refine wpAny_ready (rs := [11]) (by kernel_rfl) (by simp) ?_
            refine AllReady.cons rfl (fun K hK => ?_) AllReady.nil
            refine step_append_lies _ (by rfl) _ _ 22 (by rfl) m 32 j1 (.agg #[.int .u8 0, .int .i64 0, .int .i64 0]) 3 24 Try.underlying22 hj1 hj0 hj1' hj2' rfl (by omega) (.slice ax BB.length cx) BB.length (tc BB) (by rfl) (HLO.out _) ⟨WD.heap.size, 0, none⟩ 1 1 [.int .u8 tb, .int .i64 tlg, .int .i64 tbk] (by rfl) rfl (one_tok WD (tb, tlg, tbk) _ rfl) (by intro u hu; simp at hu; rcases hu with rfl | rfl | rfl <;> rfl) (by omega) (by unfold maxLen; omega) (by omega) (by simp; omega) (WD.heap.size + 1) (by simp) ?_; intro g9 c9 w9 hown hgrow hat hlt9; obtain ⟨z1, z2, z3⟩ := HMR.out (some ⟨g9, 0, none⟩) c9 w9 (OwnsT.push hown) hgrow; have Z1 := hide z1; have Z3 := hide z3; obtain ⟨u5, e5⟩ := some_cell z2 hs5; have f5 := free_of z2 R.length; have hz9 := lt_of_block z2; clear z1 z2 z3 hown hgrow hat hlt9
            try (refine hK _ _ ?_; clear hK K)
            try simp only [Act.put, List.getElem_toArray, List.getElem_cons_zero, List.getElem_cons_succ, List.setIfInBounds_toArray, List.set_cons_zero, List.set_cons_succ]
            (refine wpAny_take (i := 12) (v := ?_) rfl (by kernel_rfl) (by kernel_rfl) (by kernel_rfl) (fun _ _ _ h => h) (Or.inl ⟨by rfl, ?_⟩) ?_; rotate_left; (intro w; go_simp); (try with_reducible rfl); try simp only [Act.put, List.getElem_toArray, List.getElem_cons_zero, List.getElem_cons_succ, List.setIfInBounds_toArray, List.set_cons_zero, List.set_cons_succ])
            refine wpAny_ready (rs := [13]) (by kernel_rfl) (by simp) ?_
            refine AllReady.cons rfl (fun K hK => ?_) AllReady.nil
            go_simp
            try (refine hK _ _ ?_; clear hK K)
            try simp only [Act.put, List.getElem_toArray, List.getElem_cons_zero, List.getElem_cons_succ, List.setIfInBounds_toArray, List.set_cons_zero, List.set_cons_succ]
            refine wpAny_done (by kernel_rfl) ?_ _
            go_wp2_with fail
            go_roundg g1
            case measure => omega
            case rel => exact ⟨i + 1, R ++ [BB ++ [(tb, tlg, tbk)]], some ⟨g5, 0, none⟩, c7, by omega, by simp, by go_num, by simp; omega, .inr ⟨R, BB ++ [(tb, tlg, tbk)], _, _, m, rfl, by rw [List.length_append, List.length_singleton]; exact Z1.out⟩, HC2.out, Z3.out⟩
          · go_simp
            try (refine hK _ _ ?_; clear hK K)
            try simp only [Act.put, List.getElem_toArray, List.getElem_cons_zero, List.getElem_cons_succ, List.setIfInBounds_toArray, List.set_cons_zero, List.set_cons_succ]
            refine wpAny_ready (rs := [5, 10]) (by kernel_rfl) (by simp) ?_
            refine AllReady.cons rfl (fun K hK => ?_) (AllReady.cons rfl (fun K hK => ?_) (AllReady.nil))
            · go_simp
              try (refine hK _ _ ?_; clear hK K)
              try simp only [Act.put, List.getElem_toArray, List.getElem_cons_zero, List.getElem_cons_succ, List.setIfInBounds_toArray, List.set_cons_zero, List.set_cons_succ]
              refine wpAny_ready (rs := [10]) (by kernel_rfl) (by simp) ?_
              refine AllReady.cons rfl (fun K hK => ?_) AllReady.nil
              go_simp
              try (refine hK _ _ ?_; clear hK K)
              try simp only [Act.put, List.getElem_toArray, List.getElem_cons_zero, List.getElem_cons_succ, List.setIfInBounds_toArray, List.set_cons_zero, List.set_cons_succ]
              refine wpAny_ready (rs := [11]) (by kernel_rfl) (by simp) ?_
              refine AllReady.cons rfl (fun K hK => ?_) AllReady.nil
              refine step_append_lies _ (by rfl) _ _ 22 (by rfl) m 32 j1 (.agg #[.int .u8 0, .int .i64 0, .int .i64 0]) 3 24 Try.underlying22 hj1 hj0 hj1' hj2' rfl (by omega) (.slice ax BB.length cx) BB.length (tc BB) (by rfl) (HLO.out _) ⟨WD.heap.size, 0, none⟩ 1 1 [.int .u8 tb, .int .i64 tlg, .int .i64 tbk] (by rfl) rfl (one_tok WD (tb, tlg, tbk) _ rfl) (by intro u hu; simp at hu; rcases hu with rfl | rfl | rfl <;> rfl) (by omega) (by unfold maxLen; omega) (by omega) (by simp; omega) (WD.heap.size + 1) (by simp) ?_; intro g9 c9 w9 hown hgrow hat hlt9; obtain ⟨z1, z2, z3⟩ := HMR.out (some ⟨g9, 0, none⟩) c9 w9 (OwnsT.push hown) hgrow; have Z1 := hide z1; have Z3 := hide z3; obtain ⟨u5, e5⟩ := some_cell z2 hs5; have f5 := free_of z2 R.length; have hz9 := lt_of_block z2; clear z1 z2 z3 hown hgrow hat hlt9
              try (refine hK _ _ ?_; clear hK K)
              try simp only [Act.put, List.getElem_toArray, List.getElem_cons_zero, List.getElem_cons_succ, List.setIfInBounds_toArray, List.set_cons_zero, List.set_cons_succ]
              (refine wpAny_take (i := 12) (v := ?_) rfl (by kernel_rfl) (by kernel_rfl) (by kernel_rfl) (fun _ _ _ h => h) (Or.inl ⟨by rfl, ?_⟩) ?_; rotate_left; (intro w; go_simp); (try with_reducible rfl); try simp only [Act.put, List.getElem_toArray, List.getElem_cons_zero, List.getElem_cons_succ, List.setIfInBounds_toArray, List.set_cons_zero, List.set_cons_succ])
              refine wpAny_ready (rs := [13]) (by kernel_rfl) (by simp) ?_
              refine AllReady.cons rfl (fun K hK => ?_) AllReady.nil
              go_simp
              try (refine hK _ _ ?_; clear hK K)
              try simp only [Act.put, List.getElem_toArray, List.getElem_cons_zero, List.getElem_cons_succ, List.setIfInBounds_toArray, List.set_cons_zero, List.set_cons_succ]
              refine wpAny_done (by kernel_rfl) ?_ _
              go_wp2_with fail
              go_roundg g1
              case measure => omega
              case rel => exact ⟨i + 1, R ++ [BB ++ [(tb, tlg, tbk)]], some ⟨g5, 0, none⟩, c7, by omega, by simp, by go_num, by simp; omega, .inr ⟨R, BB ++ [(tb, tlg, tbk)], _, _, m, rfl, by rw [List.length_append, List.length_singleton]; exact Z1.out⟩, HC2.out, Z3.out⟩
            · go_simp
              try (refine hK _ _ ?_; clear hK K)
              try simp only [Act.put, List.getElem_toArray, List.getElem_cons_zero, List.getElem_cons_succ, List.setIfInBounds_toArray, List.set_cons_zero, List.set_cons_succ]
              refine wpAny_ready (rs := [5]) (by kernel_rfl) (by simp) ?_
              refine AllReady.cons rfl (fun K hK => ?_) AllReady.nil
              go_simp
              try (refine hK _ _ ?_; clear hK K)
              try simp only [Act.put, List.getElem_toArray, List.getElem_cons_zero, List.getElem_cons_succ, List.setIfInBounds_toArray, List.set_cons_zero, List.set_cons_succ]
              refine wpAny_ready (rs := [11]) (by kernel_rfl) (by simp) ?_
              refine AllReady.cons rfl (fun K hK => ?_) AllReady.nil
              refine step_append_lies _ (by rfl) _ _ 22 (by rfl) m 32 j1 (.agg #[.int .u8 0, .int .i64 0, .int .i64 0]) 3 24 Try.underlying22 hj1 hj0 hj1' hj2' rfl (by omega) (.slice ax BB.length cx) BB.length (tc BB) (by rfl) (HLO.out _) ⟨WD.heap.size, 0, none⟩ 1 1 [.int .u8 tb, .int .i64 tlg, .int .i64 tbk] (by rfl) rfl (one_tok WD (tb, tlg, tbk) _ rfl) (by intro u hu; simp at hu; rcases hu with rfl | rfl | rfl <;> rfl) (by omega) (by unfold maxLen; omega) (by omega) (by simp; omega) (WD.heap.size + 1) (by simp) ?_; intro g9 c9 w9 hown hgrow hat hlt9; obtain ⟨z1, z2, z3⟩ := HMR.out (some ⟨g9, 0, none⟩) c9 w9 (OwnsT.push hown) hgrow; have Z1 := hide z1; have Z3 := hide z3; obtain ⟨u5, e5⟩ := some_cell z2 hs5; have f5 := free_of z2 R.length; have hz9 := lt_of_block z2; clear z1 z2 z3 hown hgrow hat hlt9
              try (refine hK _ _ ?_; clear hK K)
              try simp only [Act.put, List.getElem_toArray, List.getElem_cons_zero, List.getElem_cons_succ, List.setIfInBounds_toArray, List.set_cons_zero, List.set_cons_succ]
              (refine wpAny_take (i := 12) (v := ?_) rfl (by kernel_rfl) (by kernel_rfl) (by kernel_rfl) (fun _ _ _ h => h) (Or.inl ⟨by rfl, ?_⟩) ?_; rotate_left; (intro w; go_simp); (try with_reducible rfl); try simp only [Act.put, List.getElem_toArray, List.getElem_cons_zero, List.getElem_cons_succ, List.setIfInBounds_toArray, List.set_cons_zero, List.set_cons_succ])
              refine wpAny_ready (rs := [13]) (by kernel_rfl) (by simp) ?_
              refine AllReady.cons rfl (fun K hK => ?_) AllReady.nil
              go_simp
              try (refine hK _ _ ?_; clear hK K)
              try simp only [Act.put, List.getElem_toArray, List.getElem_cons_zero, List.getElem_cons_succ, List.setIfInBounds_toArray, List.set_cons_zero, List.set_cons_succ]
              refine wpAny_done (by kernel_rfl) ?_ _
              go_wp2_with fail
              go_roundg g1
              case measure => omega
              case rel => exact ⟨i + 1, R ++ [BB ++ [(tb, tlg, tbk)]], some ⟨g5, 0, none⟩, c7, by omega, by simp, by go_num, by simp; omega, .inr ⟨R, BB ++ [(tb, tlg, tbk)], _, _, m, rfl, by rw [List.length_append, List.length_singleton]; exact Z1.out⟩, HC2.out, Z3.out⟩

      case neg =>
        obtain ⟨A, B, hA, hB⟩ := HSN.out.2 hnew
        have hi0 : 0 < i := by rcases Nat.eq_zero_or_pos i with e | e; exact absurd (by rw [e]; simp) hnew; exact e
        obtain ⟨us, X, m, hq⟩ : ∃ us x m, QSt w.heap.size m wr (.slice a5 R.length c5) A B us x := by
          rcases HS.out.1 with ⟨h1, _⟩ | ⟨A', B', us, x, m, h1, h2⟩
          · rw [h1] at hA; simp at hA
          · rw [h1] at hA
            obtain ⟨rfl, e2⟩ := List.append_inj' hA rfl
            simp at e2
            subst e2
            exact ⟨us, x, m, h2⟩
        have HQ := hide hq
        have HBB := hide HS.out.2.2
        have hRA : R.length = A.length + 1 := by rw [hA]; simp
        have HC2 : Hid (A ++ [B ++ [tk xs i]] = cutR (rowLen many xs.length) (xs.take (i + 1))) := hB.symm
        have hd0 : ((i : Int) == 0) = false := by simp; omega
        have hi0' : ¬ (i : Int) = 0 := by omega
        have HDEC : Hid (many < 1 ∨ (1 ≤ many ∧ ¬ (i : Int) % many = 0)) := hide (by
          by_cases c1 : many < 1
          · exact .inl c1
          · exact .inr ⟨by omega, fun e => hnew ((mod_row (by omega) (by omega) (by omega)).1 e)⟩)
        obtain ⟨ax, cx, hxl⟩ : ∃ ax cx, X = .slice ax B.length cx := by obtain ⟨ax, cx, e, _⟩ := hq.last.form; exact ⟨ax, cx, e⟩
        rw [hRA] at HQ ⊢
        obtain ⟨BB, hBB⟩ : ∃ BB : List Tk, B = BB := ⟨_, rfl⟩
        rw [hBB] at HQ HC2 hxl
        have hxl' : ∃ ax cx, X = .slice ax BB.length cx := ⟨ax, cx, hxl⟩
        clear hq HS HSN hnew hA hB hxl hBB
        have hAi : A.length + 1 ≤ i := by omega
        clear hRA hRi
        obtain ⟨R, hRA⟩ : ∃ R, A = R := ⟨_, rfl⟩
        rw [hRA] at HQ HC2 hAi ⊢
        clear hRA
        rcases HDEC.out with hm | ⟨hm, hmod⟩
        case inl =>
          have hm0 : ¬ 0 < many := by omega
          have hmz : many ≤ 0 := by omega
          go_upto_region 8 with fail
          obtain ⟨W, hW⟩ : ∃ W, wr = W := ⟨_, rfl⟩
          rw [hW] at HQ HBB ⊢
          clear hW
          obtain ⟨a7, ha7⟩ : ∃ a7, a5 = a7 := ⟨_, rfl⟩
          obtain ⟨c7, hc7⟩ : ∃ c7, c5 = c7 := ⟨_, rfl⟩
          rw [ha7, hc7] at HQ ⊢
          obtain ⟨hxl⟩ : Nonempty (∃ ax cx, X = .slice ax BB.length cx) := ⟨hxl'⟩
          have hRi : R.length ≤ i := by omega
          clear HDEC
          obtain ⟨ax, cx, rfl⟩ := hxl
          obtain ⟨g5, cp5, cur, hv5, hlo5, hh5, hc5, hs5⟩ := HQ.out.outer
          simp only [Value.slice.injEq] at hv5
          obtain ⟨rfl, _, rfl⟩ := hv5
          obtain ⟨b, off, rfl, hbl, d0, d1, d2⟩ := HT.out.three HBB.out (i := i) (by omega)
          obtain ⟨t, ht⟩ : ∃ t, tk xs i = t := ⟨_, rfl⟩
          rw [ht] at d0 d1 d2 HC2
          obtain ⟨tb, tlg, tbk⟩ := t
          simp only at d0 d1 d2
          have hg5 := lt_of_block hh5
          have hBBl : BB.length ≤ 1000000 := by
            have h1 := HC2.out
            have h2 := cutR_flat (k := rowLen many xs.length) hk1 (xs.take (i + 1)).length (xs.take (i + 1)) (Nat.le_refl _)
            rw [← h1, List.flatten_append] at h2
            have h3 := congrArg List.length h2
            simp at h3
            omega
          have HMR : Hid (∀ a9 c9 w9, OwnsT w9 m (.slice a9 (BB.length + 1) c9) (BB ++ [(tb, tlg, tbk)]) → World.grownBy (W.drew.alloc (tO (tb, tlg, tbk))) w9 (Value.slice ax BB.length cx).ownBlock → QSt w.heap.size m (w9.setCell ⟨g5, R.length, none⟩ (.slice a9 (BB.length + 1) c9)) (.slice (some ⟨g5, 0, none⟩) (R.length + 1) c7) R (BB ++ [(tb, tlg, tbk)]) us (.slice a9 (BB.length + 1) c9) ∧ w9.heap[g5]? = some (.cells cur 22 (0, 0)) ∧ Below w.heap.size w (w9.setCell ⟨g5, R.length, none⟩ (.slice a9 (BB.length + 1) c9))) := fun a9 c9 w9 q1 q2 => by
            have hw : Below W.heap.size W (W.drew.alloc (tO (tb, tlg, tbk))) := (Below.refl _ W).drew.alloc (Nat.le_refl _) _
            obtain ⟨z1, z2⟩ := HQ.out.more hw rfl hh5 q1 q2
            have hm1 := HQ.out.lom
            have hb := HBB.out.trans (hw.mono HBB.out.size)
            exact ⟨z1, z2, (hb.grown q2 hb.size (fun g e => by have := (ownsRow_lt HQ.out.last e).1; omega)).setCell hlo5 _⟩
          have HLO : Hid (∀ o, (W.drew.alloc o).ownsRow m 32 3 (.slice ax BB.length cx) BB.length (tc BB)) := fun o => HQ.out.last.stay ((Below.refl _ W).drew.alloc (Nat.le_refl _) _)
          have hmW := HQ.out.mle
          clear HQ HBB ht hh5
          have k0 : W.drew.cell? ⟨b, off + i * 3, none⟩ = some (.int .u8 tb) := d0
          have k1 : W.drew.cell? ⟨b, off + i * 3 + 1, none⟩ = some (.int .i64 tlg) := d1
          have k2 : W.drew.cell? ⟨b, off + i * 3 + 2, none⟩ = some (.int .i64 tbk) := d2
          have k5 : W.drew.cell? ⟨g5, R.length, none⟩ = some (.slice ax BB.length cx) := hc5
          have hbl' : b < W.drew.heap.size := hbl
          have hg5' : g5 < W.drew.heap.size := hg5
          have hmW' : m ≤ W.drew.heap.size := hmW
          obtain ⟨WD, hWD⟩ : ∃ WD, W.drew = WD := ⟨_, rfl⟩
          have i1' : (0 : Int) ≤ (R.length : Int) := by omega
          have i2' : (R.length : Int) < (R.length : Int) + 1 := by omega
          have i3' : (0 : Int) ≤ (i : Int) := by omega
          clear d0 d1 d2 hc5
          refine wp_region_any (by kernel_rfl) ?_
          change wpAny _ _ _ _ _ _ _ (World.drew _)
          rw [hWD] at k0 k1 k2 k5 hbl' hg5' hmW' HMR HLO ⊢
          clear hWD
          (refine wpAny_take (i := 0) (v := ?_) rfl (by kernel_rfl) (by kernel_rfl) (by kernel_rfl) (fun _ _ _ h => h) (Or.inl ⟨by rfl, ?_⟩) ?_; rotate_left; (intro w; go_simp); (try with_reducible rfl); try simp only [Act.put, List.getElem_toArray, List.getElem_cons_zero, List.setIfInBounds_toArray, List.set_cons_zero, List.set_cons_succ])
          (refine wpAny_take (i := 1) (v := ?_) rfl (by kernel_rfl) (by kernel_rfl) (by kernel_rfl) (fun _ _ _ h => h) (Or.inl ⟨by rfl, ?_⟩) ?_; rotate_left; (intro w; go_simp); (try with_reducible rfl); try simp only [Act.put, List.getElem_toArray, List.getElem_cons_zero, List.getElem_cons_succ, List.setIfInBounds_toArray, List.set_cons_zero, List.set_cons_succ])
          (refine wpAny_take (i := 2) (v := ?_) rfl (by kernel_rfl) (by kernel_rfl) (by kernel_rfl) (fun _ _ _ h => h) (Or.inl ⟨by rfl, ?_⟩) ?_; rotate_left; (intro w; go_simp); (try with_reducible rfl); try simp only [Act.put, List.getElem_toArray, List.getElem_cons_zero, List.getElem_cons_succ, List.setIfInBounds_toArray, List.set_cons_zero, List.set_cons_succ])
          (refine wpAny_take (i := 3) (v := ?_) rfl (by kernel_rfl) (by kernel_rfl) (by kernel_rfl) (fun _ _ _ h => h) (Or.inl ⟨by rfl, ?_⟩) ?_; rotate_left; (intro w; go_simp); (try with_reducible rfl); try simp only [Act.put, List.getElem_toArray, List.getElem_cons_zero, List.getElem_cons_succ, List.setIfInBounds_toArray, List.set_cons_zero, List.set_cons_succ])
          (refine wpAny_take (i := 4) (v := ?_) rfl (by kernel_rfl) (by kernel_rfl) (by kernel_rfl) (fun _ _ _ h => h) (Or.inl ⟨by rfl, ?_⟩) ?_; rotate_left; (intro w; go_simp); (try with_reducible rfl); try simp only [Act.put, List.getElem_toArray, List.getElem_cons_zero, List.getElem_cons_succ, List.setIfInBounds_toArray, List.set_cons_zero, List.set_cons_succ])
          (refine wpAny_take (i := 6) (v := ?_) rfl (by kernel_rfl) (by kernel_rfl) (by kernel_rfl) (fun _ _ _ h => h) (Or.inl ⟨by rfl, ?_⟩) ?_; rotate_left; (intro w; go_simp); (try with_reducible rfl); try simp only [Act.put, List.getElem_toArray, List.getElem_cons_zero, List.getElem_cons_succ, List.setIfInBounds_toArray, List.set_cons_zero, List.set_cons_succ])
          (refine wpAny_take (i := 7) (v := ?_) rfl (by kernel_rfl) (by kernel_rfl) (by kernel_rfl) (fun _ _ _ h => h) (Or.inl ⟨by rfl, ?_⟩) ?_; rotate_left; (intro w; go_simp); (try with_reducible rfl); try simp only [Act.put, List.getElem_toArray, List.getElem_cons_zero, List.getElem_cons_succ, List.setIfInBounds_toArray, List.set_cons_zero, List.set_cons_succ])
          (refine wpAny_take (i := 8) (v := ?_) rfl (by kernel_rfl) (by kernel_rfl) (by kernel_rfl) (fun _ _ _ h => h) (Or.inl ⟨by rfl, ?_⟩) ?_; rotate_left; (intro w; go_simp); (try with_reducible rfl); try simp only [Act.put, List.getElem_toArray, List.getElem_cons_zero, List.getElem_cons_succ, List.setIfInBounds_toArray, List.set_cons_zero, List.set_cons_succ])
          refine wpAny_ready (rs := [5, 9]) (by kernel_rfl) (by simp) ?_
          refine AllReady.cons rfl (fun K hK => ?_) (AllReady.cons rfl (fun K hK => ?_) (AllReady.nil))
          · go_simp
            try (refine hK _ _ ?_; clear hK K)
            try simp only [Act.put, List.getElem_toArray, List.getElem_cons_zero, List.getElem_cons_succ, List.setIfInBounds_toArray, List.set_cons_zero, List.set_cons_succ]
            refine wpAny_ready (rs := [9]) (by kernel_rfl) (by simp) ?_
            refine AllReady.cons rfl (fun K hK => ?_) AllReady.nil
            go_simp
            try (refine hK _ _ ?_; clear hK K)
            try simp only [Act.put, List.getElem_toArray, List.getElem_cons_zero, List.getElem_cons_succ, List.setIfInBounds_toArray, List.set_cons_zero, List.set_cons_succ]
            refine wpAny_ready (rs := [10]) (by kernel_rfl) (by simp) ?_
            refine AllReady.cons rfl (fun K hK => ?_) AllReady.nil
            go_simp
            try (refine hK _ _ ?_; clear hK K)
            try simp only [Act.put, List.getElem_toArray, List.getElem_cons_zero, List.getElem_cons_succ, List.setIfInBounds_toArray, List.set_cons_zero, List.set_cons_succ]
            refine wpAny_ready (rs := [11]) (by kernel_rfl) (by simp) ?_
            refine AllReady.cons rfl (fun K hK => ?_) AllReady.nil
            refine step_append_lies _ (by rfl) _ _ 22 (by rfl) m 32 j1 (.agg #[.int .u8 0, .int .i64 0, .int .i64 0]) 3 24 Try.underlying22 hj1 hj0 hj1' hj2' rfl (by omega) (.slice ax BB.length cx) BB.length (tc BB) (by rfl) (HLO.out _) ⟨WD.heap.size, 0, none⟩ 1 1 [.int .u8 tb, .int .i64 tlg, .int .i64 tbk] (by rfl) rfl (one_tok WD (tb, tlg, tbk) _ rfl) (by intro u hu; simp at hu; rcases hu with rfl | rfl | rfl <;> rfl) (by omega) (by unfold maxLen; omega) (by omega) (by simp; omega) (WD.heap.size + 1) (by simp) ?_; intro g9 c9 w9 hown hgrow hat hlt9; obtain ⟨z1, z2, z3⟩ := HMR.out (some ⟨g9, 0, none⟩) c9 w9 (OwnsT.push hown) hgrow; have Z1 := hide z1; have Z3 := hide z3; obtain ⟨u5, e5⟩ := some_cell z2 hs5; have f5 := free_of z2 R.length; have hz9 := lt_of_block z2; clear z1 z2 z3 hown hgrow hat hlt9
            try (refine hK _ _ ?_; clear hK K)
            try simp only [Act.put, List.getElem_toArray, List.getElem_cons_zero, List.getElem_cons_succ, List.setIfInBounds_toArray, List.set_cons_zero, List.set_cons_succ]
            (refine wpAny_take (i := 12) (v := ?_) rfl (by kernel_rfl) (by kernel_rfl) (by kernel_rfl) (fun _ _ _ h => h) (Or.inl ⟨by rfl, ?_⟩) ?_; rotate_left; (intro w; go_simp); (try with_reducible rfl); try simp only [Act.put, List.getElem_toArray, List.getElem_cons_zero, List.getElem_cons_succ, List.setIfInBounds_toArray, List.set_cons_zero, List.set_cons_succ])
            refine wpAny_ready (rs := [13]) (by kernel_rfl) (by simp) ?_
            refine AllReady.cons rfl (fun K hK => ?_) AllReady.nil
            go_simp
            try (refine hK _ _ ?_; clear hK K)
            try simp only [Act.put, List.getElem_toArray, List.getElem_cons_zero, List.getElem_cons_succ, List.setIfInBounds_toArray, List.set_cons_zero, List.set_cons_succ]
            refine wpAny_done (by kernel_rfl) ?_ _
            go_wp2_with fail
            go_roundg g1
            case measure => omega
            case rel => exact ⟨i + 1, R ++ [BB ++ [(tb, tlg, tbk)]], some ⟨g5, 0, none⟩, c7, by omega, by simp, by go_num, by simp; omega, .inr ⟨R, BB ++ [(tb, tlg, tbk)], _, _, m, rfl, by rw [List.length_append, List.length_singleton]; exact Z1.out⟩, HC2.out, Z3.out⟩
          · go_simp
            try (refine hK _ _ ?_; clear hK K)
            try simp only [Act.put, List.getElem_toArray, List.getElem_cons_zero, List.getElem_cons_succ, List.setIfInBounds_toArray, List.set_cons_zero, List.set_cons_succ]
            refine wpAny_ready (rs := [5, 10]) (by kernel_rfl) (by simp) ?_
            refine AllReady.cons rfl (fun K hK => ?_) (AllReady.cons rfl (fun K hK => ?_) (AllReady.nil))
            · go_simp
              try (refine hK _ _ ?_; clear hK K)
              try simp only [Act.put, List.getElem_toArray, List.getElem_cons_zero, List.getElem_cons_succ, List.setIfInBounds_toArray, List.set_cons_zero, List.set_cons_succ]
              refine wpAny_ready (rs := [10]) (by kernel_rfl) (by simp) ?_
              refine AllReady.cons rfl (fun K hK => ?_) AllReady.nil
              go_simp
              try (refine hK _ _ ?_; clear hK K)
              try simp only [Act.put, List.getElem_toArray, List.getElem_cons_zero, List.getElem_cons_succ, List.setIfInBounds_toArray, List.set_cons_zero, List.set_cons_succ]
              refine wpAny_ready (rs := [11]) (by kernel_rfl) (by simp) ?_
              refine AllReady.cons rfl (fun K hK => ?_) AllReady.nil
              refine step_append_lies _ (by rfl) _ _ 22 (by rfl) m 32 j1 (.agg #[.int .u8 0, .int .i64 0, .int .i64 0]) 3 24 Try.underlying22 hj1 hj0 hj1' hj2' rfl (by omega) (.slice ax BB.length cx) BB.length (tc BB) (by rfl) (HLO.out _) ⟨WD.heap.size, 0, none⟩ 1 1 [.int .u8 tb, .int .i64 tlg, .int .i64 tbk] (by rfl) rfl (one_tok WD (tb, tlg, tbk) _ rfl) (by intro u hu; simp at hu; rcases hu with rfl | rfl | rfl <;> rfl) (by omega) (by unfold maxLen; omega) (by omega) (by simp; omega) (WD.heap.size + 1) (by simp) ?_; intro g9 c9 w9 hown hgrow hat hlt9; obtain ⟨z1, z2, z3⟩ := HMR.out (some ⟨g9, 0, none⟩) c9 w9 (OwnsT.push hown) hgrow; have Z1 := hide z1; have Z3 := hide z3; obtain ⟨u5, e5⟩ := some_cell z2 hs5; have f5 := free_of z2 R.length; have hz9 := lt_of_block z2; clear z1 z2 z3 hown hgrow hat hlt9
              try (refine hK _ _ ?_; clear hK K)
              try simp only [Act.put, List.getElem_toArray, List.getElem_cons_zero, List.getElem_cons_succ, List.setIfInBounds_toArray, List.set_cons_zero, List.set_cons_succ]
              (refine wpAny_take (i := 12) (v := ?_) rfl (by kernel_rfl) (by kernel_rfl) (by kernel_rfl) (fun _ _ _ h => h) (Or.inl ⟨by rfl, ?_⟩) ?_; rotate_left; (intro w; go_simp); (try with_reducible rfl); try simp only [Act.put, List.getElem_toArray, List.getElem_cons_zero, List.getElem_cons_succ, List.setIfInBounds_toArray, List.set_cons_zero, List.set_cons_succ])
              refine wpAny_ready (rs := [13]) (by kernel_rfl) (by simp) ?_
              refine AllReady.cons rfl (fun K hK => ?_) AllReady.nil
              go_simp
              try (refine hK _ _ ?_; clear hK K)
              try simp only [Act.put, List.getElem_toArray, List.getElem_cons_zero, List.getElem_cons_succ, List.setIfInBounds_toArray, List.set_cons_zero, List.set_cons_succ]
              refine wpAny_done (by kernel_rfl) ?_ _
              go_wp2_with fail
              go_roundg g1
              case measure => omega
              case rel => exact ⟨i + 1, R ++ [BB ++ [(tb, tlg, tbk)]], some ⟨g5, 0, none⟩, c7, by omega, by simp, by go_num, by simp; omega, .inr ⟨R, BB ++ [(tb, tlg, tbk)], _, _, m, rfl, by rw [List.length_append, List.length_singleton]; exact Z1.out⟩, HC2.out, Z3.out⟩
            · go_simp
              try (refine hK _ _ ?_; clear hK K)
              try simp only [Act.put, List.getElem_toArray, List.getElem_cons_zero, List.getElem_cons_succ, List.setIfInBounds_toArray, List.set_cons_zero, List.set_cons_succ]
              refine wpAny_ready (rs := [5]) (by kernel_rfl) (by simp) ?_
              refine AllReady.cons rfl (fun K hK => ?_) AllReady.nil
              go_simp
              try (refine hK _ _ ?_; clear hK K)
              try simp only [Act.put, List.getElem_toArray, List.getElem_cons_zero, List.getElem_cons_succ, List.setIfInBounds_toArray, List.set_cons_zero, List.set_cons_succ]
              refine wpAny_ready (rs := [11]) (by kernel_rfl) (by simp) ?_
              refine AllReady.cons rfl (fun K hK => ?_) AllReady.nil
              refine step_append_lies _ (by rfl) _ _ 22 (by rfl) m 32 j1 (.agg #[.int .u8 0, .int .i64 0, .int .i64 0]) 3 24 Try.underlying22 hj1 hj0 hj1' hj2' rfl (by omega) (.slice ax BB.length cx) BB.length (tc BB) (by rfl) (HLO.out _) ⟨WD.heap.size, 0, none⟩ 1 1 [.int .u8 tb, .int .i64 tlg, .int .i64 tbk] (by rfl) rfl (one_tok WD (tb, tlg, tbk) _ rfl) (by intro u hu; simp at hu; rcases hu with rfl | rfl | rfl <;> rfl) (by omega) (by unfold maxLen; omega) (by omega) (by simp; omega) (WD.heap.size + 1) (by simp) ?_; intro g9 c9 w9 hown hgrow hat hlt9; obtain ⟨z1, z2, z3⟩ := HMR.out (some ⟨g9, 0, none⟩) c9 w9 (OwnsT.push hown) hgrow; have Z1 := hide z1; have Z3 := hide z3; obtain ⟨u5, e5⟩ := some_cell z2 hs5; have f5 := free_of z2 R.length; have hz9 := lt_of_block z2; clear z1 z2 z3 hown hgrow hat hlt9
              try (refine hK _ _ ?_; clear hK K)
              try simp only [Act.put, List.getElem_toArray, List.getElem_cons_zero, List.getElem_cons_succ, List.setIfInBounds_toArray, List.set_cons_zero, List.set_cons_succ]
              (refine wpAny_take (i := 12) (v := ?_) rfl (by kernel_rfl) (by kernel_rfl) (by kernel_rfl) (fun _ _ _ h => h) (Or.inl ⟨by rfl, ?_⟩) ?_; rotate_left; (intro w; go_simp); (try with_reducible rfl); try simp only [Act.put, List.getElem_toArray, List.getElem_cons_zero, List.getElem_cons_succ, List.setIfInBounds_toArray, List.set_cons_zero, List.set_cons_succ])
              refine wpAny_ready (rs := [13]) (by kernel_rfl) (by simp) ?_
              refine AllReady.cons rfl (fun K hK => ?_) AllReady.nil
              go_simp
              try (refine hK _ _ ?_; clear hK K)
              try simp only [Act.put, List.getElem_toArray, List.getElem_cons_zero, List.getElem_cons_succ, List.setIfInBounds_toArray, List.set_cons_zero, List.set_cons_succ]
              refine wpAny_done (by kernel_rfl) ?_ _
              go_wp2_with fail
              go_roundg g1
              case measure => omega
              case rel => exact ⟨i + 1, R ++ [BB ++ [(tb, tlg, tbk)]], some ⟨g5, 0, none⟩, c7, by omega, by simp, by go_num, by simp; omega, .inr ⟨R, BB ++ [(tb, tlg, tbk)], _, _, m, rfl, by rw [List.length_append, List.length_singleton]; exact Z1.out⟩, HC2.out, Z3.out⟩

        case inr =>
          have hm0 : 0 < many := by omega
          have hm0' : ¬ many = 0 := by omega
          have htm : ¬ (i : Int).tmod many = 0 := by rw [Int.tmod_eq_emod_of_nonneg (by omega)]; exact hmod
          have hmodb : ((i : Int) % many == 0) = false := by simpa using hmod
          go_upto_region 8 with fail
          obtain ⟨W, hW⟩ : ∃ W, wr = W := ⟨_, rfl⟩
          rw [hW] at HQ HBB ⊢
          clear hW
          obtain ⟨a7, ha7⟩ : ∃ a7, a5 = a7 := ⟨_, rfl⟩
          obtain ⟨c7, hc7⟩ : ∃ c7, c5 = c7 := ⟨_, rfl⟩
          rw [ha7, hc7] at HQ ⊢
          obtain ⟨hxl⟩ : Nonempty (∃ ax cx, X = .slice ax BB.length cx) := ⟨hxl'⟩
          have hRi : R.length ≤ i := by omega
          clear HDEC
          obtain ⟨ax, cx, rfl⟩ := hxl
          obtain ⟨g5, cp5, cur, hv5, hlo5, hh5, hc5, hs5⟩ := HQ.out.outer
          simp only [Value.slice.injEq] at hv5
          obtain ⟨rfl, _, rfl⟩ := hv5
          obtain ⟨b, off, rfl, hbl, d0, d1, d2⟩ := HT.out.three HBB.out (i := i) (by omega)
          obtain ⟨t, ht⟩ : ∃ t, tk xs i = t := ⟨_, rfl⟩
          rw [ht] at d0 d1 d2 HC2
          obtain ⟨tb, tlg, tbk⟩ := t
          simp only at d0 d1 d2
          have hg5 := lt_of_block hh5
          have hBBl : BB.length ≤ 1000000 := by
            have h1 := HC2.out
            have h2 := cutR_flat (k := rowLen many xs.length) hk1 (xs.take (i + 1)).length (xs.take (i + 1)) (Nat.le_refl _)
            rw [← h1, List.flatten_append] at h2
            have h3 := congrArg List.length h2
            simp at h3
            omega
          have HMR : Hid (∀ a9 c9 w9, OwnsT w9 m (.slice a9 (BB.length + 1) c9) (BB ++ [(tb, tlg, tbk)]) → World.grownBy (W.drew.alloc (tO (tb, tlg, tbk))) w9 (Value.slice ax BB.length cx).ownBlock → QSt w.heap.size m (w9.setCell ⟨g5, R.length, none⟩ (.slice a9 (BB.length + 1) c9)) (.slice (some ⟨g5, 0, none⟩) (R.length + 1) c7) R (BB ++ [(tb, tlg, tbk)]) us (.slice a9 (BB.length + 1) c9) ∧ w9.heap[g5]? = some (.cells cur 22 (0, 0)) ∧ Below w.heap.size w (w9.setCell ⟨g5, R.length, none⟩ (.slice a9 (BB.length + 1) c9))) := fun a9 c9 w9 q1 q2 => by
            have hw : Below W.heap.size W (W.drew.alloc (tO (tb, tlg, tbk))) := (Below.refl _ W).drew.alloc (Nat.le_refl _) _
            obtain ⟨z1, z2⟩ := HQ.out.more hw rfl hh5 q1 q2
            have hm1 := HQ.out.lom
            have hb := HBB.out.trans (hw.mono HBB.out.size)
            exact ⟨z1, z2, (hb.grown q2 hb.size (fun g e => by have := (ownsRow_lt HQ.out.last e).1; omega)).setCell hlo5 _⟩
          have HLO : Hid (∀ o, (W.drew.alloc o).ownsRow m 32 3 (.slice ax BB.length cx) BB.length (tc BB)) := fun o => HQ.out.last.stay ((Below.refl _ W).drew.alloc (Nat.le_refl _) _)
          have hmW := HQ.out.mle
          clear HQ HBB ht hh5
          have k0 : W.drew.cell? ⟨b, off + i * 3, none⟩ = some (.int .u8 tb) := d0
          have k1 : W.drew.cell? ⟨b, off + i * 3 + 1, none⟩ = some (.int .i64 tlg) := d1
          have k2 : W.drew.cell? ⟨b, off + i * 3 + 2, none⟩ = some (.int .i64 tbk) := d2
          have k5 : W.drew.cell? ⟨g5, R.length, none⟩ = some (.slice ax BB.length cx) := hc5
          have hbl' : b < W.drew.heap.size := hbl
          have hg5' : g5 < W.drew.heap.size := hg5
          have hmW' : m ≤ W.drew.heap.size := hmW
          obtain ⟨WD, hWD⟩ : ∃ WD, W.drew = WD := ⟨_, rfl⟩
          have i1' : (0 : Int) ≤ (R.length : Int) := by omega
          have i2' : (R.length : Int) < (R.length : Int) + 1 := by omega
          have i3' : (0 : Int) ≤ (i : Int) := by omega
          clear d0 d1 d2 hc5
          refine wp_region_any (by kernel_rfl) ?_
          change wpAny _ _ _ _ _ _ _ (World.drew _)
          rw [hWD] at k0 k1 k2 k5 hbl' hg5' hmW' HMR HLO ⊢
          clear hWD
          (refine wpAny_take (i := 0) (v := ?_) rfl (by kernel_rfl) (by kernel_rfl) (by kernel_rfl) (fun _ _ _ h => h) (Or.inl ⟨by rfl, ?_⟩) ?_; rotate_left; (intro w; go_simp); (try with_reducible rfl); try simp only [Act.put, List.getElem_toArray, List.getElem_cons_zero, List.setIfInBounds_toArray, List.set_cons_zero, List.set_cons_succ])
          (refine wpAny_take (i := 1) (v := ?_) rfl (by kernel_rfl) (by kernel_rfl) (by kernel_rfl) (fun _ _ _ h => h) (Or.inl ⟨by rfl, ?_⟩) ?_; rotate_left; (intro w; go_simp); (try with_reducible rfl); try simp only [Act.put, List.getElem_toArray, List.getElem_cons_zero, List.getElem_cons_succ, List.setIfInBounds_toArray, List.set_cons_zero, List.set_cons_succ])
          (refine wpAny_take (i := 2) (v := ?_) rfl (by kernel_rfl) (by kernel_rfl) (by kernel_rfl) (fun _ _ _ h => h) (Or.inl ⟨by rfl, ?_⟩) ?_; rotate_left; (intro w; go_simp); (try with_reducible rfl); try simp only [Act.put, List.getElem_toArray, List.getElem_cons_zero, List.getElem_cons_succ, List.setIfInBounds_toArray, List.set_cons_zero, List.set_cons_succ])
          (refine wpAny_take (i := 3) (v := ?_) rfl (by kernel_rfl) (by kernel_rfl) (by kernel_rfl) (fun _ _ _ h => h) (Or.inl ⟨by rfl, ?_⟩) ?_; rotate_left; (intro w; go_simp); (try with_reducible rfl); try simp only [Act.put, List.getElem_toArray, List.getElem_cons_zero, List.getElem_cons_succ, List.setIfInBounds_toArray, List.set_cons_zero, List.set_cons_succ])
          (refine wpAny_take (i := 4) (v := ?_) rfl (by kernel_rfl) (by kernel_rfl) (by kernel_rfl) (fun _ _ _ h => h) (Or.inl ⟨by rfl, ?_⟩) ?_; rotate_left; (intro w; go_simp); (try with_reducible rfl); try simp only [Act.put, List.getElem_toArray, List.getElem_cons_zero, List.getElem_cons_succ, List.setIfInBounds_toArray, List.set_cons_zero, List.set_cons_succ])
          (refine wpAny_take (i := 6) (v := ?_) rfl (by kernel_rfl) (by kernel_rfl) (by kernel_rfl) (fun _ _ _ h => h) (Or.inl ⟨by rfl, ?_⟩) ?_; rotate_left; (intro w; go_simp); (try with_reducible rfl); try simp only [Act.put, List.getElem_toArray, List.getElem_cons_zero, List.getElem_cons_succ, List.setIfInBounds_toArray, List.set_cons_zero, List.set_cons_succ])
          (refine wpAny_take (i := 7) (v := ?_) rfl (by kernel_rfl) (by kernel_rfl) (by kernel_rfl) (fun _ _ _ h => h) (Or.inl ⟨by rfl, ?_⟩) ?_; rotate_left; (intro w; go_simp); (try with_reducible rfl); try simp only [Act.put, List.getElem_toArray, List.getElem_cons_zero, List.getElem_cons_succ, List.setIfInBounds_toArray, List.set_cons_zero, List.set_cons_succ])
          (refine wpAny_take (i := 8) (v := ?_) rfl (by kernel_rfl) (by kernel_rfl) (by kernel_rfl) (fun _ _ _ h => h) (Or.inl ⟨by rfl, ?_⟩) ?_; rotate_left; (intro w; go_simp); (try with_reducible rfl); try simp only [Act.put, List.getElem_toArray, List.getElem_cons_zero, List.getElem_cons_succ, List.setIfInBounds_toArray, List.set_cons_zero, List.set_cons_succ])
          refine wpAny_ready (rs := [5, 9]) (by kernel_rfl) (by simp) ?_
          refine AllReady.cons rfl (fun K hK => ?_) (AllReady.cons rfl (fun K hK => ?_) (AllReady.nil))
          · go_simp
            try (refine hK _ _ ?_; clear hK K)
            try simp only [Act.put, List.getElem_toArray, List.getElem_cons_zero, List.getElem_cons_succ, List.setIfInBounds_toArray, List.set_cons_zero, List.set_cons_succ]
            refine wpAny_ready (rs := [9]) (by kernel_rfl) (by simp) ?_
            refine AllReady.cons rfl (fun K hK => ?_) AllReady.nil
            go_simp
            try (refine hK _ _ ?_; clear hK K)
            try simp only [Act.put, List.getElem_toArray, List.getElem_cons_zero, List.getElem_cons_succ, List.setIfInBounds_toArray, List.set_cons_zero, List.set_cons_succ]
            refine wpAny_ready (rs := [10]) (by kernel_rfl) (by simp) ?_
            refine AllReady.cons rfl (fun K hK => ?_) AllReady.nil
            go_simp
            try (refine hK _ _ ?_; clear hK K)
            try simp only [Act.put, List.getElem_toArray, List.getElem_cons_zero, List.getElem_cons_succ, List.setIfInBounds_toArray, List.set_cons_zero, List.set_cons_succ]
            refine wpAny_ready (rs := [11]) (by kernel_rfl) (by simp) ?_
            refine AllReady.cons rfl (fun K hK => ?_) AllReady.nil
            refine step_append_lies _ (by rfl) _ _ 22 (by rfl) m 32 j1 (.agg #[.int .u8 0, .int .i64 0, .int .i64 0]) 3 24 Try.underlying22 hj1 hj0 hj1' hj2' rfl (by omega) (.slice ax BB.length cx) BB.length (tc BB) (by rfl) (HLO.out _) ⟨WD.heap.size, 0, none⟩ 1 1 [.int .u8 tb, .int .i64 tlg, .int .i64 tbk] (by rfl) rfl (one_tok WD (tb, tlg, tbk) _ rfl) (by intro u hu; simp at hu; rcases hu with rfl | rfl | rfl <;> rfl) (by omega) (by unfold maxLen; omega) (by omega) (by simp; omega) (WD.heap.size + 1) (by simp) ?_; intro g9 c9 w9 hown hgrow hat hlt9; obtain ⟨z1, z2, z3⟩ := HMR.out (some ⟨g9, 0, none⟩) c9 w9 (OwnsT.push hown) hgrow; have Z1 := hide z1; have Z3 := hide z3; obtain ⟨u5, e5⟩ := some_cell z2 hs5; have f5 := free_of z2 R.length; have hz9 := lt_of_block z2; clear z1 z2 z3 hown hgrow hat hlt9
            try (refine hK _ _ ?_; clear hK K)
            try simp only [Act.put, List.getElem_toArray, List.getElem_cons_zero, List.getElem_cons_succ, List.setIfInBounds_toArray, List.set_cons_zero, List.set_cons_succ]
            (refine wpAny_take (i := 12) (v := ?_) rfl (by kernel_rfl) (by kernel_rfl) (by kernel_rfl) (fun _ _ _ h => h) (Or.inl ⟨by rfl, ?_⟩) ?_; rotate_left; (intro w; go_simp); (try with_reducible rfl); try simp only [Act.put, List.getElem_toArray, List.getElem_cons_zero, List.getElem_cons_succ, List.setIfInBounds_toArray, List.set_cons_zero, List.set_cons_succ])
            refine wpAny_ready (rs := [13]) (by kernel_rfl) (by simp) ?_
            refine AllReady.cons rfl (fun K hK => ?_) AllReady.nil
            go_simp
            try (refine hK _ _ ?_; clear hK K)
            try simp only [Act.put, List.getElem_toArray, List.getElem_cons_zero, List.getElem_cons_succ, List.setIfInBounds_toArray, List.set_cons_zero, List.set_cons_succ]
            refine wpAny_done (by kernel_rfl) ?_ _
            go_wp2_with fail
            go_roundg g1
            case measure => omega
            case rel => exact ⟨i + 1, R ++ [BB ++ [(tb, tlg, tbk)]], some ⟨g5, 0, none⟩, c7, by omega, by simp, by go_num, by simp; omega, .inr ⟨R, BB ++ [(tb, tlg, tbk)], _, _, m, rfl, by rw [List.length_append, List.length_singleton]; exact Z1.out⟩, HC2.out, Z3.out⟩
          · go_simp
            try (refine hK _ _ ?_; clear hK K)
            try simp only [Act.put, List.getElem_toArray, List.getElem_cons_zero, List.getElem_cons_succ, List.setIfInBounds_toArray, List.set_cons_zero, List.set_cons_succ]
            refine wpAny_ready (rs := [5, 10]) (by kernel_rfl) (by simp) ?_
            refine AllReady.cons rfl (fun K hK => ?_) (AllReady.cons rfl (fun K hK => ?_) (AllReady.nil))
            · go_simp
              try (refine hK _ _ ?_; clear hK K)
              try simp only [Act.put, List.getElem_toArray, List.getElem_cons_zero, List.getElem_cons_succ, List.setIfInBounds_toArray, List.set_cons_zero, List.set_cons_succ]
              refine wpAny_ready (rs := [10]) (by kernel_rfl) (by simp) ?_
              refine AllReady.cons rfl (fun K hK => ?_) AllReady.nil
              go_simp
              try (refine hK _ _ ?_; clear hK K)
              try simp only [Act.put, List.getElem_toArray, List.getElem_cons_zero, List.getElem_cons_succ, List.setIfInBounds_toArray, List.set_cons_zero, List.set_cons_succ]
              refine wpAny_ready (rs := [11]) (by kernel_rfl) (by simp) ?_
              refine AllReady.cons rfl (fun K hK => ?_) AllReady.nil
              refine step_append_lies _ (by rfl) _ _ 22 (by rfl) m 32 j1 (.agg #[.int .u8 0, .int .i64 0, .int .i64 0]) 3 24 Try.underlying22 hj1 hj0 hj1' hj2' rfl (by omega) (.slice ax BB.length cx) BB.length (tc BB) (by rfl) (HLO.out _) ⟨WD.heap.size, 0, none⟩ 1 1 [.int .u8 tb, .int .i64 tlg, .int .i64 tbk] (by rfl) rfl (one_tok WD (tb, tlg, tbk) _ rfl) (by intro u hu; simp at hu; rcases hu with rfl | rfl | rfl <;> rfl) (by omega) (by unfold maxLen; omega) (by omega) (by simp; omega) (WD.heap.size + 1) (by simp) ?_; intro g9 c9 w9 hown hgrow hat hlt9; obtain ⟨z1, z2, z3⟩ := HMR.out (some ⟨g9, 0, none⟩) c9 w9 (OwnsT.push hown) hgrow; have Z1 := hide z1; have Z3 := hide z3; obtain ⟨u5, e5⟩ := some_cell z2 hs5; have f5 := free_of z2 R.length; have hz9 := lt_of_block z2; clear z1 z2 z3 hown hgrow hat hlt9
              try (refine hK _ _ ?_; clear hK K)
              try simp only [Act.put, List.getElem_toArray, List.getElem_cons_zero, List.getElem_cons_succ, List.setIfInBounds_toArray, List.set_cons_zero, List.set_cons_succ]
              (refine wpAny_take (i := 12) (v := ?_) rfl (by kernel_rfl) (by kernel_rfl) (by kernel_rfl) (fun _ _ _ h => h) (Or.inl ⟨by rfl, ?_⟩) ?_; rotate_left; (intro w; go_simp); (try with_reducible rfl); try simp only [Act.put, List.getElem_toArray, List.getElem_cons_zero, List.getElem_cons_succ, List.setIfInBounds_toArray, List.set_cons_zero, List.set_cons_succ])
              refine wpAny_ready (rs := [13]) (by kernel_rfl) (by simp) ?_
              refine AllReady.cons rfl (fun K hK => ?_) AllReady.nil
              go_simp
              try (refine hK _ _ ?_; clear hK K)
              try simp only [Act.put, List.getElem_toArray, List.getElem_cons_zero, List.getElem_cons_succ, List.setIfInBounds_toArray, List.set_cons_zero, List.set_cons_succ]
              refine wpAny_done (by kernel_rfl) ?_ _
              go_wp2_with fail
              go_roundg g1
              case measure => omega
              case rel => exact ⟨i + 1, R ++ [BB ++ [(tb, tlg, tbk)]], some ⟨g5, 0, none⟩, c7, by omega, by simp, by go_num, by simp; omega, .inr ⟨R, BB ++ [(tb, tlg, tbk)], _, _, m, rfl, by rw [List.length_append, List.length_singleton]; exact Z1.out⟩, HC2.out, Z3.out⟩
            · go_simp
              try (refine hK _ _ ?_; clear hK K)
              try simp only [Act.put, List.getElem_toArray, List.getElem_cons_zero, List.getElem_cons_succ, List.setIfInBounds_toArray, List.set_cons_zero, List.set_cons_succ]
              refine wpAny_ready (rs := [5]) (by kernel_rfl) (by simp) ?_
              refine AllReady.cons rfl (fun K hK => ?_) AllReady.nil
              go_simp
              try (refine hK _ _ ?_; clear hK K)
              try simp only [Act.put, List.getElem_toArray, List.getElem_cons_zero, List.getElem_cons_succ, List.setIfInBounds_toArray, List.set_cons_zero, List.set_cons_succ]
              refine wpAny_ready (rs := [11]) (by kernel_rfl) (by simp) ?_
              refine AllReady.cons rfl (fun K hK => ?_) AllReady.nil
              refine step_append_lies _ (by rfl) _ _ 22 (by rfl) m 32 j1 (.agg #[.int .u8 0, .int .i64 0, .int .i64 0]) 3 24 Try.underlying22 hj1 hj0 hj1' hj2' rfl (by omega) (.slice ax BB.length cx) BB.length (tc BB) (by rfl) (HLO.out _) ⟨WD.heap.size, 0, none⟩ 1 1 [.int .u8 tb, .int .i64 tlg, .int .i64 tbk] (by rfl) rfl (one_tok WD (tb, tlg, tbk) _ rfl) (by intro u hu; simp at hu; rcases hu with rfl | rfl | rfl <;> rfl) (by omega) (by unfold maxLen; omega) (by omega) (by simp; omega) (WD.heap.size + 1) (by simp) ?_; intro g9 c9 w9 hown hgrow hat hlt9; obtain ⟨z1, z2, z3⟩ := HMR.out (some ⟨g9, 0, none⟩) c9 w9 (OwnsT.push hown) hgrow; have Z1 := hide z1; have Z3 := hide z3; obtain ⟨u5, e5⟩ := some_cell z2 hs5; have f5 := free_of z2 R.length; have hz9 := lt_of_block z2; clear z1 z2 z3 hown hgrow hat hlt9
              try (refine hK _ _ ?_; clear hK K)
              try simp only [Act.put, List.getElem_toArray, List.getElem_cons_zero, List.getElem_cons_succ, List.setIfInBounds_toArray, List.set_cons_zero, List.set_cons_succ]
              (refine wpAny_take (i := 12) (v := ?_) rfl (by kernel_rfl) (by kernel_rfl) (by kernel_rfl) (fun _ _ _ h => h) (Or.inl ⟨by rfl, ?_⟩) ?_; rotate_left; (intro w; go_simp); (try with_reducible rfl); try simp only [Act.put, List.getElem_toArray, List.getElem_cons_zero, List.getElem_cons_succ, List.setIfInBounds_toArray, List.set_cons_zero, List.set_cons_succ])
              refine wpAny_ready (rs := [13]) (by kernel_rfl) (by simp) ?_
              refine AllReady.cons rfl (fun K hK => ?_) AllReady.nil
              go_simp
              try (refine hK _ _ ?_; clear hK K)
              try simp only [Act.put, List.getElem_toArray, List.getElem_cons_zero, List.getElem_cons_succ, List.setIfInBounds_toArray, List.set_cons_zero, List.set_cons_succ]
              refine wpAny_done (by kernel_rfl) ?_ _
              go_wp2_with fail
              go_roundg g1
              case measure => omega
              case rel => exact ⟨i + 1, R ++ [BB ++ [(tb, tlg, tbk)]], some ⟨g5, 0, none⟩, c7, by omega, by simp, by go_num, by simp; omega, .inr ⟨R, BB ++ [(tb, tlg, tbk)], _, _, m, rfl, by rw [List.length_append, List.length_singleton]; exact Z1.out⟩, HC2.out, Z3.out⟩

end Go.Proofs.Ytofcpnehnpopaaa
