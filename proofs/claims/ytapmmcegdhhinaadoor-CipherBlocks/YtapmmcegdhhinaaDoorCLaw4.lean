/- CipherUnlike, walked. -/
import Derived.Test.YtapmmcegdhhinaaDoorCEq
namespace Go.Proofs.YtapmmcegdhhinaaDoor.K
set_option maxRecDepth 100000
open Go Go.RowKit
set_option linter.unusedVariables false

/-- A call that may be guarded, at a step of a region that draws its order, where it is wanted. -/
theorem step_callW {ops : Array Oper} {o : Oper} {a : Act} {K : Act → World → Prop} {Q : Exit → Act → World → Prop} {E : Prop} {w : World} (hw : Region.wanted o (yielded ops a.tmps) = true) (f : FuncId) (args : Array Value) (hrun : (execOp a.eval o).run Tryd.prog w = .ok (.enter f args) w)
    {R : Ending → World → Prop} (hc : Calls Tryd.prog f args w R) (h : ∀ e w', R e w' → ∃ v, e = .returned v ∧ K (a.put o.dst v) w') :
    if Region.wanted o (yielded ops a.tmps) = true then Oper.wp Tryd.prog o a w K Q else E := by
  rw [if_pos hw]
  unfold Oper.wp
  rw [hrun]
  refine hc.mono fun e w' hR => ?_
  obtain ⟨v, rfl, hk⟩ := h e w' hR
  exact hk
/-- Keys that may be, by their length. -/
theorem key_cases (L : Nat) : (L ≠ 16 ∧ L ≠ 24 ∧ L ≠ 32) ∨ ∃ n, (n = 4 ∨ n = 6 ∨ n = 8) ∧ L = 4 * n := by
  by_cases h : L ≠ 16 ∧ L ≠ 24 ∧ L ≠ 32
  · exact .inl h
  · exact .inr ⟨L / 4, by omega, by omega⟩
structure US (w : World) (kb R : Nat) (K : Nat → Nat → Nat) (f g : Nat → Nat) (wx : World) : Prop where
  key : KeyAt wx kb R K
  a : wx.heap[w.heap.size]? = some (.cells (cA f 16) 27 (0, 0))
  b : wx.heap[w.heap.size + 1]? = some (.cells (cA g 16) 27 (0, 0))
  bel : Below w.heap.size w wx
theorem US.stay {w : World} {kb R : Nat} {K : Nat → Nat → Nat} {f g : Nat → Nat} {wx wy : World} (h : US w kb R K f g wx) (hs : Below wx.heap.size wx wy) : US w kb R K f g wy :=
  ⟨h.key.stay hs, (hs.block _ (lt_of_block h.a)).trans h.a, (hs.block _ (lt_of_block h.b)).trans h.b, h.bel.trans (hs.mono h.bel.size)⟩
set_option maxHeartbeats 8000000 in
theorem cipherUnlike_walk (ad : Option Addr) (cap : Nat) (key : List Nat) (f g : Nat → Nat) (w : World) (hk : BIn w ad cap key) (hf : By16 f) (hg : By16 g) (hT : Tab w) : Calls Tryd.prog 5 #[.slice ad key.length cap, .agg (cA f 16), .agg (cA g 16)] w (Yes w) := by
  have HT := hide hT
  have HK := hide hk
  obtain ⟨q0, q1⟩ := heap2w w (.cells (cA f 16) 27) (.cells (cA g 16) 27)
  have Q0 := hide q0
  have Q1 := hide q1
  have XB := hide (((Below.refl _ w).alloc (Nat.le_refl _) (.cells (cA f 16) 27)).alloc (by simp) (.cells (cA g 16) 27))
  clear q0 q1
  rcases key_cases key.length with hn | ⟨n, hn, hl⟩
  · have HN := hide (fun W => new_no ad key.length cap W hn)
    generalize key.length = L at HN ⊢
    clear hn hf hg
    go_enter Tryd.func5, Tryd.ntmps5
    go_wp2_with (first
      | (go_at_call 14; refine (HN.out _).mono ?_; rintro e w1 ⟨rfl, hw⟩; rw [hw]; clear hw w1; generalize (w.alloc _).alloc _ = wz at *)
      | (go_at_call 9; refine (alive_c wz (HT.out.stay XB.out)).mono ?_; rintro e w9 ⟨rfl, b9⟩; have B9 := hide (XB.out.trans (b9.mono XB.out.size)); clear b9))
    go_ret
    exact ⟨rfl, B9.out⟩
  · have hkk : ∃ a0, ad = some a0 := by
      cases ad with
      | none => have := hk.nil rfl; omega
      | some a0 => exact ⟨a0, rfl⟩
    obtain ⟨a0, rfl⟩ := hkk
    have HN := hide (fun (W : World) (h : Below w.heap.size w W) => new_c a0 cap n key W hn hl hk.by_ (hk.text.below h) (by have := hk.cap_; omega) (hT.stay h))
    have HKB := hide (fun r (_ : r ≤ n + 6) => kK_by hk.by_ (show 1 ≤ n by omega) (key := key) r)
    have n1 : n + 6 ≤ 14 := by omega
    have HF := hide hf
    have HG := hide hg
    rw [hl]
    clear hn hl hk hf hg hT HK
    generalize kK key n = K at HN HKB
    go_enter Tryd.func5, Tryd.ntmps5
    go_upto_region 4 with (go_at_call 14; refine (HN.out _ XB.out).mono ?_; rintro e w1 ⟨kb, hkb, rfl, hK1, b1⟩; have U1 : Hid (US w kb (n + 6) K f g w1) := ⟨hK1, (b1.block _ (lt_of_block Q0.out)).trans Q0.out, (b1.block _ (lt_of_block Q1.out)).trans Q1.out, XB.out.trans (b1.mono XB.out.size)⟩; clear b1 hK1 hkb)
    obtain ⟨R, hR⟩ : ∃ R, R = n + 6 := ⟨_, rfl⟩
    rw [← hR] at U1 HKB n1
    have hR1 : 1 ≤ R := by omega
    have HBA := hide (fun (W : World) (h : US w kb R K f g W) => block_p kb R K f W hR1 n1 h.key HKB.out (HT.out.stay h.bel) HF.out)
    have HBB := hide (fun (W : World) (h : US w kb R K f g W) => block_p kb R K g W hR1 n1 h.key HKB.out (HT.out.stay h.bel) HG.out)
    have e1 := fun W => eq16 f g HF.out HG.out W
    have e2 := fun W => eq16 (enc K R f R) (enc K R g R) (enc_by HKB.out HF.out R (Nat.le_refl R)) (enc_by HKB.out HG.out R (Nat.le_refl R)) W
    have hq : eqB (enc K R f R) (enc K R g R) = eqB f g := eqB_eq ⟨fun h => enc_inj HKB.out HF.out HG.out R (Nat.le_refl R) h, fun h => by
      have hc : ∀ r, r ≤ R → E16 (enc K R f r) (enc K R g r) := fun r => by
        induction r with
        | zero => exact fun _ i hi => by show f i ^^^ _ = g i ^^^ _; rw [h i hi]
        | succ r ih =>
          intro hr i hi
          have e : sub (enc K R f r) = sub (enc K R g r) := by
            funext j
            show bx _ = bx _
            rw [ih (by omega) _ (sg_lt j)]
          show (if r + 1 < R then mix (sub (enc K R f r)) i else sub (enc K R f r) i) ^^^ _ = (if r + 1 < R then mix (sub (enc K R g r)) i else sub (enc K R g r) i) ^^^ _
          rw [e]
      exact hc R (Nat.le_refl R)⟩
    rw [hq] at e2
    generalize eqB f g = E at e1 e2
    have HEE := hide (show (E == E) = true by cases E <;> rfl)
    clear hR hq HN Q0 Q1 XB HF HG HKB
    refine wp_region_held_drew (S := fun W => US w kb R K f g W) (by kernel_rfl) (U1.out.stay (below_drew w1)) ?_
    intro hS0
    generalize w1.drew = W0 at hS0 ⊢
    refine wpAnyH_ready (rs := [0]) (by kernel_rfl) (by simp) ?_
    refine AllReadyH.cons rfl (fun KK hK => ?_) AllReadyH.nil
    refine step_callW (by rfl) 9 #[] (by kernel_rfl) (alive_c _ (HT.out.stay hS0.bel)) ?_
    rintro e W1 ⟨rfl, b⟩
    have hS0 := US.stay hS0 b
    refine ⟨_, rfl, hK.out _ _ hS0 (fun _ => ?_)⟩
    clear hK KK b
    simp only [Act.put, List.getElem_toArray, List.getElem_cons_zero, List.setIfInBounds_toArray, List.set_cons_zero, List.set_cons_succ]
    refine wpAnyH_take (i := 1) (v := .bool true) rfl (by kernel_rfl) (by kernel_rfl) (by kernel_rfl) (fun _ _ _ h => h) (Or.inl ⟨by rfl, fun _ _ => by go_simp⟩) hS0 ?_
    simp only [Act.put, List.getElem_toArray, List.getElem_cons_zero, List.getElem_cons_succ, List.setIfInBounds_toArray, List.set_cons_zero, List.set_cons_succ]
    refine wpAnyH_take (i := 2) (v := .pointer (some ⟨kb, 0, none⟩)) rfl (by kernel_rfl) (by kernel_rfl) (by kernel_rfl) (fun _ _ _ h => h) (Or.inl ⟨by rfl, fun _ _ => by go_simp⟩) hS0 ?_
    simp only [Act.put, List.getElem_toArray, List.getElem_cons_zero, List.getElem_cons_succ, List.setIfInBounds_toArray, List.set_cons_zero, List.set_cons_succ]
    refine wpAnyH_take (i := 3) (v := .agg (cA f 16)) rfl (by kernel_rfl) (by kernel_rfl) (by kernel_rfl) (fun _ _ _ h => h) (yields_row (by rfl) 27 (.tmp 4) rfl w.heap.size rfl _ 27 (0, 0) (fun _ h => h.a) _ Tryd.underlying27 rfl (info16 _ 16)) hS0 ?_
    simp only [Act.put, List.getElem_toArray, List.getElem_cons_zero, List.getElem_cons_succ, List.setIfInBounds_toArray, List.set_cons_zero, List.set_cons_succ]
    refine wpAnyH_take (i := 5) (v := .pointer (some ⟨kb, 0, none⟩)) rfl (by kernel_rfl) (by kernel_rfl) (by kernel_rfl) (fun _ _ _ h => h) (Or.inl ⟨by rfl, fun _ _ => by go_simp⟩) hS0 ?_
    simp only [Act.put, List.getElem_toArray, List.getElem_cons_zero, List.getElem_cons_succ, List.setIfInBounds_toArray, List.set_cons_zero, List.set_cons_succ]
    refine wpAnyH_take (i := 6) (v := .agg (cA g 16)) rfl (by kernel_rfl) (by kernel_rfl) (by kernel_rfl) (fun _ _ _ h => h) (yields_row (by rfl) 27 (.tmp 5) rfl (w.heap.size + 1) rfl _ 27 (0, 0) (fun _ h => h.b) _ Tryd.underlying27 rfl (info16 _ 16)) hS0 ?_
    simp only [Act.put, List.getElem_toArray, List.getElem_cons_zero, List.getElem_cons_succ, List.setIfInBounds_toArray, List.set_cons_zero, List.set_cons_succ]
    refine wpAnyH_take (i := 9) (v := .agg (cA f 16)) rfl (by kernel_rfl) (by kernel_rfl) (by kernel_rfl) (fun _ _ _ h => h) (yields_row (by rfl) 27 (.tmp 4) rfl w.heap.size rfl _ 27 (0, 0) (fun _ h => h.a) _ Tryd.underlying27 rfl (info16 _ 16)) hS0 ?_
    simp only [Act.put, List.getElem_toArray, List.getElem_cons_zero, List.getElem_cons_succ, List.setIfInBounds_toArray, List.set_cons_zero, List.set_cons_succ]
    refine wpAnyH_take (i := 10) (v := .agg (cA g 16)) rfl (by kernel_rfl) (by kernel_rfl) (by kernel_rfl) (fun _ _ _ h => h) (yields_row (by rfl) 27 (.tmp 5) rfl (w.heap.size + 1) rfl _ 27 (0, 0) (fun _ h => h.b) _ Tryd.underlying27 rfl (info16 _ 16)) hS0 ?_
    simp only [Act.put, List.getElem_toArray, List.getElem_cons_zero, List.getElem_cons_succ, List.setIfInBounds_toArray, List.set_cons_zero, List.set_cons_succ]
    refine wpAnyH_take (i := 11) (v := .bool E) rfl (by kernel_rfl) (by kernel_rfl) (by kernel_rfl) (fun _ _ _ h => h) (Or.inl ⟨by rfl, fun _ _ => by go_simp⟩) hS0 ?_
    simp only [Act.put, List.getElem_toArray, List.getElem_cons_zero, List.getElem_cons_succ, List.setIfInBounds_toArray, List.set_cons_zero, List.set_cons_succ]
    refine wpAnyH_ready (rs := [4]) (by kernel_rfl) (by simp) ?_
    refine AllReadyH.cons rfl (fun KK hK => ?_) AllReadyH.nil
    refine step_callW (by rfl) 17 #[.pointer (some ⟨kb, 0, none⟩), .agg (cA f 16)] (by kernel_rfl) (HBA.out _ hS0) ?_
    rintro e W2 ⟨rfl, b⟩
    have hS0 := US.stay hS0 b
    refine ⟨_, rfl, hK.out _ _ hS0 (fun _ => ?_)⟩
    clear hK KK b
    simp only [Act.put, List.getElem_toArray, List.getElem_cons_zero, List.getElem_cons_succ, List.setIfInBounds_toArray, List.set_cons_zero, List.set_cons_succ]
    refine wpAnyH_ready (rs := [7]) (by kernel_rfl) (by simp) ?_
    refine AllReadyH.cons rfl (fun KK hK => ?_) AllReadyH.nil
    refine step_callW (by rfl) 17 #[.pointer (some ⟨kb, 0, none⟩), .agg (cA g 16)] (by kernel_rfl) (HBB.out _ hS0) ?_
    rintro e W3 ⟨rfl, b⟩
    have hS0 := US.stay hS0 b
    refine ⟨_, rfl, hK.out _ _ hS0 (fun _ => ?_)⟩
    clear hK KK b
    simp only [Act.put, List.getElem_toArray, List.getElem_cons_zero, List.getElem_cons_succ, List.setIfInBounds_toArray, List.set_cons_zero, List.set_cons_succ]
    refine wpAnyH_take (i := 8) (v := .bool E) rfl (by kernel_rfl) (by kernel_rfl) (by kernel_rfl) (fun _ _ _ h => h) (Or.inl ⟨by rfl, fun _ _ => by go_simp⟩) hS0 ?_
    simp only [Act.put, List.getElem_toArray, List.getElem_cons_zero, List.getElem_cons_succ, List.setIfInBounds_toArray, List.set_cons_zero, List.set_cons_succ]
    refine wpAnyH_take (i := 12) (v := .bool true) rfl (by kernel_rfl) (by kernel_rfl) (by kernel_rfl) (fun _ _ _ h => h) (Or.inl ⟨by rfl, fun _ _ => by have := HEE.out; go_simp⟩) hS0 ?_
    simp only [Act.put, List.getElem_toArray, List.getElem_cons_zero, List.getElem_cons_succ, List.setIfInBounds_toArray, List.set_cons_zero, List.set_cons_succ]
    refine wpAnyH_take (i := 13) (v := .bool true) rfl (by kernel_rfl) (by kernel_rfl) (by kernel_rfl) (fun _ _ _ h => h) (Or.inl ⟨by rfl, fun _ _ => by go_simp⟩) hS0 ?_
    simp only [Act.put, List.getElem_toArray, List.getElem_cons_zero, List.getElem_cons_succ, List.setIfInBounds_toArray, List.set_cons_zero, List.set_cons_succ]
    refine wpAnyH_take (i := 14) (v := .bool true) rfl (by kernel_rfl) (by kernel_rfl) (by kernel_rfl) (fun _ _ _ h => h) (Or.inl ⟨by rfl, fun _ _ => by go_simp⟩) hS0 ?_
    simp only [Act.put, List.getElem_toArray, List.getElem_cons_zero, List.getElem_cons_succ, List.setIfInBounds_toArray, List.set_cons_zero, List.set_cons_succ]
    refine wpAnyH_done (by kernel_rfl) ?_ _
    go_wp2_with fail
    go_ret
    exact ⟨rfl, hS0.bel⟩
end Go.Proofs.YtapmmcegdhhinaaDoor.K
