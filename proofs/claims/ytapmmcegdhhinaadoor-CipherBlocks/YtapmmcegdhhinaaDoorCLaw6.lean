/- CipherBlocks, walked. -/
import Derived.Test.YtapmmcegdhhinaaDoorCLaw4
import Derived.Test.YtapmmcegdhhinaaDoorKRnd
namespace Go.Proofs.YtapmmcegdhhinaaDoor.K
set_option maxRecDepth 100000
open Go Go.RowKit
set_option linter.unusedVariables false

/-- The box as a row of one's own is the box as the reference reads it. -/
theorem box_row {w : World} {base : Nat} {v : Value} (h : OwnsB w base v (bxL 256)) : ∃ g c, v = .slice (some ⟨g, 0, none⟩) 256 c ∧ BoxRow w g 0 := by
  have hl : (bxL 256).length = 256 := bxL_length 256
  obtain ⟨a, c, rfl, _⟩ := h.form
  rcases h.bs with h0 | ⟨g, rfl, _, h2, h3⟩
  · omega
  · refine ⟨g, c, by rw [hl], h2, fun i hi => ?_⟩
    rw [h3 i (by omega)]
    congr 3
    exact bxL_at hi
/-- What stands in memory: a Key, the reference's round keys, the box, a block. -/
structure QS (w : World) (kb rb bb R : Nat) (K : Nat → Nat → Nat) (f : Nat → Nat) (wx : World) : Prop where
  key : KeyAt wx kb R K
  rows : KeyRows wx rb 0 R K
  box : BoxRow wx bb 0
  b : wx.heap[w.heap.size]? = some (.cells (cA f 16) 27 (0, 0))
  bel : Below w.heap.size w wx
theorem QS.stay {w : World} {kb rb bb R : Nat} {K : Nat → Nat → Nat} {f : Nat → Nat} {wx wy : World} (h : QS w kb rb bb R K f wx) (hs : Below wx.heap.size wx wy) : QS w kb rb bb R K f wy :=
  ⟨h.key.stay hs, h.rows.below hs, h.box.below hs, (hs.block _ (lt_of_block h.b)).trans h.b, h.bel.trans (hs.mono h.bel.size)⟩
structure NS0 (w wx : World) : Prop where
  bel : Below w.heap.size w wx
theorem NS0.stay {w wx wy : World} (h : NS0 w wx) (hs : Below wx.heap.size wx wy) : NS0 w wy := ⟨h.bel.trans (hs.mono h.bel.size)⟩
set_option maxHeartbeats 8000000 in
theorem cipherBlocks_walk (ad : Option Addr) (cap : Nat) (key : List Nat) (f : Nat → Nat) (w : World) (hk : BIn w ad cap key) (hf : By16 f) (hT : Tab w) : Calls Tryd.prog 4 #[.slice ad key.length cap, .agg (cA f 16)] w (Yes w) := by
  have HT := hide hT
  have Q0 := hide (heap_new w (.cells (cA f 16) 27))
  have XB := hide ((Below.refl _ w).alloc (Nat.le_refl _) (.cells (cA f 16) 27))
  rcases key_cases key.length with hn | ⟨n, hn, hl⟩
  · have HN := hide (fun W => new_no ad key.length cap W hn)
    have HR := hide (fun b bl bc W => rounds_no ad b key.length cap bl bc W hn)
    generalize key.length = L at HN HR ⊢
    clear hn hf hT hk
    go_enter Tryd.func4, Tryd.ntmps4
    go_upto_region 6 with (first
      | (go_at_call 14; refine (HN.out _).mono ?_; rintro e w1 ⟨rfl, hw⟩; rw [hw]; clear hw w1)
      | (go_at_call 15; refine (boxes_c _).mono ?_; rintro e w2 ⟨v2, rfl, o2, b2⟩; obtain ⟨bb, bc, rfl, hbx⟩ := box_row o2; have B2 := hide (XB.out.trans (b2.mono XB.out.size)); clear b2 o2 hbx)
      | (go_at_call 16; refine (HR.out _ _ _ _).mono ?_; rintro e w3 ⟨rfl, hw⟩; rw [hw]; clear hw w3))
    refine wp_region_held_drew (S := fun W => NS0 w W) (by kernel_rfl) ⟨B2.out.trans ((below_drew w2).mono B2.out.size)⟩ ?_
    intro hS0
    generalize w2.drew = W0 at hS0 ⊢
    refine wpAnyH_ready (rs := [0]) (by kernel_rfl) (by simp) ?_
    refine AllReadyH.cons rfl (fun KK hK => ?_) AllReadyH.nil
    refine step_callW (by rfl) 9 #[] (by kernel_rfl) (alive_c _ (HT.out.stay hS0.bel)) ?_
    rintro e W1 ⟨rfl, b⟩
    have hS0 := NS0.stay hS0 b
    refine ⟨_, rfl, hK.out _ _ hS0 (fun _ => ?_)⟩
    clear hK KK b
    simp only [Act.put, List.getElem_toArray, List.getElem_cons_zero, List.setIfInBounds_toArray, List.set_cons_zero, List.set_cons_succ]
    refine wpAnyH_take (i := 1) (v := .bool true) rfl (by kernel_rfl) (by kernel_rfl) (by kernel_rfl) (fun _ _ _ h => h) (Or.inl ⟨by rfl, fun _ _ => by go_simp⟩) hS0 ?_
    simp only [Act.put, List.getElem_toArray, List.getElem_cons_zero, List.getElem_cons_succ, List.setIfInBounds_toArray, List.set_cons_zero, List.set_cons_succ]
    refine wpAnyH_take (i := 2) (v := .pointer none) rfl (by kernel_rfl) (by kernel_rfl) (by kernel_rfl) (fun _ _ _ h => h) (Or.inl ⟨by rfl, fun _ _ => by go_simp⟩) hS0 ?_
    simp only [Act.put, List.getElem_toArray, List.getElem_cons_zero, List.getElem_cons_succ, List.setIfInBounds_toArray, List.set_cons_zero, List.set_cons_succ]
    refine wpAnyH_take (i := 3) (v := .bool true) rfl (by kernel_rfl) (by kernel_rfl) (by kernel_rfl) (fun _ _ _ h => h) (Or.inl ⟨by rfl, fun _ _ => by go_simp⟩) hS0 ?_
    simp only [Act.put, List.getElem_toArray, List.getElem_cons_zero, List.getElem_cons_succ, List.setIfInBounds_toArray, List.set_cons_zero, List.set_cons_succ]
    refine wpAnyH_take (i := 4) (v := .bool true) rfl (by kernel_rfl) (by kernel_rfl) (by kernel_rfl) (fun _ _ _ h => h) (Or.inl ⟨by rfl, fun _ _ => by go_simp⟩) hS0 ?_
    simp only [Act.put, List.getElem_toArray, List.getElem_cons_zero, List.getElem_cons_succ, List.setIfInBounds_toArray, List.set_cons_zero, List.set_cons_succ]
    refine wpAnyH_take (i := 5) (v := undef) rfl (by kernel_rfl) (by kernel_rfl) (by kernel_rfl) (fun _ _ _ h => h) (Or.inr ⟨by rfl, rfl⟩) hS0 ?_
    simp only [Act.put, List.getElem_toArray, List.getElem_cons_zero, List.getElem_cons_succ, List.setIfInBounds_toArray, List.set_cons_zero, List.set_cons_succ]
    refine wpAnyH_take (i := 6) (v := undef) rfl (by kernel_rfl) (by kernel_rfl) (by kernel_rfl) (fun _ _ _ h => h) (Or.inr ⟨by rfl, rfl⟩) hS0 ?_
    simp only [Act.put, List.getElem_toArray, List.getElem_cons_zero, List.getElem_cons_succ, List.setIfInBounds_toArray, List.set_cons_zero, List.set_cons_succ]
    refine wpAnyH_take (i := 7) (v := undef) rfl (by kernel_rfl) (by kernel_rfl) (by kernel_rfl) (fun _ _ _ h => h) (Or.inr ⟨by rfl, rfl⟩) hS0 ?_
    simp only [Act.put, List.getElem_toArray, List.getElem_cons_zero, List.getElem_cons_succ, List.setIfInBounds_toArray, List.set_cons_zero, List.set_cons_succ]
    refine wpAnyH_take (i := 8) (v := undef) rfl (by kernel_rfl) (by kernel_rfl) (by kernel_rfl) (fun _ _ _ h => h) (Or.inr ⟨by rfl, rfl⟩) hS0 ?_
    simp only [Act.put, List.getElem_toArray, List.getElem_cons_zero, List.getElem_cons_succ, List.setIfInBounds_toArray, List.set_cons_zero, List.set_cons_succ]
    refine wpAnyH_take (i := 9) (v := undef) rfl (by kernel_rfl) (by kernel_rfl) (by kernel_rfl) (fun _ _ _ h => h) (Or.inr ⟨by rfl, rfl⟩) hS0 ?_
    simp only [Act.put, List.getElem_toArray, List.getElem_cons_zero, List.getElem_cons_succ, List.setIfInBounds_toArray, List.set_cons_zero, List.set_cons_succ]
    refine wpAnyH_take (i := 10) (v := undef) rfl (by kernel_rfl) (by kernel_rfl) (by kernel_rfl) (fun _ _ _ h => h) (Or.inr ⟨by rfl, rfl⟩) hS0 ?_
    simp only [Act.put, List.getElem_toArray, List.getElem_cons_zero, List.getElem_cons_succ, List.setIfInBounds_toArray, List.set_cons_zero, List.set_cons_succ]
    refine wpAnyH_take (i := 11) (v := undef) rfl (by kernel_rfl) (by kernel_rfl) (by kernel_rfl) (fun _ _ _ h => h) (Or.inr ⟨by rfl, rfl⟩) hS0 ?_
    simp only [Act.put, List.getElem_toArray, List.getElem_cons_zero, List.getElem_cons_succ, List.setIfInBounds_toArray, List.set_cons_zero, List.set_cons_succ]
    refine wpAnyH_take (i := 12) (v := undef) rfl (by kernel_rfl) (by kernel_rfl) (by kernel_rfl) (fun _ _ _ h => h) (Or.inr ⟨by rfl, rfl⟩) hS0 ?_
    simp only [Act.put, List.getElem_toArray, List.getElem_cons_zero, List.getElem_cons_succ, List.setIfInBounds_toArray, List.set_cons_zero, List.set_cons_succ]
    refine wpAnyH_take (i := 13) (v := .bool true) rfl (by kernel_rfl) (by kernel_rfl) (by kernel_rfl) (fun _ _ _ h => h) (Or.inl ⟨by rfl, fun _ _ => by go_simp⟩) hS0 ?_
    simp only [Act.put, List.getElem_toArray, List.getElem_cons_zero, List.getElem_cons_succ, List.setIfInBounds_toArray, List.set_cons_zero, List.set_cons_succ]
    refine wpAnyH_take (i := 14) (v := .bool true) rfl (by kernel_rfl) (by kernel_rfl) (by kernel_rfl) (fun _ _ _ h => h) (Or.inl ⟨by rfl, fun _ _ => by go_simp⟩) hS0 ?_
    simp only [Act.put, List.getElem_toArray, List.getElem_cons_zero, List.getElem_cons_succ, List.setIfInBounds_toArray, List.set_cons_zero, List.set_cons_succ]
    refine wpAnyH_take (i := 15) (v := .bool true) rfl (by kernel_rfl) (by kernel_rfl) (by kernel_rfl) (fun _ _ _ h => h) (Or.inl ⟨by rfl, fun _ _ => by go_simp⟩) hS0 ?_
    simp only [Act.put, List.getElem_toArray, List.getElem_cons_zero, List.getElem_cons_succ, List.setIfInBounds_toArray, List.set_cons_zero, List.set_cons_succ]
    refine wpAnyH_done (by kernel_rfl) ?_ _
    go_wp2_with fail
    go_ret
    exact ⟨rfl, hS0.bel⟩
  · obtain ⟨a0, rfl⟩ : ∃ a0, ad = some a0 := by
      cases ad with
      | none => have := hk.nil rfl; omega
      | some a0 => exact ⟨a0, rfl⟩
    obtain ⟨tb, tq, rfl, htw, hts⟩ : ∃ b off, a0 = ⟨b, off, none⟩ ∧ b < w.heap.size ∧ Bs w b off key := by
      rcases hk.text with h | ⟨b, off, e, h1, h2⟩
      · omega
      · exact ⟨b, off, Option.some.inj e, h1, h2⟩
    have HN := hide (fun (W : World) (h : Below w.heap.size w W) => new_c ⟨tb, tq, none⟩ cap n key W hn hl hk.by_ (hk.text.below h) (by have := hk.cap_; omega) (hT.stay h))
    have HR := hide (fun (bb bc : Nat) (W : World) (h : Below w.heap.size w W) (hB : BoxRow W bb 0) => rounds_c tb tq cap bb 0 bc n key W hn hl hk.by_ (hts.below h htw) (Nat.lt_of_lt_of_le htw h.size) hB)
    have HKB := hide (fun r (_ : r ≤ n + 6) => kK_by hk.by_ (show 1 ≤ n by omega) (key := key) r)
    have n1 : n + 6 ≤ 14 := by omega
    have HF := hide hf
    rw [hl]
    clear hn hl hk hf hT htw hts
    unfold RndOk at HR
    generalize kK key n = K at HN HKB HR
    go_enter Tryd.func4, Tryd.ntmps4
    go_upto_region 6 with (first
      | (go_at_call 14; refine (HN.out _ XB.out).mono ?_; rintro e w1 ⟨kb, hkb, rfl, hK1, b1⟩; have B1 := hide (XB.out.trans (b1.mono XB.out.size)); have KA := hide hK1; have Z1 := hide ((b1.block _ (lt_of_block Q0.out)).trans Q0.out); clear b1 hK1 hkb)
      | (go_at_call 15; refine (boxes_c _).mono ?_; rintro e w2 ⟨v2, rfl, o2, b2⟩; obtain ⟨bb, bc, rfl, hbx⟩ := box_row o2; have B2 := hide (B1.out.trans (b2.mono B1.out.size)); have BX := hide hbx; have K2 := hide (KA.out.stay b2); have Z2 := hide ((b2.block _ (lt_of_block Z1.out)).trans Z1.out); clear b2 o2 hbx)
      | (go_at_call 16; refine (HR.out _ _ _ B2.out BX.out).mono ?_; rintro e w3 ⟨rb, rc, rfl, hrows, b3⟩; have U1 : Hid (QS w kb rb bb (n + 6) K f w3) := ⟨K2.out.stay b3, hrows, BX.out.below b3, (b3.block _ (lt_of_block Z2.out)).trans Z2.out, B2.out.trans (b3.mono B2.out.size)⟩; clear b3 hrows))
    obtain ⟨R, hR⟩ : ∃ R, R = n + 6 := ⟨_, rfl⟩
    rw [← hR] at U1 HKB n1
    have hR1 : 1 ≤ R := by omega
    have HRR := hide (show n + 7 = R + 1 by omega)
    have HBA := hide (fun (W : World) (h : QS w kb rb bb R K f W) => block_p kb R K f W hR1 n1 h.key HKB.out (HT.out.stay h.bel) HF.out)
    have HBB := hide (fun (W : World) (h : QS w kb rb bb R K f W) => block_c rb 0 rc bb 0 bc R K f W hR1 n1 h.rows HKB.out h.box HF.out)
    rw [← HRR.out] at HBB
    have e2 := fun W => eq16 (enc K R f R) (enc K R f R) (enc_by HKB.out HF.out R (Nat.le_refl R)) (enc_by HKB.out HF.out R (Nat.le_refl R)) W
    rw [(eqB_iff _ _).2 (fun _ _ => rfl)] at e2
    clear hR HN HR Q0 XB B1 KA Z1 B2 BX K2 Z2 HF HKB
    refine wp_region_held_drew (S := fun W => QS w kb rb bb R K f W) (by kernel_rfl) (U1.out.stay (below_drew w3)) ?_
    intro hS0
    generalize w3.drew = W0 at hS0 ⊢
    refine wpAnyH_ready (rs := [0]) (by kernel_rfl) (by simp) ?_
    refine AllReadyH.cons rfl (fun KK hK => ?_) AllReadyH.nil
    refine step_callW (by rfl) 9 #[] (by kernel_rfl) (alive_c _ (HT.out.stay hS0.bel)) ?_
    rintro e W1 ⟨rfl, b⟩
    have hS0 := QS.stay hS0 b
    refine ⟨_, rfl, hK.out _ _ hS0 (fun _ => ?_)⟩
    clear hK KK b
    simp only [Act.put, List.getElem_toArray, List.getElem_cons_zero, List.setIfInBounds_toArray, List.set_cons_zero, List.set_cons_succ]
    refine wpAnyH_take (i := 1) (v := .bool true) rfl (by kernel_rfl) (by kernel_rfl) (by kernel_rfl) (fun _ _ _ h => h) (Or.inl ⟨by rfl, fun _ _ => by go_simp⟩) hS0 ?_
    simp only [Act.put, List.getElem_toArray, List.getElem_cons_zero, List.getElem_cons_succ, List.setIfInBounds_toArray, List.set_cons_zero, List.set_cons_succ]
    refine wpAnyH_take (i := 2) (v := .pointer (some ⟨kb, 0, none⟩)) rfl (by kernel_rfl) (by kernel_rfl) (by kernel_rfl) (fun _ _ _ h => h) (Or.inl ⟨by rfl, fun _ _ => by go_simp⟩) hS0 ?_
    simp only [Act.put, List.getElem_toArray, List.getElem_cons_zero, List.getElem_cons_succ, List.setIfInBounds_toArray, List.set_cons_zero, List.set_cons_succ]
    refine wpAnyH_take (i := 3) (v := .bool false) rfl (by kernel_rfl) (by kernel_rfl) (by kernel_rfl) (fun _ _ _ h => h) (Or.inl ⟨by rfl, fun _ _ => by go_simp⟩) hS0 ?_
    simp only [Act.put, List.getElem_toArray, List.getElem_cons_zero, List.getElem_cons_succ, List.setIfInBounds_toArray, List.set_cons_zero, List.set_cons_succ]
    refine wpAnyH_take (i := 4) (v := .bool false) rfl (by kernel_rfl) (by kernel_rfl) (by kernel_rfl) (fun _ _ _ h => h) (Or.inl ⟨by rfl, fun _ _ => by go_simp⟩) hS0 ?_
    simp only [Act.put, List.getElem_toArray, List.getElem_cons_zero, List.getElem_cons_succ, List.setIfInBounds_toArray, List.set_cons_zero, List.set_cons_succ]
    refine wpAnyH_take (i := 5) (v := .pointer (some ⟨kb, 0, none⟩)) rfl (by kernel_rfl) (by kernel_rfl) (by kernel_rfl) (fun _ _ _ h => h) (Or.inl ⟨by rfl, fun _ _ => by go_simp⟩) hS0 ?_
    simp only [Act.put, List.getElem_toArray, List.getElem_cons_zero, List.getElem_cons_succ, List.setIfInBounds_toArray, List.set_cons_zero, List.set_cons_succ]
    refine wpAnyH_take (i := 6) (v := .agg (cA f 16)) rfl (by kernel_rfl) (by kernel_rfl) (by kernel_rfl) (fun _ _ _ h => h) (yields_row (by rfl) 27 (.tmp 3) rfl w.heap.size rfl _ 27 (0, 0) (fun _ h => h.b) _ Tryd.underlying27 rfl (info16 _ 16)) hS0 ?_
    simp only [Act.put, List.getElem_toArray, List.getElem_cons_zero, List.getElem_cons_succ, List.setIfInBounds_toArray, List.set_cons_zero, List.set_cons_succ]
    refine wpAnyH_take (i := 8) (v := .slice (some ⟨rb, 0, none⟩) (n + 7) rc) rfl (by kernel_rfl) (by kernel_rfl) (by kernel_rfl) (fun _ _ _ h => h) (Or.inl ⟨by rfl, fun _ _ => by go_simp⟩) hS0 ?_
    simp only [Act.put, List.getElem_toArray, List.getElem_cons_zero, List.getElem_cons_succ, List.setIfInBounds_toArray, List.set_cons_zero, List.set_cons_succ]
    refine wpAnyH_take (i := 9) (v := .slice (some ⟨bb, 0, none⟩) 256 bc) rfl (by kernel_rfl) (by kernel_rfl) (by kernel_rfl) (fun _ _ _ h => h) (Or.inl ⟨by rfl, fun _ _ => by go_simp⟩) hS0 ?_
    simp only [Act.put, List.getElem_toArray, List.getElem_cons_zero, List.getElem_cons_succ, List.setIfInBounds_toArray, List.set_cons_zero, List.set_cons_succ]
    refine wpAnyH_take (i := 10) (v := .agg (cA f 16)) rfl (by kernel_rfl) (by kernel_rfl) (by kernel_rfl) (fun _ _ _ h => h) (yields_row (by rfl) 27 (.tmp 3) rfl w.heap.size rfl _ 27 (0, 0) (fun _ h => h.b) _ Tryd.underlying27 rfl (info16 _ 16)) hS0 ?_
    simp only [Act.put, List.getElem_toArray, List.getElem_cons_zero, List.getElem_cons_succ, List.setIfInBounds_toArray, List.set_cons_zero, List.set_cons_succ]
    refine wpAnyH_ready (rs := [7]) (by kernel_rfl) (by simp) ?_
    refine AllReadyH.cons rfl (fun KK hK => ?_) AllReadyH.nil
    refine step_callW (by rfl) 17 #[.pointer (some ⟨kb, 0, none⟩), .agg (cA f 16)] (by kernel_rfl) (HBA.out _ hS0) ?_
    rintro e W2 ⟨rfl, b⟩
    have hS0 := QS.stay hS0 b
    refine ⟨_, rfl, hK.out _ _ hS0 (fun _ => ?_)⟩
    clear hK KK b
    simp only [Act.put, List.getElem_toArray, List.getElem_cons_zero, List.getElem_cons_succ, List.setIfInBounds_toArray, List.set_cons_zero, List.set_cons_succ]
    refine wpAnyH_ready (rs := [11]) (by kernel_rfl) (by simp) ?_
    refine AllReadyH.cons rfl (fun KK hK => ?_) AllReadyH.nil
    refine step_callW (by rfl) 18 #[.slice (some ⟨rb, 0, none⟩) (n + 7) rc, .slice (some ⟨bb, 0, none⟩) 256 bc, .agg (cA f 16)] (by kernel_rfl) (HBB.out _ hS0) ?_
    rintro e W3 ⟨rfl, b⟩
    have hS0 := QS.stay hS0 b
    refine ⟨_, rfl, hK.out _ _ hS0 (fun _ => ?_)⟩
    clear hK KK b
    simp only [Act.put, List.getElem_toArray, List.getElem_cons_zero, List.getElem_cons_succ, List.setIfInBounds_toArray, List.set_cons_zero, List.set_cons_succ]
    refine wpAnyH_take (i := 12) (v := .bool true) rfl (by kernel_rfl) (by kernel_rfl) (by kernel_rfl) (fun _ _ _ h => h) (Or.inl ⟨by rfl, fun _ _ => by go_simp⟩) hS0 ?_
    simp only [Act.put, List.getElem_toArray, List.getElem_cons_zero, List.getElem_cons_succ, List.setIfInBounds_toArray, List.set_cons_zero, List.set_cons_succ]
    refine wpAnyH_take (i := 13) (v := .bool true) rfl (by kernel_rfl) (by kernel_rfl) (by kernel_rfl) (fun _ _ _ h => h) (Or.inl ⟨by rfl, fun _ _ => by go_simp⟩) hS0 ?_
    simp only [Act.put, List.getElem_toArray, List.getElem_cons_zero, List.getElem_cons_succ, List.setIfInBounds_toArray, List.set_cons_zero, List.set_cons_succ]
    refine wpAnyH_take (i := 14) (v := .bool true) rfl (by kernel_rfl) (by kernel_rfl) (by kernel_rfl) (fun _ _ _ h => h) (Or.inl ⟨by rfl, fun _ _ => by go_simp⟩) hS0 ?_
    simp only [Act.put, List.getElem_toArray, List.getElem_cons_zero, List.getElem_cons_succ, List.setIfInBounds_toArray, List.set_cons_zero, List.set_cons_succ]
    refine wpAnyH_take (i := 15) (v := .bool true) rfl (by kernel_rfl) (by kernel_rfl) (by kernel_rfl) (fun _ _ _ h => h) (Or.inl ⟨by rfl, fun _ _ => by go_simp⟩) hS0 ?_
    simp only [Act.put, List.getElem_toArray, List.getElem_cons_zero, List.getElem_cons_succ, List.setIfInBounds_toArray, List.set_cons_zero, List.set_cons_succ]
    refine wpAnyH_done (by kernel_rfl) ?_ _
    go_wp2_with fail
    go_ret
    exact ⟨rfl, hS0.bel⟩
end Go.Proofs.YtapmmcegdhhinaaDoor.K
