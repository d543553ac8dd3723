/- The program's Block: contract. -/
import Derived.Test.YtgamfpgejkhbcaaDoorCMix
namespace Go.Proofs.YtgamfpgejkhbcaaDoor.K
set_option maxRecDepth 100000
open Go Go.RowKit

/-- Round keys where a pointer leads: their bytes, and the number of the last one. -/
structure KeyAt (w : World) (kb R : Nat) (K : Nat → Nat → Nat) : Prop where
  lt : kb < w.heap.size
  last : w.cell? ⟨kb, 240, none⟩ = some (.int .i64 (R : Int))
  row : ∀ r, r ≤ R → ∀ i, i < 16 → w.cell? ⟨kb, 16 * r + i, none⟩ = some (.int .u8 (K r i : Nat))
theorem KeyAt.stay {w w' : World} {kb R : Nat} {K : Nat → Nat → Nat} (h : KeyAt w kb R K) (k : Below w.heap.size w w') : KeyAt w' kb R K :=
  ⟨Nat.lt_of_lt_of_le h.lt k.size, (k.cell (p := ⟨kb, 240, none⟩) h.lt).trans h.last, fun r hr i hi => (k.cell (p := ⟨kb, 16 * r + i, none⟩) h.lt).trans (h.row r hr i hi)⟩
theorem KeyAt.kept {w w' : World} {kb R : Nat} {K : Nat → Nat → Nat} {M : Nat → Prop} (h : KeyAt w kb R K) (k : Kept M w w') (hn : ¬ M kb) : KeyAt w' kb R K :=
  ⟨Nat.lt_of_lt_of_le h.lt k.size, (k.cell (p := ⟨kb, 240, none⟩) h.lt hn).trans h.last, fun r hr i hi => (k.cell (p := ⟨kb, 16 * r + i, none⟩) h.lt hn).trans (h.row r hr i hi)⟩
theorem KeyAt.load {w : World} {kb R : Nat} {K : Nat → Nat → Nat} (h : KeyAt w kb R K) {r : Nat} (hr : r ≤ R) : (loadVar 63 ⟨kb, 16 * r, none⟩).run Tryd.prog w = .ok (.agg (cA (K r) 16)) w := by
  have hl : (cA (K r) 16).toList.length = 16 := by rw [Array.length_toList, cA_size]
  have := run_loadVar_mid (P := Tryd.prog) w kb (16 * r) 63 (cA (K r) 16).toList _ (fun j v hv => by
    have hj : j < 16 := by have := (List.getElem?_eq_some_iff.1 hv).1; omega
    rw [h.row r hr j hj]
    rw [Array.getElem?_toList, cA_at _ hj] at hv
    exact hv) Tryd.underlying63 rfl (by rw [hl]; exact (zeroBlk (K r)).2)
  rwa [Array.toArray_toList] at this
theorem load16 {w : World} {g : Nat} {f : Nat → Nat} {t : Nat} (hg : w.heap[g]? = some (.cells (cA f t) 39 (0, 0))) : (loadVar 39 ⟨g, 0, none⟩).run Tryd.prog w = .ok (.agg (cA f t)) w := by
  exact run_loadVar_row w g 39 39 _ (0, 0) _ hg Tryd.underlying39 rfl (info16 f t)
theorem loadBlk {w : World} {g : Nat} {f : Nat → Nat} {t : Nat} (hg : w.heap[g]? = some (.cells (cA f t) 63 (0, 0))) : (loadVar 63 ⟨g, 0, none⟩).run Tryd.prog w = .ok (.agg (cA f t)) w := by
  exact run_loadVar_row w g 63 63 _ (0, 0) _ hg Tryd.underlying63 rfl (infoBlk f t)
theorem below_drew (w : World) : Below w.heap.size w w.drew := ⟨rfl, rfl, rfl, Nat.le_refl _, fun _ _ => rfl⟩
theorem KeyAt.range {w : World} {kb R : Nat} {K : Nat → Nat → Nat} (h : KeyAt w kb R K) {r : Nat} (hr : r ≤ R) : w.rangeAt kb (16 * r) (cA (K r) 16).toList := fun j v hv => by
  have hl : (cA (K r) 16).toList.length = 16 := by rw [Array.length_toList, cA_size]
  have hj : j < 16 := by have := (List.getElem?_eq_some_iff.1 hv).1; omega
  rw [h.row r hr j hj]
  rw [Array.getElem?_toList, cA_at _ hj] at hv
  exact hv
theorem rowInfo (f : Nat → Nat) : (Tryd.prog.info? 63).map (·.size) = some (cA f 16).toList.length := by rw [Array.length_toList]; exact infoBlk f 16
/-- What stands in memory between the rounds. -/
structure BS (w : World) (kb R : Nat) (K : Nat → Nat → Nat) (f e : Nat → Nat) (b5 : Nat) (wx : World) : Prop where
  key : KeyAt wx kb R K
  st : wx.heap[b5]? = some (.cells (cA e 16) 63 (0, 0))
  res : wx.heap[w.heap.size + 1]? = some (.cells (cA f 0) 39 (0, 0))
  bel : Below w.heap.size w wx
theorem BS.stay {w : World} {kb R : Nat} {K : Nat → Nat → Nat} {f e : Nat → Nat} {b5 : Nat} {wx wy : World} (h : BS w kb R K f e b5 wx) (hs : Below wx.heap.size wx wy) : BS w kb R K f e b5 wy :=
  ⟨h.key.stay hs, (hs.block _ (lt_of_block h.st)).trans h.st, (hs.block _ (lt_of_block h.res)).trans h.res, h.bel.trans (hs.mono h.bel.size)⟩
set_option maxHeartbeats 8000000 in
theorem block_p (kb R : Nat) (K : Nat → Nat → Nat) (f : Nat → Nat) (w : World) (hR : 1 ≤ R) (hRl : R ≤ 14) (hK : KeyAt w kb R K) (hKb : ∀ r, r ≤ R → By16 (K r)) (hT : Tab w) (hf : By16 f) :
    Calls Tryd.prog 18 #[.pointer (some ⟨kb, 0, none⟩), .agg (cA f 16)] w fun e w' => e = .returned (.agg (cA (enc K R f R) 16)) ∧ Below w.heap.size w w' := by
  have hz : ∀ w, (zeroValue 39).run Tryd.prog w = .ok (.agg (cA f 0)) w := (zero16 f).1
  have hzb : ∀ w, (zeroValue 63).run Tryd.prog w = .ok (.agg (cA f 0)) w := (zeroBlk f).1
  have HF := hide hf
  have HK := hide hK
  have HT := hide hT
  have HKB := hide hKb
  have HL := hide hK.lt
  obtain ⟨q0, q1⟩ := heap2w w (.cells (cA f 16) 39) (.cells (cA f 0) 39)
  have XB := hide (((Below.refl _ w).alloc (Nat.le_refl _) (.cells (cA f 16) 39)).alloc (by simp) (.cells (cA f 0) 39))
  have Q0 := hide q0
  have Q1 := hide q1
  clear q0 q1 hf hK hT hKb
  go_enter Tryd.func18, Tryd.ntmps18
  go_upto_region 1 with fail
  generalize (w.alloc _).alloc _ = wz at *
  have KZ := hide (HK.out.stay XB.out)
  have HX := hide (fun W => xored_c f (K 0) W HF.out (HKB.out 0 (Nat.zero_le R)))
  have HI := fun e t => hide (infoBlk e t)
  go_cut [5] (fun v5 wx => ∃ b5, v5 = .pointer (some ⟨b5, 0, none⟩) ∧ w.heap.size + 1 < b5 ∧ Hid (BS w kb R K f (enc K R f 0) b5 wx))
  case first =>
    refine wp_region_held_drew (S := fun W => KeyAt W kb R K ∧ W.heap[w.heap.size]? = some (.cells (cA f 16) 39 (0, 0))) (by kernel_rfl) ⟨KZ.out.stay (below_drew wz), Q0.out⟩ ?_
    intro hS0
    have B0 : Hid (Below w.heap.size w wz.drew) := XB.out.trans ((below_drew wz).mono XB.out.size)
    have Q2 : Hid (wz.drew.heap[w.heap.size + 1]? = some (.cells (cA f 0) 39 (0, 0))) := Q1.out
    generalize wz.drew = W0 at B0 Q2 hS0 ⊢
    refine wpAnyH_take (i := 0) (v := .agg (cA f 16)) rfl (by kernel_rfl) (by kernel_rfl) (by kernel_rfl) (fun _ _ _ h => h) (yields_row (by rfl) 39 (.tmp 3) rfl w.heap.size rfl _ 39 (0, 0) (fun _ h => h.2) _ Tryd.underlying39 rfl (info16 f 16)) hS0 ?_
    simp only [Act.put, List.getElem_toArray, List.getElem_cons_zero, List.setIfInBounds_toArray, List.set_cons_zero, List.set_cons_succ]
    refine wpAnyH_take (i := 1) (v := .pointer (some ⟨kb, 0, none⟩)) rfl (by kernel_rfl) (by kernel_rfl) (by kernel_rfl) (fun _ _ _ h => h) (Or.inl ⟨by rfl, fun _ _ => by go_simp⟩) hS0 ?_
    simp only [Act.put, List.getElem_toArray, List.getElem_cons_zero, List.getElem_cons_succ, List.setIfInBounds_toArray, List.set_cons_zero, List.set_cons_succ]
    refine wpAnyH_take (i := 2) (v := .pointer (some ⟨kb, 0, none⟩)) rfl (by kernel_rfl) (by kernel_rfl) (by kernel_rfl) (fun _ _ _ h => h) (Or.inl ⟨by rfl, fun _ _ => by go_simp⟩) hS0 ?_
    simp only [Act.put, List.getElem_toArray, List.getElem_cons_zero, List.getElem_cons_succ, List.setIfInBounds_toArray, List.set_cons_zero, List.set_cons_succ]
    refine wpAnyH_take (i := 3) (v := .pointer (some ⟨kb, 0, none⟩)) rfl (by kernel_rfl) (by kernel_rfl) (by kernel_rfl) (fun _ _ _ h => h) (Or.inl ⟨by rfl, fun _ _ => by go_simp⟩) hS0 ?_
    simp only [Act.put, List.getElem_toArray, List.getElem_cons_zero, List.getElem_cons_succ, List.setIfInBounds_toArray, List.set_cons_zero, List.set_cons_succ]
    refine wpAnyH_take (i := 4) (v := .pointer (some ⟨kb, 0, none⟩)) rfl (by kernel_rfl) (by kernel_rfl) (by kernel_rfl) (fun _ _ _ h => h) (Or.inl ⟨by rfl, fun _ _ => by go_simp⟩) hS0 ?_
    simp only [Act.put, List.getElem_toArray, List.getElem_cons_zero, List.getElem_cons_succ, List.setIfInBounds_toArray, List.set_cons_zero, List.set_cons_succ]
    refine wpAnyH_take (i := 5) (v := .agg (cA (K 0) 16).toList.toArray) rfl (by kernel_rfl) (by kernel_rfl) (by kernel_rfl) (fun _ _ _ h => h) (yieldsIf_load_mid (by rfl) 63 (.tmp 11) rfl kb 0 rfl (cA (K 0) 16).toList _ (fun W h => KeyAt.range (h.1) (Nat.zero_le R)) Tryd.underlying63 rfl (rowInfo _)) hS0 ?_
    simp only [Act.put, List.getElem_toArray, List.getElem_cons_zero, List.getElem_cons_succ, List.setIfInBounds_toArray, List.set_cons_zero, List.set_cons_succ]
    simp only [Array.toArray_toList]
    refine wpAnyH_ready (rs := [6, 7]) (by kernel_rfl) (by simp) ?_
    refine AllReadyH.cons rfl (fun KK hK => ?_) (AllReadyH.cons rfl (fun KK hK => ?_) AllReadyH.nil)
    · refine step_call rfl 33 #[.agg (cA f 16), .agg (cA (K 0) 16)] (by kernel_rfl) (HX.out _) ?_
      rintro e W1 ⟨rfl, b⟩
      have hS0 := And.intro (hS0.1.stay b) ((b.block _ (lt_of_block hS0.2)).trans hS0.2)
      have Q2 := hide ((b.block _ (lt_of_block Q2.out)).trans Q2.out)
      have B0 := hide (B0.out.trans (b.mono B0.out.size))
      refine ⟨_, rfl, hK.out _ _ hS0 (fun _ => ?_)⟩
      clear hK KK b
      simp only [Act.put, List.getElem_toArray, List.getElem_cons_zero, List.getElem_cons_succ, List.setIfInBounds_toArray, List.set_cons_zero, List.set_cons_succ]
      refine wpAnyH_ready (rs := [7]) (by kernel_rfl) (by simp) ?_
      refine AllReadyH.cons rfl (fun KK hK => ?_) AllReadyH.nil
      refine step_alloc rfl 63 rfl (cA f 0) hzb ?_
      have N5 := hide (heap_new W1 (.cells (cA f 0) 63))
      have hb5 : w.heap.size + 1 < W1.heap.size := lt_of_block Q2.out
      have b := (Below.refl _ W1).alloc (Nat.le_refl _) (.cells (cA f 0) 63)
      have hS0 := And.intro (hS0.1.stay b) ((b.block _ (lt_of_block hS0.2)).trans hS0.2)
      have Q2 := hide ((b.block _ (lt_of_block Q2.out)).trans Q2.out)
      have B0 := hide (B0.out.trans (b.mono B0.out.size))
      refine hK.out _ _ hS0 (fun _ => ?_)
      clear hK KK b
      simp only [Act.put, List.getElem_toArray, List.getElem_cons_zero, List.getElem_cons_succ, List.setIfInBounds_toArray, List.set_cons_zero, List.set_cons_succ]
      obtain ⟨b5, e5⟩ : ∃ b, b = W1.heap.size := ⟨_, rfl⟩
      rw [← e5] at N5 hb5 ⊢
      clear e5
      refine wpAnyH_ready (rs := [8]) (by kernel_rfl) (by simp) ?_
      refine AllReadyH.cons rfl (fun KK hK => ?_) AllReadyH.nil
      refine step_store rfl 63 (.tmp 5) (.tmp 13) rfl _ (cA (enc K R f 0) 16) rfl rfl (cA f 0) 63 N5.out (HI _ _).out (by rw [cA_size, cA_size]) (cA_one _ _) ?_
      intro W6 G6 K6
      have S6 := KeyAt.kept hS0.1 K6.out (by have := HL.out; omega)
      refine hK.out _ _ ⟨S6, K6.out.heap hS0.2 (by omega)⟩ (fun _ => ?_)
      have NB : Hid (BS w kb R K f (enc K R f 0) b5 W6) := ⟨S6, G6.out, K6.out.heap Q2.out (by omega), B0.out.trans (K6.out.below B0.out.size (fun i hi e => by omega))⟩
      clear hK KK
      refine wpAnyH_done (by kernel_rfl) ?_ _
      go_wp2_with fail
      go_meet
      exact ⟨b5, rfl, hb5, NB⟩
    · refine step_alloc rfl 63 rfl (cA f 0) hzb ?_
      have N5 := hide (heap_new W0 (.cells (cA f 0) 63))
      have hb5 : w.heap.size + 1 < W0.heap.size := lt_of_block Q2.out
      have b := (Below.refl _ W0).alloc (Nat.le_refl _) (.cells (cA f 0) 63)
      have hS0 := And.intro (hS0.1.stay b) ((b.block _ (lt_of_block hS0.2)).trans hS0.2)
      have Q2 := hide ((b.block _ (lt_of_block Q2.out)).trans Q2.out)
      have B0 := hide (B0.out.trans (b.mono B0.out.size))
      refine hK.out _ _ hS0 (fun _ => ?_)
      clear hK KK b
      simp only [Act.put, List.getElem_toArray, List.getElem_cons_zero, List.getElem_cons_succ, List.setIfInBounds_toArray, List.set_cons_zero, List.set_cons_succ]
      obtain ⟨b5, e5⟩ : ∃ b, b = W0.heap.size := ⟨_, rfl⟩
      rw [← e5] at N5 hb5 ⊢
      clear e5
      refine wpAnyH_ready (rs := [6]) (by kernel_rfl) (by simp) ?_
      refine AllReadyH.cons rfl (fun KK hK => ?_) AllReadyH.nil
      refine step_call rfl 33 #[.agg (cA f 16), .agg (cA (K 0) 16)] (by kernel_rfl) (HX.out _) ?_
      rintro e W1 ⟨rfl, b⟩
      have hS0 := And.intro (hS0.1.stay b) ((b.block _ (lt_of_block hS0.2)).trans hS0.2)
      have Q2 := hide ((b.block _ (lt_of_block Q2.out)).trans Q2.out)
      have B0 := hide (B0.out.trans (b.mono B0.out.size))
      have N5 := hide ((b.block _ (lt_of_block N5.out)).trans N5.out)
      refine ⟨_, rfl, hK.out _ _ hS0 (fun _ => ?_)⟩
      clear hK KK b
      simp only [Act.put, List.getElem_toArray, List.getElem_cons_zero, List.getElem_cons_succ, List.setIfInBounds_toArray, List.set_cons_zero, List.set_cons_succ]
      refine wpAnyH_ready (rs := [8]) (by kernel_rfl) (by simp) ?_
      refine AllReadyH.cons rfl (fun KK hK => ?_) AllReadyH.nil
      refine step_store rfl 63 (.tmp 5) (.tmp 13) rfl _ (cA (enc K R f 0) 16) rfl rfl (cA f 0) 63 N5.out (HI _ _).out (by rw [cA_size, cA_size]) (cA_one _ _) ?_
      intro W6 G6 K6
      have S6 := KeyAt.kept hS0.1 K6.out (by have := HL.out; omega)
      refine hK.out _ _ ⟨S6, K6.out.heap hS0.2 (by omega)⟩ (fun _ => ?_)
      have NB : Hid (BS w kb R K f (enc K R f 0) b5 W6) := ⟨S6, G6.out, K6.out.heap Q2.out (by omega), B0.out.trans (K6.out.below B0.out.size (fun i hi e => by omega))⟩
      clear hK KK
      refine wpAnyH_done (by kernel_rfl) ?_ _
      go_wp2_with fail
      go_meet
      exact ⟨b5, rfl, hb5, NB⟩
  case rest =>
    obtain ⟨b5, rfl, hb5, BZ⟩ := hcut
    clear KZ Q0 Q1 XB HX
    have KBN : Hid (kb ≠ b5 ∧ w.heap.size + 1 ≠ b5 ∧ ¬ (b5 < w.heap.size) ∧ kb ≠ w.heap.size + 1) := ⟨by have := HL.out; omega, by omega, by omega, by have := HL.out; omega⟩
    clear hb5
    obtain ⟨T1, hT1⟩ : ∃ T, T + 1 = R := ⟨R - 1, by omega⟩
    go_wp2_with fail
    go_loopg [6] T1 (fun gk u6 wx => ∃ r : Nat, r + 1 + gk = R ∧ u6 = .int .i64 ((r : Int) + 1) ∧ Hid (BS w kb R K f (enc K R f r) b5 wx))
    case atStart => exact ⟨0, by omega, rfl, BZ⟩
    case round =>
      obtain ⟨r, hrg, rfl, BX⟩ := hrel
      clear BZ hT1
      have cl := BX.out.key.last
      have HEB := hide (enc_by HKB.out HF.out r (by omega))
      have HSB := hide (sub_by HEB.out)
      have HMV := hide (fun (W : World) (h : Below wr.heap.size wr W) => moved_c (enc K R f r) W HEB.out (HT.out.stay (BX.out.bel.trans (h.mono BX.out.bel.size))))
      cases gk with
      | zero =>
        have hge : ¬ (r : Int) + 1 < (R : Int) := by omega
        have HEN := hide (show cA (fun i => sub (enc K R f r) i ^^^ K R i) 16 = cA (enc K R f R) 16 by
          obtain rfl : r + 1 = R := by omega
          refine cA_congr (fun i _ => ?_) 16
          show _ = (if r + 1 < r + 1 then _ else _) ^^^ _
          rw [if_neg (by omega)])
        have n1 : (0 : Int) ≤ (R : Int) := by omega
        have n2 : (R : Int) < 15 := by omega
        have HXR := hide (fun W => xored_c (sub (enc K R f r)) (K R) W HSB.out (HKB.out R (Nat.le_refl R)))
        rw [HEN.out] at HXR
        go_upto_region 6 with fail
        refine wp_region_held_drew (S := fun W => KeyAt W kb R K) (by kernel_rfl) (BX.out.key.stay (below_drew wr)) ?_
        intro hS0
        have X0 := hide (BX.out.stay (below_drew wr))
        have Y0 := hide (below_drew wr)
        generalize wr.drew = W0 at X0 Y0 hS0 ⊢
        refine wpAnyH_take (i := 2) (v := .pointer (some ⟨kb, 0, none⟩)) rfl (by kernel_rfl) (by kernel_rfl) (by kernel_rfl) (fun _ _ _ h => h) (Or.inl ⟨by rfl, fun _ _ => by go_simp⟩) hS0 ?_
        simp only [Act.put, List.getElem_toArray, List.getElem_cons_zero, List.getElem_cons_succ, List.setIfInBounds_toArray, List.set_cons_zero, List.set_cons_succ]
        refine wpAnyH_take (i := 3) (v := .pointer (some ⟨kb, 0, none⟩)) rfl (by kernel_rfl) (by kernel_rfl) (by kernel_rfl) (fun _ _ _ h => h) (Or.inl ⟨by rfl, fun _ _ => by go_simp⟩) hS0 ?_
        simp only [Act.put, List.getElem_toArray, List.getElem_cons_zero, List.getElem_cons_succ, List.setIfInBounds_toArray, List.set_cons_zero, List.set_cons_succ]
        refine wpAnyH_take (i := 4) (v := .pointer (some ⟨kb, 0, none⟩)) rfl (by kernel_rfl) (by kernel_rfl) (by kernel_rfl) (fun _ _ _ h => h) (Or.inl ⟨by rfl, fun _ _ => by go_simp⟩) hS0 ?_
        simp only [Act.put, List.getElem_toArray, List.getElem_cons_zero, List.getElem_cons_succ, List.setIfInBounds_toArray, List.set_cons_zero, List.set_cons_succ]
        refine wpAnyH_take (i := 5) (v := .pointer (some ⟨kb, 240, none⟩)) rfl (by kernel_rfl) (by kernel_rfl) (by kernel_rfl) (fun _ _ _ h => h) (Or.inl ⟨by rfl, fun _ _ => by go_simp⟩) hS0 ?_
        simp only [Act.put, List.getElem_toArray, List.getElem_cons_zero, List.getElem_cons_succ, List.setIfInBounds_toArray, List.set_cons_zero, List.set_cons_succ]
        refine wpAnyH_take (i := 6) (v := .int .i64 (R : Int)) rfl (by kernel_rfl) (by kernel_rfl) (by kernel_rfl) (fun _ _ _ h => h) (Or.inl ⟨by rfl, fun W h => by have := KeyAt.last h; go_simp⟩) hS0 ?_
        simp only [Act.put, List.getElem_toArray, List.getElem_cons_zero, List.getElem_cons_succ, List.setIfInBounds_toArray, List.set_cons_zero, List.set_cons_succ]
        refine wpAnyH_take (i := 7) (v := .pointer (some ⟨kb, 0, none⟩)) rfl (by kernel_rfl) (by kernel_rfl) (by kernel_rfl) (fun _ _ _ h => h) (Or.inl ⟨by rfl, fun _ _ => by go_simp⟩) hS0 ?_
        simp only [Act.put, List.getElem_toArray, List.getElem_cons_zero, List.getElem_cons_succ, List.setIfInBounds_toArray, List.set_cons_zero, List.set_cons_succ]
        refine wpAnyH_take (i := 8) (v := .pointer (some ⟨kb, 0, none⟩)) rfl (by kernel_rfl) (by kernel_rfl) (by kernel_rfl) (fun _ _ _ h => h) (Or.inl ⟨by rfl, fun _ _ => by go_simp⟩) hS0 ?_
        simp only [Act.put, List.getElem_toArray, List.getElem_cons_zero, List.getElem_cons_succ, List.setIfInBounds_toArray, List.set_cons_zero, List.set_cons_succ]
        refine wpAnyH_take (i := 9) (v := .pointer (some ⟨kb, 16 * R, none⟩)) rfl (by kernel_rfl) (by kernel_rfl) (by kernel_rfl) (fun _ _ _ h => h) (Or.inl ⟨by rfl, fun _ _ => by go_simp⟩) hS0 ?_
        simp only [Act.put, List.getElem_toArray, List.getElem_cons_zero, List.getElem_cons_succ, List.setIfInBounds_toArray, List.set_cons_zero, List.set_cons_succ]
        refine wpAnyH_take (i := 10) (v := .agg (cA (K R) 16).toList.toArray) rfl (by kernel_rfl) (by kernel_rfl) (by kernel_rfl) (fun _ _ _ h => h) (yieldsIf_load_mid (by rfl) 63 (.tmp 41) rfl kb (16 * R) rfl (cA (K R) 16).toList _ (fun W h => KeyAt.range (h) (Nat.le_refl R)) Tryd.underlying63 rfl (rowInfo _)) hS0 ?_
        simp only [Act.put, List.getElem_toArray, List.getElem_cons_zero, List.getElem_cons_succ, List.setIfInBounds_toArray, List.set_cons_zero, List.set_cons_succ]
        simp only [Array.toArray_toList]
        refine wpAnyH_ready (rs := [0]) (by kernel_rfl) (by simp) ?_
        refine AllReadyH.cons rfl (fun KK hK => ?_) AllReadyH.nil
        refine step_load rfl 63 (.tmp 5) rfl b5 (by rfl) (cA (enc K R f r) 16) 63 (0, 0) X0.out.st _ Tryd.underlying63 rfl (infoBlk _ _) ?_
        refine hK.out _ _ hS0 (fun _ => ?_)
        clear hK KK
        simp only [Act.put, List.getElem_toArray, List.getElem_cons_zero, List.setIfInBounds_toArray, List.set_cons_zero, List.set_cons_succ]
        refine wpAnyH_ready (rs := [1]) (by kernel_rfl) (by simp) ?_
        refine AllReadyH.cons rfl (fun KK hK => ?_) AllReadyH.nil
        refine step_call rfl 35 #[.agg (cA (enc K R f r) 16)] (by kernel_rfl) (HMV.out _ Y0.out) ?_
        rintro e W1 ⟨rfl, b⟩
        have X0 := hide (X0.out.stay b)
        have Y0 := hide (Y0.out.trans (b.mono Y0.out.size))
        have hS0 := X0.out.key
        refine ⟨_, rfl, hK.out _ _ hS0 (fun _ => ?_)⟩
        clear hK KK b
        simp only [Act.put, List.getElem_toArray, List.getElem_cons_zero, List.getElem_cons_succ, List.setIfInBounds_toArray, List.set_cons_zero, List.set_cons_succ]
        refine wpAnyH_ready (rs := [11]) (by kernel_rfl) (by simp) ?_
        refine AllReadyH.cons rfl (fun KK hK => ?_) AllReadyH.nil
        refine step_call rfl 33 #[.agg (cA (sub (enc K R f r)) 16), .agg (cA (K R) 16)] (by kernel_rfl) (HXR.out _) ?_
        rintro e W2 ⟨rfl, b⟩
        have X0 := hide (X0.out.stay b)
        have Y0 := hide (Y0.out.trans (b.mono Y0.out.size))
        have hS0 := X0.out.key
        refine ⟨_, rfl, hK.out _ _ hS0 (fun _ => ?_)⟩
        clear hK KK b
        simp only [Act.put, List.getElem_toArray, List.getElem_cons_zero, List.getElem_cons_succ, List.setIfInBounds_toArray, List.set_cons_zero, List.set_cons_succ]
        refine wpAnyH_ready (rs := [12]) (by kernel_rfl) (by simp) ?_
        refine AllReadyH.cons rfl (fun KK hK => ?_) AllReadyH.nil
        refine step_store rfl 39 (.tmp 4) (.tmp 43) rfl _ (cA (enc K R f R) 16) rfl rfl (cA f 0) 39 X0.out.res (info16 _ _) (by rw [cA_size, cA_size]) (cA_one _ _) ?_
        intro W6 G6 K6
        refine hK.out _ _ (KeyAt.kept hS0 K6.out KBN.out.2.2.2) (fun _ => ?_)
        have NB := hide (X0.out.bel.trans (K6.out.below X0.out.bel.size (fun i hi e => by omega)))
        clear hK KK
        refine wpAnyH_done (by kernel_rfl) ?_ _
        go_wp2_with fail
        have hld : (loadVar 39 ⟨w.heap.size + 1, 0, none⟩).run Tryd.prog W6 = .ok (.agg (cA (enc K R f R) 16)) W6 := load16 G6.out
        refine bodyPost_ret (v := .agg (cA (enc K R f R) 16)) ?_ rfl ⟨rfl, NB.out⟩
        simp [results, asAddr, hld]
      | succ g1 =>
        have hlt : (r : Int) + 1 < (R : Int) := by omega
        have HEN := hide (show cA (fun i => mix (sub (enc K R f r)) i ^^^ K (r + 1) i) 16 = cA (enc K R f (r + 1)) 16 by
          refine cA_congr (fun i _ => ?_) 16
          show _ = (if r + 1 < R then _ else _) ^^^ _
          rw [if_pos (by omega)])
        have HXR := hide (fun W => xored_c (mix (sub (enc K R f r))) (K (r + 1)) W (mix_by HSB.out) (HKB.out (r + 1) (by omega)))
        rw [HEN.out] at HXR
        have HMX := hide (fun W => mixed_p (sub (enc K R f r)) W HSB.out)
        have hr1 : r + 1 ≤ R := by omega
        have n1 : (0 : Int) ≤ (r : Int) + 1 := by omega
        have n2 : (r : Int) + 1 < 15 := by omega
        go_upto_region 5 with fail
        refine wp_region_held_drew (S := fun W => KeyAt W kb R K) (by kernel_rfl) (BX.out.key.stay (below_drew wr)) ?_
        intro hS0
        have X0 := hide (BX.out.stay (below_drew wr))
        have Y0 := hide (below_drew wr)
        generalize wr.drew = W0 at X0 Y0 hS0 ⊢
        refine wpAnyH_take (i := 3) (v := .pointer (some ⟨kb, 0, none⟩)) rfl (by kernel_rfl) (by kernel_rfl) (by kernel_rfl) (fun _ _ _ h => h) (Or.inl ⟨by rfl, fun _ _ => by go_simp⟩) hS0 ?_
        simp only [Act.put, List.getElem_toArray, List.getElem_cons_zero, List.getElem_cons_succ, List.setIfInBounds_toArray, List.set_cons_zero, List.set_cons_succ]
        refine wpAnyH_take (i := 4) (v := .int .i64 ((r : Int) + 1)) rfl (by kernel_rfl) (by kernel_rfl) (by kernel_rfl) (fun _ _ _ h => h) (Or.inl ⟨by rfl, fun _ _ => by go_simp⟩) hS0 ?_
        simp only [Act.put, List.getElem_toArray, List.getElem_cons_zero, List.getElem_cons_succ, List.setIfInBounds_toArray, List.set_cons_zero, List.set_cons_succ]
        refine wpAnyH_take (i := 5) (v := .pointer (some ⟨kb, 0, none⟩)) rfl (by kernel_rfl) (by kernel_rfl) (by kernel_rfl) (fun _ _ _ h => h) (Or.inl ⟨by rfl, fun _ _ => by go_simp⟩) hS0 ?_
        simp only [Act.put, List.getElem_toArray, List.getElem_cons_zero, List.getElem_cons_succ, List.setIfInBounds_toArray, List.set_cons_zero, List.set_cons_succ]
        refine wpAnyH_take (i := 6) (v := .pointer (some ⟨kb, 0, none⟩)) rfl (by kernel_rfl) (by kernel_rfl) (by kernel_rfl) (fun _ _ _ h => h) (Or.inl ⟨by rfl, fun _ _ => by go_simp⟩) hS0 ?_
        simp only [Act.put, List.getElem_toArray, List.getElem_cons_zero, List.getElem_cons_succ, List.setIfInBounds_toArray, List.set_cons_zero, List.set_cons_succ]
        refine wpAnyH_take (i := 7) (v := .pointer (some ⟨kb, 16 * (r + 1), none⟩)) rfl (by kernel_rfl) (by kernel_rfl) (by kernel_rfl) (fun _ _ _ h => h) (Or.inl ⟨by rfl, fun _ _ => by go_simp⟩) hS0 ?_
        simp only [Act.put, List.getElem_toArray, List.getElem_cons_zero, List.getElem_cons_succ, List.setIfInBounds_toArray, List.set_cons_zero, List.set_cons_succ]
        refine wpAnyH_take (i := 8) (v := .agg (cA (K (r + 1)) 16).toList.toArray) rfl (by kernel_rfl) (by kernel_rfl) (by kernel_rfl) (fun _ _ _ h => h) (yieldsIf_load_mid (by rfl) 63 (.tmp 29) rfl kb (16 * (r + 1)) rfl (cA (K (r + 1)) 16).toList _ (fun W h => KeyAt.range (h) hr1) Tryd.underlying63 rfl (rowInfo _)) hS0 ?_
        simp only [Act.put, List.getElem_toArray, List.getElem_cons_zero, List.getElem_cons_succ, List.setIfInBounds_toArray, List.set_cons_zero, List.set_cons_succ]
        simp only [Array.toArray_toList]
        refine wpAnyH_ready (rs := [0]) (by kernel_rfl) (by simp) ?_
        refine AllReadyH.cons rfl (fun KK hK => ?_) AllReadyH.nil
        refine step_load rfl 63 (.tmp 5) rfl b5 (by rfl) (cA (enc K R f r) 16) 63 (0, 0) X0.out.st _ Tryd.underlying63 rfl (infoBlk _ _) ?_
        refine hK.out _ _ hS0 (fun _ => ?_)
        clear hK KK
        simp only [Act.put, List.getElem_toArray, List.getElem_cons_zero, List.setIfInBounds_toArray, List.set_cons_zero, List.set_cons_succ]
        refine wpAnyH_ready (rs := [1]) (by kernel_rfl) (by simp) ?_
        refine AllReadyH.cons rfl (fun KK hK => ?_) AllReadyH.nil
        refine step_call rfl 35 #[.agg (cA (enc K R f r) 16)] (by kernel_rfl) (HMV.out _ Y0.out) ?_
        rintro e W1 ⟨rfl, b⟩
        have X0 := hide (X0.out.stay b)
        have Y0 := hide (Y0.out.trans (b.mono Y0.out.size))
        have hS0 := X0.out.key
        refine ⟨_, rfl, hK.out _ _ hS0 (fun _ => ?_)⟩
        clear hK KK b
        simp only [Act.put, List.getElem_toArray, List.getElem_cons_zero, List.getElem_cons_succ, List.setIfInBounds_toArray, List.set_cons_zero, List.set_cons_succ]
        refine wpAnyH_ready (rs := [2]) (by kernel_rfl) (by simp) ?_
        refine AllReadyH.cons rfl (fun KK hK => ?_) AllReadyH.nil
        refine step_call rfl 34 #[.agg (cA (sub (enc K R f r)) 16)] (by kernel_rfl) (HMX.out _) ?_
        rintro e W2 ⟨rfl, b⟩
        have X0 := hide (X0.out.stay b)
        have Y0 := hide (Y0.out.trans (b.mono Y0.out.size))
        have hS0 := X0.out.key
        refine ⟨_, rfl, hK.out _ _ hS0 (fun _ => ?_)⟩
        clear hK KK b
        simp only [Act.put, List.getElem_toArray, List.getElem_cons_zero, List.getElem_cons_succ, List.setIfInBounds_toArray, List.set_cons_zero, List.set_cons_succ]
        refine wpAnyH_ready (rs := [9]) (by kernel_rfl) (by simp) ?_
        refine AllReadyH.cons rfl (fun KK hK => ?_) AllReadyH.nil
        refine step_call rfl 33 #[.agg (cA (mix (sub (enc K R f r))) 16), .agg (cA (K (r + 1)) 16)] (by kernel_rfl) (HXR.out _) ?_
        rintro e W3 ⟨rfl, b⟩
        have X0 := hide (X0.out.stay b)
        have Y0 := hide (Y0.out.trans (b.mono Y0.out.size))
        have hS0 := X0.out.key
        refine ⟨_, rfl, hK.out _ _ hS0 (fun _ => ?_)⟩
        clear hK KK b
        simp only [Act.put, List.getElem_toArray, List.getElem_cons_zero, List.getElem_cons_succ, List.setIfInBounds_toArray, List.set_cons_zero, List.set_cons_succ]
        refine wpAnyH_ready (rs := [10]) (by kernel_rfl) (by simp) ?_
        refine AllReadyH.cons rfl (fun KK hK => ?_) AllReadyH.nil
        refine step_store rfl 63 (.tmp 5) (.tmp 31) rfl _ (cA (enc K R f (r + 1)) 16) rfl rfl (cA (enc K R f r) 16) 63 X0.out.st (infoBlk _ _) (by rw [cA_size, cA_size]) (cA_one _ _) ?_
        intro W6 G6 K6
        have S6 := KeyAt.kept hS0 K6.out KBN.out.1
        refine hK.out _ _ S6 (fun _ => ?_)
        have NB : Hid (BS w kb R K f (enc K R f (r + 1)) b5 W6) := ⟨S6, G6.out, K6.out.heap X0.out.res KBN.out.2.1, X0.out.bel.trans (K6.out.below X0.out.bel.size (fun i hi e => KBN.out.2.2.1 (e ▸ hi)))⟩
        clear hK KK
        refine wpAnyH_done (by kernel_rfl) ?_ _
        go_wp2_with fail
        go_roundg g1
        case measure => omega
        case rel => exact ⟨r + 1, by omega, by go_num, NB⟩
end Go.Proofs.YtgamfpgejkhbcaaDoor.K
