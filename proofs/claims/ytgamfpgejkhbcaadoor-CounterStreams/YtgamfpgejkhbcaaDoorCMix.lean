/- The program's mixed: contract. -/
import Derived.Test.YtgamfpgejkhbcaaDoorCBlk
namespace Go.Proofs.YtgamfpgejkhbcaaDoor.K
set_option maxRecDepth 100000
open Go Go.RowKit

theorem lenBlk : Tryd.prog.arrayLen 63 = 16 := by kernel_rfl
theorem elemBlk : Tryd.prog.elem 63 = 5 := by kernel_rfl
theorem lenWord : Tryd.prog.arrayLen 60 = 4 := by kernel_rfl
theorem elemWord : Tryd.prog.elem 60 = 5 := by kernel_rfl
theorem sliceBlk_l (K : IntKind) (W : World) (b o l : Nat) (hl : l < 16) :
    (Instr.sliceAt 63 (.pointer (some ⟨b, o, none⟩)) (some (.int K (l : Int))) none none).run Tryd.prog W = .ok (.slice (some ⟨b, o + l, none⟩) (16 - l) (16 - l)) W := by
  rw [run_sliceAt_array_l W 63 ⟨b, o, none⟩ (by kernel_rfl) K (l : Int) (by omega) (by rw [lenBlk]; omega), lenBlk, elemBlk, size5]
  simp only [Result.andThen_ok, slicedAt, Int.toNat_natCast, Nat.mul_one]
  rw [if_neg (by omega), addr_plain]
theorem sliceBlk_lh (K : IntKind) (W : World) (b o l : Nat) (hl : l ≤ 12) :
    (Instr.sliceAt 63 (.pointer (some ⟨b, o, none⟩)) (some (.int K (l : Int))) (some (.int K ((l : Int) + 4))) none).run Tryd.prog W = .ok (.slice (some ⟨b, o + l, none⟩) 4 (16 - l)) W := by
  rw [run_sliceAt_array_lh W 63 ⟨b, o, none⟩ (by kernel_rfl) K K (l : Int) ((l : Int) + 4) (by omega) (by omega) (by rw [lenBlk]; omega), lenBlk, elemBlk, size5]
  simp only [Result.andThen_ok, slicedAt, Int.toNat_natCast, Nat.mul_one]
  rw [if_neg (by omega), addr_plain, show ((l : Int) + 4).toNat - l = 4 by omega]
theorem sliceWord (W : World) (b o : Nat) :
    (Instr.sliceAt 60 (.pointer (some ⟨b, o, none⟩)) none none none).run Tryd.prog W = .ok (.slice (some ⟨b, o, none⟩) 4 4) W := by
  rw [run_sliceAt_array_all W 60 ⟨b, o, none⟩ (by kernel_rfl), lenWord, elemWord, size5]
  simp only [Result.andThen_ok, slicedAt, Nat.mul_one]
  rw [if_neg (by omega), addr_plain]
  rfl
theorem arrWord (W : World) (a : Option Addr) (c : Nat) : (Instr.arrayAt 60 (.slice a 4 c)).run Tryd.prog W = .ok (.pointer a) W := by kernel_rfl
/-- Four of the cells of a block. -/
def four (f : Nat → Nat) (k : Nat) : List Value := [.int .u8 (f k : Nat), .int .u8 (f (k + 1) : Nat), .int .u8 (f (k + 2) : Nat), .int .u8 (f (k + 3) : Nat)]
theorem four_arr (f : Nat → Nat) (k : Nat) : (four f k).toArray = wA (f k) (f (k + 1)) (f (k + 2)) (f (k + 3)) := rfl
theorem four_one (f : Nat → Nat) (k : Nat) : ∀ v ∈ four f k, v.oneCell' = true := fun v hv => by
  simp only [four, List.mem_cons, List.not_mem_nil, or_false] at hv
  rcases hv with rfl | rfl | rfl | rfl <;> rfl
theorem four_range {w : World} {b o k : Nat} {f : Nat → Nat} (h : ∀ i, i < 4 → w.cell? ⟨b, o + i, none⟩ = some (.int .u8 (f (k + i) : Nat))) : w.rangeAt b o (four f k) := fun j v hv => by
  have hj : j < 4 := (List.getElem?_eq_some_iff.1 hv).1
  rw [h j hj]
  rcases (show j = 0 ∨ j = 1 ∨ j = 2 ∨ j = 3 by omega) with rfl | rfl | rfl | rfl <;> exact hv
theorem pt_splice (f g : Nat → Nat) {k : Nat} (hk : k ≤ 12) : (splice (cA (pt f g k) 16).toList k (four g k)).toArray = cA (pt f g (k + 4)) 16 := by
  apply Array.ext_getElem?
  intro j
  rw [List.getElem?_toArray]
  unfold splice
  have hl : (cA (pt f g k) 16).toList.length = 16 := by rw [Array.length_toList, cA_size]
  have h4 : (four g k).length = 4 := rfl
  by_cases h1 : j < k
  · rw [List.getElem?_append_left (by rw [List.length_take, hl]; omega), List.getElem?_take_of_lt h1, Array.getElem?_toList, cA_at _ (by omega), cA_at _ (by omega)]
    simp [pt, h1, show j < k + 4 by omega]
  · rw [List.getElem?_append_right (by rw [List.length_take, hl]; omega), List.length_take, hl, show min k 16 = k by omega]
    by_cases h2 : j < k + 4
    · rw [List.getElem?_append_left (by rw [h4]; omega), cA_at _ (by omega)]
      rcases (show j = k ∨ j = k + 1 ∨ j = k + 2 ∨ j = k + 3 by omega) with rfl | rfl | rfl | rfl
      · rw [Nat.sub_self]; simp [pt, four]
      · rw [show k + 1 - k = 1 by omega]; simp [pt, four]
      · rw [show k + 2 - k = 2 by omega]; simp [pt, four]
      · rw [show k + 3 - k = 3 by omega]; simp [pt, four]
    · rw [List.getElem?_append_right (by rw [h4]; omega), h4, List.getElem?_drop, show k + 4 + (j - k - 4) = j by omega, Array.getElem?_toList]
      by_cases h3 : j < 16
      · rw [cA_at _ h3, cA_at _ h3]
        simp [pt, h1, h2]
      · rw [Array.getElem?_eq_none (by rw [cA_size]; omega), Array.getElem?_eq_none (by rw [cA_size]; omega)]
theorem mix_four (f : Nat → Nat) (c : Nat) : wA (m0 (f (4 * c)) (f (4 * c + 1)) (f (4 * c + 2)) (f (4 * c + 3))) (m0 (f (4 * c + 1)) (f (4 * c + 2)) (f (4 * c + 3)) (f (4 * c))) (m0 (f (4 * c + 2)) (f (4 * c + 3)) (f (4 * c)) (f (4 * c + 1))) (m0 (f (4 * c + 3)) (f (4 * c)) (f (4 * c + 1)) (f (4 * c + 2))) = (four (mix f) (4 * c)).toArray := by
  have g0 : mix f (4 * c) = m0 (f (4 * c)) (f (4 * c + 1)) (f (4 * c + 2)) (f (4 * c + 3)) := by
    unfold mix; rw [show 4 * (4 * c / 4) = 4 * c by omega, show (4 * c) % 4 = 0 by omega, show (4 * c + 1) % 4 = 1 by omega, show (4 * c + 2) % 4 = 2 by omega, show (4 * c + 3) % 4 = 3 by omega]; rfl
  have g1 : mix f (4 * c + 1) = m0 (f (4 * c + 1)) (f (4 * c + 2)) (f (4 * c + 3)) (f (4 * c)) := by
    unfold mix; rw [show 4 * ((4 * c + 1) / 4) = 4 * c by omega, show (4 * c + 1) % 4 = 1 by omega, show (4 * c + 1 + 1) % 4 = 2 by omega, show (4 * c + 1 + 2) % 4 = 3 by omega, show (4 * c + 1 + 3) % 4 = 0 by omega]; rfl
  have g2 : mix f (4 * c + 2) = m0 (f (4 * c + 2)) (f (4 * c + 3)) (f (4 * c)) (f (4 * c + 1)) := by
    unfold mix; rw [show 4 * ((4 * c + 2) / 4) = 4 * c by omega, show (4 * c + 2) % 4 = 2 by omega, show (4 * c + 2 + 1) % 4 = 3 by omega, show (4 * c + 2 + 2) % 4 = 0 by omega, show (4 * c + 2 + 3) % 4 = 1 by omega]; rfl
  have g3 : mix f (4 * c + 3) = m0 (f (4 * c + 3)) (f (4 * c)) (f (4 * c + 1)) (f (4 * c + 2)) := by
    unfold mix; rw [show 4 * ((4 * c + 3) / 4) = 4 * c by omega, show (4 * c + 3) % 4 = 3 by omega, show (4 * c + 3 + 1) % 4 = 0 by omega, show (4 * c + 3 + 2) % 4 = 1 by omega, show (4 * c + 3 + 3) % 4 = 2 by omega]; rfl
  rw [four_arr, g0, g1, g2, g3]
/-- What stands in memory while a block is mixed. -/
structure MM (w : World) (f : Nat → Nat) (k : Nat) (wx : World) : Prop where
  src : wx.heap[w.heap.size]? = some (.cells (cA (pt f (mix f) k) 16) 63 (0, 0))
  res : wx.heap[w.heap.size + 1]? = some (.cells (cA f 0) 63 (0, 0))
  bel : Below w.heap.size w wx
theorem MM.stay {w : World} {f : Nat → Nat} {t : Nat} {wx wy : World} (h : MM w f t wx) (hs : Below wx.heap.size wx wy) : MM w f t wy :=
  ⟨(hs.block _ (lt_of_block h.src)).trans h.src, (hs.block _ (lt_of_block h.res)).trans h.res, h.bel.trans (hs.mono h.bel.size)⟩
theorem sizeU8 : (Tryd.prog.info? 5).map (·.size) = some 1 := by kernel_rfl
/-- Some cells copied into a row that is known whole, as a step of a region that draws: all other blocks are kept. -/
theorem step_copy_kept {ops : Array Oper} {o : Oper} {a : Act} {w : World} {K : Act → World → Prop} {Q : Exit → Act → World → Prop} {E : Prop} (hgd : o.guard = none) (d s : Operand)
    (ho : o.op = .call { callee := .builtin .copy, args := #[d, s], argTypes := #[22, 22] }) (ad : Addr) (dLen dCap sLen sCap g off : Nat) (hd : a.eval d = .slice (some ⟨g, off, none⟩) dLen dCap) (hs : a.eval s = .slice (some ad) sLen sCap)
    (cur : List Value) (t : TypeId) (hg : w.heap[g]? = some (.cells cur.toArray t (0, 0))) (cs : List Value) (hn : cs.length = Nat.min sLen dLen)
    (hsrc : ∀ j v, cs[j]? = some v → w.cell? (ad.add j) = some v) (hfit : off + cs.length ≤ cur.length) (h1 : ∀ v ∈ cs, v.oneCell' = true)
    (h : ∀ w', Hid (w'.heap[g]? = some (.cells (splice cur off cs).toArray t (0, 0))) → Hid (Kept (fun k => k = g) w w') → K (a.put o.dst (goInt cs.length)) w') :
    if Region.wanted o (yielded ops a.tmps) = true then Oper.wp Tryd.prog o a w K Q else E := by
  have hw : Region.wanted o (yielded ops a.tmps) = true := by simp [Region.wanted, hgd]
  rw [if_pos hw]
  have hrun := run_copy_row (P := Tryd.prog) w 22 22 o.type 5 g off dLen dCap ad sLen sCap cur.toArray t cs Tryd.underlying22 sizeU8 hg hn hsrc (by simpa using hfit) h1
  unfold Oper.wp
  simp [execOp, ho, resolve, invoke, builtin, hd, hs, hrun, Result.andThen]
  refine h _ (show _ = _ from ?_) (kept_setRow _ _ _ _ rfl)
  have := setRow_heap' w g (splice cur off cs).toArray cur.toArray t (0, 0) hg
  simpa [splice] using this
set_option maxHeartbeats 8000000 in
theorem mixed_p (f : Nat → Nat) (w : World) (hf : By16 f) :
    Calls Tryd.prog 34 #[.agg (cA f 16)] w fun e w' => e = .returned (.agg (cA (mix f) 16)) ∧ Below w.heap.size w w' := by
  have hz : ∀ w, (zeroValue 63).run Tryd.prog w = .ok (.agg (cA f 0)) w := (zeroBlk f).1
  have hz4 : ∀ w, (zeroValue 60).run Tryd.prog w = .ok (.agg (wA 0 0 0 0)) w := zero4.1
  have HF := hide hf
  obtain ⟨q0, q1⟩ := heap2w w (.cells (cA f 16) 63) (.cells (cA f 0) 63)
  have M0 : Hid (MM w f (4 * 0) ((w.alloc (.cells (cA f 16) 63)).alloc (.cells (cA f 0) 63))) :=
    ⟨by rw [show pt f (mix f) (4 * 0) = f from pt_zero _ _]; exact q0, q1, ((Below.refl _ w).alloc (Nat.le_refl _) _).alloc (by simp) _⟩
  have HI := hide (infoBlk (mix f) 16)
  clear q0 q1 hf
  go_enter Tryd.func34, Tryd.ntmps34
  go_wp2_with fail
  generalize (w.alloc _).alloc _ = wz at M0 ⊢
  go_loopg [3] 4 (fun gk u3 wx => ∃ c : Nat, c + gk = 4 ∧ u3 = .int .i64 ((4 * c : Nat) : Int) ∧ Hid (MM w f (4 * c) wx))
  case atStart => exact ⟨0, by omega, rfl, M0⟩
  case round =>
    obtain ⟨c, hcg, rfl, MC⟩ := hrel
    clear M0
    cases gk with
    | zero =>
      obtain rfl : c = 4 := by omega
      have hge : ¬ ((4 * 4 : Nat) : Int) < 16 := by omega
      have X0 : Hid (wr.heap[w.heap.size]? = some (.cells (cA (pt f (mix f) 16) 16) 63 (0, 0))) := MC.out.src
      rw [pt_end] at X0
      have X1 := hide MC.out.res
      have XB := hide MC.out.bel
      clear MC
      have HS := hide (show (cA f 0).size = (cA (mix f) 16).size by rw [cA_size, cA_size])
      have HO := hide (cA_one (mix f) 16)
      obtain ⟨oc, hoc⟩ : ∃ oc, oc = cA (mix f) 16 := ⟨_, rfl⟩
      have HOC := hide hoc
      rw [← hoc] at X0 HI HS HO
      clear hoc
      go_wp2_with (first
        | (refine wpList_load_row rfl 63 (.tmp 1) rfl w.heap.size (by rfl) oc 63 (0, 0) X0.out _ Tryd.underlying63 rfl HI.out ?_)
        | (refine wpList_store_row rfl 63 (.tmp 2) (.tmp 20) rfl (w.heap.size + 1) oc (by rfl) (by rfl) (cA f 0) 63 X1.out HI.out HS.out HO.out ?_; intro w6 G6 K6))
      have hld : (loadVar 63 ⟨w.heap.size + 1, 0, none⟩).run Tryd.prog w6 = .ok (.agg oc) w6 :=
        run_loadVar_row _ _ 63 63 oc (0, 0) _ G6.out Tryd.underlying63 rfl HI.out
      refine bodyPost_ret (v := .agg oc) ?_ rfl ⟨by rw [HOC.out], XB.out.trans (K6.out.below XB.out.size (fun i hi e => by omega))⟩
      simp [results, asAddr, hld]
    | succ g1 =>
      have hlt : ((4 * c : Nat) : Int) < 16 := by omega
      have hc3 : c ≤ 3 := by omega
      have l0 := HF.out (4 * c) (by omega)
      have l1 := HF.out (4 * c + 1) (by omega)
      have l2 := HF.out (4 * c + 2) (by omega)
      have l3 := HF.out (4 * c + 3) (by omega)
      have HW := hide (mixedWord_c (f (4 * c)) (f (4 * c + 1)) (f (4 * c + 2)) (f (4 * c + 3)) wr l0 l1 l2 l3)
      rw [mix_four, ← four_arr] at HW
      obtain ⟨k, hk⟩ : ∃ k, k = 4 * c := ⟨_, rfl⟩
      rw [← hk] at MC hlt HW ⊢
      have HKC := hide hk
      have k12 : k ≤ 12 := by omega
      have k0 : (0 : Int) ≤ (k : Int) := by omega
      have k1 : (k : Int) ≤ 12 := by omega
      have RG := hide (show wr.rangeAt w.heap.size k (four f k) from four_range fun i hi => by
        rw [cells_of MC.out.src (k + i), cA_at _ (by omega), pt, if_neg (by omega)])
      have hs1 := fun W => sliceBlk_lh .i64 W w.heap.size 0 k k12
      have hs2 := fun W => sliceBlk_l .i64 W w.heap.size 0 k (by omega)
      have hs3 := fun W b => sliceWord W b 0
      have har := fun W a c => arrWord W a c
      rw [Nat.zero_add] at hs1 hs2
      have HI4 := hide (show (Tryd.prog.info? 60).map (·.size) = some (four f k).length from zero4.2)
      have HJ4 := hide (show (Tryd.prog.info? 60).map (·.size) = some (four (mix f) k).toArray.size from zero4.2)
      have HO4 := hide (show (four (mix f) k).toArray.all (·.oneCell') = true from wA_one _ _ _ _)
      have HSP := hide (pt_splice f (mix f) k12)
      have HS4 := hide (show (wA 0 0 0 0).size = (four (mix f) k).toArray.size from rfl)
      have HLF := hide (show (four (mix f) k).length = 4 from rfl)
      have HF1 := hide (four_one (mix f) k)
      generalize four f k = F4 at HW RG HI4
      generalize hG4 : four (mix f) k = G4 at HW HJ4 HO4 HSP HLF HF1 HS4
      clear hG4 hk l0 l1 l2 l3 hc3
      go_upto_region 5 with (first
        | (refine wpList_load_mid rfl 60 (.tmp 13) rfl w.heap.size k (by rfl) F4 _ RG.out Tryd.underlying60 rfl HI4.out ?_)
        | (go_at_call 46; refine HW.out.mono ?_; rintro e w1 ⟨rfl, b1⟩; have B1 := hide b1; clear b1)
        | (refine wpList_store_row rfl 60 (.tmp 4) (.tmp 15) rfl w1.heap.size G4.toArray (by rfl) (by rfl) (wA 0 0 0 0) 60 (heap_new w1 _) HJ4.out HS4.out HO4.out ?_; intro w2 X2 K2))
      have B2 : Below wr.heap.size wr w2 := (B1.out.alloc (B1.out.size) (.cells (wA 0 0 0 0) 60)).trans (K2.out.below (by simp; have := B1.out.size; omega) (fun i hi e => by have := B1.out.size; omega))
      have MD := MC.out.stay B2
      have Y0 := hide MD.src
      have Y1 := hide MD.res
      have YB := hide MD.bel
      have Y2 := hide (show ∀ j v, G4[j]? = some v → w2.drew.cell? ((⟨w1.heap.size, 0, none⟩ : Addr).add j) = some v from fun j v hv => by
        rw [addr_plain, Nat.zero_add]
        show w2.cell? _ = _
        rw [cells_of X2.out j]
        simpa using hv)
      have HMN := hide (show G4.length = Nat.min 4 (16 - k) by rw [HLF.out]; exact (Nat.min_eq_left (by omega)).symm)
      obtain ⟨L, hL⟩ : ∃ L, L = (cA (pt f (mix f) k) 16).toList := ⟨_, rfl⟩
      have HLL := hide (show L.length = 16 by rw [hL, Array.length_toList, cA_size])
      have Y3 : Hid (w2.drew.heap[w.heap.size]? = some (.cells L.toArray 63 (0, 0))) := by rw [hL, Array.toArray_toList]; exact Y0.out
      have YD : Hid (Below w.heap.size w w2.drew) := ⟨YB.out.os, YB.out.tape, YB.out.output, YB.out.size, YB.out.block⟩
      rw [← hL] at HSP
      have NE : Hid (w.heap.size + 1 < w2.drew.heap.size) := lt_of_block (show w2.drew.heap[w.heap.size + 1]? = _ from Y1.out)
      have HRS : Hid (w2.drew.heap[w.heap.size + 1]? = some (.cells (cA f 0) 63 (0, 0))) := Y1.out
      have k16 : (k : Int) < 16 := by omega
      clear hL MD Y0 X2 MC B2 K2 B1 RG
      go_region_law (refine step_copy_kept rfl (.tmp 17) (.tmp 18) rfl _ _ _ _ _ w.heap.size k (by rfl) (by rfl) L 63 Y3.out G4 HMN.out Y2.out (by rw [HLF.out, HLL.out]; omega) HF1.out ?_; intro w4 X4 K4)
      all_goals (
        have N4 : Hid (MM w f (k + 4) w4) := ⟨by rw [← HSP.out]; exact X4.out, K4.out.heap HRS.out (by omega), YD.out.trans (K4.out.below YD.out.size (fun i hi e => by omega))⟩
        clear X4 K4 YD HRS Y3 Y2 YB Y1
        go_wp2_with fail
        go_roundg g1
        (case measure => omega)
        (case rel => exact ⟨c + 1, by omega, by have := HKC.out; go_num, by have := HKC.out; rw [show 4 * (c + 1) = k + 4 by omega]; exact N4⟩))
end Go.Proofs.YtgamfpgejkhbcaaDoor.K
