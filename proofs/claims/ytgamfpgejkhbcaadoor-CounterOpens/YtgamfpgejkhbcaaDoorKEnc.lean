/- The reference's Block: contract. -/
import Derived.Test.YtgamfpgejkhbcaaDoorKMix
namespace Go.Proofs.YtgamfpgejkhbcaaDoor.K
set_option maxRecDepth 100000
open Go Go.RowKit

/-- Round keys in memory: rows of sixteen bytes. -/
def KeyRows (w : World) (rb ro R : Nat) (K : Nat → Nat → Nat) : Prop := rb < w.heap.size ∧ ∀ r, r ≤ R → ∃ b o c, w.cell? ⟨rb, ro + r, none⟩ = some (.slice (some ⟨b, o, none⟩) 16 c) ∧ b < w.heap.size ∧ ∀ i, i < 16 → w.cell? ⟨b, o + i, none⟩ = some (.int .u8 (K r i : Nat))
theorem KeyRows.below {w w' : World} {rb ro R : Nat} {K : Nat → Nat → Nat} (h : KeyRows w rb ro R K) (k : Below w.heap.size w w') : KeyRows w' rb ro R K := by
  refine ⟨Nat.lt_of_lt_of_le h.1 k.size, fun r hr => ?_⟩
  obtain ⟨b, o, c, h1, h2, h3⟩ := h.2 r hr
  exact ⟨b, o, c, (k.cell (p := ⟨rb, ro + r, none⟩) h.1).trans h1, Nat.lt_of_lt_of_le h2 k.size, fun i hi => (k.cell (p := ⟨b, o + i, none⟩) h2).trans (h3 i hi)⟩
/-- The boxes in memory. -/
def BoxRow (w : World) (bb bo : Nat) : Prop := bb < w.heap.size ∧ ∀ i, i < 256 → w.cell? ⟨bb, bo + i, none⟩ = some (.int .u8 (bx i : Nat))
theorem BoxRow.below {w w' : World} {bb bo : Nat} (h : BoxRow w bb bo) (k : Below w.heap.size w w') : BoxRow w' bb bo := ⟨Nat.lt_of_lt_of_le h.1 k.size, fun i hi => (k.cell (p := ⟨bb, bo + i, none⟩) h.1).trans (h.2 i hi)⟩
/-- A block of which the first i bytes have become others. -/
def pt (f g : Nat → Nat) (i j : Nat) : Nat := if j < i then g j else f j
theorem pt_set (f g : Nat → Nat) {i : Nat} (h : i < 16) : (cA (pt f g i) 16).setIfInBounds i (.int .u8 (g i : Nat)) = cA (pt f g (i + 1)) 16 := by
  apply Array.ext_getElem?
  intro j
  rw [Array.getElem?_setIfInBounds, cA_size]
  by_cases hj : j < 16
  · rw [cA_at _ hj, cA_at _ hj]
    unfold pt
    by_cases e : i = j
    · subst e
      rw [if_pos rfl, if_pos h, if_pos (by omega)]
    · rw [if_neg e]
      by_cases h1 : j < i
      · rw [if_pos h1, if_pos (by omega)]
      · rw [if_neg h1, if_neg (by omega)]
  · have n1 : (cA (pt f g i) 16)[j]? = none := Array.getElem?_eq_none (by rw [cA_size]; omega)
    have n2 : (cA (pt f g (i + 1)) 16)[j]? = none := Array.getElem?_eq_none (by rw [cA_size]; omega)
    rw [n1, n2, if_neg (by omega)]
theorem pt_zero (f g : Nat → Nat) : pt f g 0 = f := by funext j; simp [pt]
theorem pt_end (f g : Nat → Nat) : cA (pt f g 16) 16 = cA g 16 := cA_congr (fun i hi => by simp [pt, hi]) 16
theorem pt_at (f g : Nat → Nat) (i : Nat) : pt f g i i = f i := by simp [pt]
/-- What stands in memory between the rounds. -/
structure ES (w : World) (e : Nat → Nat) (wx : World) : Prop where
  b : wx.heap[w.heap.size]? = some (.cells (cA e 16) 39 (0, 0))
  res : wx.heap[w.heap.size + 1]? = some (.cells (cA e 0) 39 (0, 0))
  bel : Below w.heap.size w wx
theorem cA_nil (f g : Nat → Nat) : cA f 0 = cA g 0 := by rw [cA, cA, fA_zero, fA_zero]
theorem ES.drew {w : World} {e : Nat → Nat} {wx : World} (h : ES w e wx) : ES w e wx.drew := ⟨h.b, h.res, ⟨h.bel.os, h.bel.tape, h.bel.output, h.bel.size, h.bel.block⟩⟩
theorem ES.set {w : World} {f g : Nat → Nat} {i : Nat} {wx : World} (h : ES w (pt f g i) wx) (hi : i < 16) : ES w (pt f g (i + 1)) (wx.setCell ⟨w.heap.size, i, none⟩ (.int .u8 (g i : Nat))) :=
  ⟨by rw [set_of h.b, pt_set _ _ hi], by rw [cA_nil _ (pt f g i)]; exact (set_other (by omega)).trans h.res, h.bel.setCell (p := ⟨w.heap.size, i, none⟩) (Nat.le_refl _) _⟩
theorem ES.like {w : World} {e e' : Nat → Nat} {wx : World} (h : ES w e wx) (hc : cA e 16 = cA e' 16) : ES w e' wx := ⟨by rw [← hc]; exact h.b, by rw [cA_nil e' e]; exact h.res, h.bel⟩
/-- .. and within one: a block of one's own at bm. -/
structure EM (w : World) (bm : Nat) (e g : Nat → Nat) (t : Nat) (wx : World) : Prop where
  es : ES w e wx
  m : wx.heap[bm]? = some (.cells (cA g t) 39 (0, 0))
theorem EM.drew {w : World} {bm : Nat} {e g : Nat → Nat} {t : Nat} {wx : World} (h : EM w bm e g t wx) : EM w bm e g t wx.drew := ⟨h.es.drew, h.m⟩
theorem EM.lay {w : World} {bm : Nat} {e g : Nat → Nat} {t : Nat} {wx : World} (h : EM w bm e g t wx) (hb : w.heap.size + 1 < bm) (ht : t < 16) : EM w bm e g (t + 1) (wx.setCell ⟨bm, t, none⟩ (.int .u8 (g t : Nat))) :=
  ⟨⟨(set_other (by omega)).trans h.es.b, (set_other (by omega)).trans h.es.res, h.es.bel.setCell (p := ⟨bm, t, none⟩) (by show w.heap.size ≤ bm; omega) _⟩, by rw [set_of h.m, cA_set _ ht]⟩
theorem EM.set {w : World} {bm : Nat} {f g m : Nat → Nat} {i : Nat} {wx : World} (h : EM w bm (pt f g i) m 16 wx) (hb : w.heap.size + 1 < bm) (hi : i < 16) : EM w bm (pt f g (i + 1)) m 16 (wx.setCell ⟨w.heap.size, i, none⟩ (.int .u8 (g i : Nat))) :=
  ⟨h.es.set hi, (set_other (by omega)).trans h.m⟩

set_option maxHeartbeats 8000000 in
theorem block_c (rb ro rc bb bo bc R : Nat) (K : Nat → Nat → Nat) (f : Nat → Nat) (w : World) (hR : 1 ≤ R) (hRl : R ≤ 14) (hK : KeyRows w rb ro R K) (hKb : ∀ r, r ≤ R → By16 (K r)) (hB : BoxRow w bb bo) (hf : By16 f) :
    Calls Tryd.prog 22 #[.slice (some ⟨rb, ro, none⟩) (R + 1) rc, .slice (some ⟨bb, bo, none⟩) 256 bc, .agg (cA f 16)] w fun e w' => e = .returned (.agg (cA (enc K R f R) 16)) ∧ Below w.heap.size w w' := by
  have hz : ∀ w, (zeroValue 39).run Tryd.prog w = .ok (.agg (cA f 0)) w := (zero16 f).1
  have HF := hide hf
  have HK := hide hK
  have HB := hide hB
  have HKB := hide hKb
  have HI := fun g t => hide (info16 g t)
  have E0 : Hid (ES w (pt f (fun i => f i ^^^ K 0 i) 0) ((w.alloc (.cells (cA f 16) 39)).alloc (.cells (cA f 0) 39))) := by
    rw [pt_zero]
    exact ⟨heap_new1 _ _ _, heap_new2 _ _ _, ((Below.refl _ w).alloc (Nat.le_refl _) _).alloc (by simp) _⟩
  clear hf hK hB hKb
  go_enter Tryd.func22, Tryd.ntmps22
  go_wp2_with fail
  generalize (w.alloc (.cells (cA f 16) 39)).alloc (.cells (cA f 0) 39) = wz at E0 ⊢
  go_loopg [7] 16 (fun gk u7 wx => ∃ i : Nat, i + gk = 16 ∧ u7 = .int .i64 i ∧ Hid (ES w (pt f (fun i => f i ^^^ K 0 i) i) wx))
  case atStart => exact ⟨0, by omega, rfl, E0⟩
  case round =>
    obtain ⟨i, hig, rfl, EX⟩ := hrel
    clear E0
    cases gk with
    | zero =>
      obtain rfl : i = 16 := by omega
      have hge : ¬ ((16 : Nat) : Int) < 16 := by omega
      have E1 : Hid (ES w (enc K R f 0) wr) := EX.out.like (by rw [pt_end]; rfl)
      clear EX
      go_wp2_with fail
      go_loopg [8] R (fun gk u8 wx => ∃ r : Nat, r + gk = R ∧ u8 = .int .i64 ((r : Int) + 1) ∧ Hid (ES w (enc K R f r) wx))
      case atStart => exact ⟨0, by omega, rfl, E1⟩
      case round =>
        obtain ⟨r, hrg, rfl, EX0⟩ := hrel
        clear E1
        cases gk with
        | zero =>
          obtain rfl : r = R := by omega
          have hge2 : ¬ (r : Int) + 1 < (r : Int) + 1 := by omega
          have XB := hide EX0.out.b
          have XR := hide EX0.out.res
          have XL := hide EX0.out.bel
          have HIE := hide (HI (enc K r f r) 16).out
          have HS := hide (show (cA (enc K r f r) 0).size = (cA (enc K r f r) 16).size by rw [cA_size, cA_size])
          have HO := hide (cA_one (enc K r f r) 16)
          obtain ⟨oc, hoc⟩ : ∃ oc, oc = cA (enc K r f r) 16 := ⟨_, rfl⟩
          have HOC := hide hoc
          rw [← hoc] at XB HS HO HIE
          clear hoc EX0
          go_wp2_with (first
            | (refine wpList_load_row rfl 39 (.tmp 5) rfl w.heap.size (by rfl) oc 39 (0, 0) XB.out _ Tryd.underlying39 rfl HIE.out ?_)
            | (refine wpList_store_row rfl 39 (.tmp 6) (.tmp 84) rfl (w.heap.size + 1) oc (by rfl) (by rfl) (cA (enc K r f r) 0) 39 XR.out HIE.out HS.out HO.out ?_; intro w6 G6 K6))
          have hld : (loadVar 39 ⟨w.heap.size + 1, 0, none⟩).run Tryd.prog w6 = .ok (.agg oc) w6 :=
            run_loadVar_row _ _ 39 39 oc (0, 0) _ G6.out Tryd.underlying39 rfl HIE.out
          refine bodyPost_ret (v := .agg oc) ?_ rfl ⟨by rw [HOC.out], XL.out.trans (K6.out.below XL.out.size (fun i hi e => by omega))⟩
          simp [results, asAddr, hld]
        | succ g2 =>
          have hlt2 : (r : Int) + 1 < (R : Int) + 1 := by omega
          have l1 := lt_of_block' EX0.out.res
          have HEB := hide (enc_by HKB.out HF.out r (by omega))
          obtain ⟨bm, hbm0⟩ : ∃ bm, bm = wr.heap.size := ⟨_, rfl⟩
          have hbm : w.heap.size + 1 < bm := by omega
          have M0 : Hid (EM w bm (enc K R f r) (sub (enc K R f r)) (4 * 0) (wr.alloc (.cells (cA f 0) 39))) :=
            ⟨⟨heap_old EX0.out.b, heap_old EX0.out.res, EX0.out.bel.alloc EX0.out.bel.size _⟩, by rw [hbm0, cA_nil (sub (enc K R f r)) f]; exact heap_new _ _⟩
          go_wp2_with fail
          rw [← hbm0]
          generalize wr.alloc (.cells (cA f 0) 39) = wy at M0 ⊢
          clear hbm0 l1 EX0
          have EX0 := True.intro
          go_loopg [10] 4 (fun gk u10 wx => ∃ c : Nat, c + gk = 4 ∧ u10 = .int .i64 c ∧ Hid (EM w bm (enc K R f r) (sub (enc K R f r)) (4 * c) wx))
          case atStart => exact ⟨0, by omega, rfl, M0⟩
          case round =>
            obtain ⟨c, hcg, rfl, MC⟩ := hrel
            clear M0
            cases gk with
            | zero =>
              obtain rfl : c = 4 := by omega
              have hge4 : ¬ ((4 : Nat) : Int) < 4 := by omega
              by_cases hl : r + 1 < R
              · have hl' : (r : Int) + 1 < (R : Int) := by omega
                have HMX := hide (mixed_c (sub (enc K R f r)) wr (sub_by HEB.out))
                have XM := hide (show wr.heap[bm]? = some (.cells (cA (sub (enc K R f r)) 16) 39 (0, 0)) from MC.out.m)
                have HIS := hide (HI (sub (enc K R f r)) 16).out
                have HIM := hide (HI (mix (sub (enc K R f r))) 16).out
                have HSS := hide (show (cA (sub (enc K R f r)) 16).size = (cA (mix (sub (enc K R f r))) 16).size by rw [cA_size, cA_size])
                have HSO := hide (cA_one (mix (sub (enc K R f r))) 16)
                go_upto_region 18 with (first
                  | (refine wpList_load_row rfl 39 (.tmp 9) rfl bm (by rfl) (cA (sub (enc K R f r)) 16) 39 (0, 0) XM.out _ Tryd.underlying39 rfl HIS.out ?_)
                  | (go_at_call 38; refine HMX.out.mono ?_; rintro e w5 ⟨rfl, k5⟩; have K5 := hide k5; have YM := hide ((k5.block _ (lt_of_block' XM.out)).trans XM.out); clear k5)
                  | (refine wpList_store_row rfl 39 (.tmp 9) (.tmp 66) rfl bm (cA (mix (sub (enc K R f r))) 16) (by rfl) (by rfl) (cA (sub (enc K R f r)) 16) 39 YM.out HIM.out HSS.out HSO.out ?_; intro w6 G6 K6))
                have MM : Hid (EM w bm (enc K R f r) (mix (sub (enc K R f r))) 16 w6) := by
                  have e := MC.out.es
                  have B := e.bel.trans (K5.out.mono e.bel.size)
                  exact ⟨⟨K6.out.heap ((K5.out.block _ (lt_of_block' e.b)).trans e.b) (by omega), K6.out.heap ((K5.out.block _ (lt_of_block' e.res)).trans e.res) (by omega), B.trans (K6.out.below B.size (fun i hi e => by omega))⟩, G6.out⟩
                have HMB := hide (mix_by (sub_by HEB.out))
                clear K5 K6 G6 YM XM HIS HIM HSS HSO HMX MC HEB
                have HNX := hide (show enc K R f (r + 1) = fun i => mix (sub (enc K R f r)) i ^^^ K (r + 1) i by funext i; rw [enc]; simp only [if_pos hl])
                obtain ⟨e, he⟩ : ∃ e, e = enc K R f r := ⟨_, rfl⟩
                rw [← he] at MM HMB HNX
                clear he EX0
                obtain ⟨M, hM⟩ : ∃ M, M = mix (sub e) := ⟨_, rfl⟩
                rw [← hM] at MM HMB HNX
                clear hM
                have MP : Hid (EM w bm (pt e (fun i => M i ^^^ K (r + 1) i) 0) M 16 w6) := by rw [pt_zero]; exact MM
                clear MM
                go_wp2_with fail
                go_loopg [12] 16 (fun gk u12 wx => ∃ i : Nat, i + gk = 16 ∧ u12 = .int .i64 i ∧ Hid (EM w bm (pt e (fun i => M i ^^^ K (r + 1) i) i) M 16 wx))
                case atStart => exact ⟨0, by omega, rfl, MP⟩
                case round =>
                  obtain ⟨i, hig, rfl, MX⟩ := hrel
                  clear MP
                  cases gk with
                  | zero =>
                    obtain rfl : i = 16 := by omega
                    have hge3 : ¬ ((16 : Nat) : Int) < 16 := by omega
                    have E2 : Hid (ES w (enc K R f (r + 1)) wr) := MX.out.es.like (by rw [pt_end, HNX.out])
                    clear MX HNX
                    go_wp2_with fail
                    go_roundg g2
                    case measure => omega
                    case rel => exact ⟨r + 1, by omega, by go_num, E2⟩
                  | succ g3 =>
                    have hlt3 : (i : Int) < 16 := by omega
                    have hi : i < 16 := by omega
                    obtain ⟨b, o, c, h1, h2, h3⟩ := HK.out.2 (r + 1) (by omega)
                    have hE := MX.out.drew
                    have cr := (hE.es.bel.cell (p := ⟨rb, ro + (r + 1), none⟩) HK.out.1).trans h1
                    have ck := (hE.es.bel.cell (p := ⟨b, o + i, none⟩) h2).trans (h3 i hi)
                    have cm := (cells_of hE.m i).trans (cA_at _ hi)
                    have cb := (cells_of hE.es.b i).trans (cA_at _ hi)
                    have fb := free_of hE.es.b i
                    have hset := hide (hE.set hbm hi)
                    have q1 := HMB.out i hi
                    have q2 := HKB.out (r + 1) (by omega) i hi
                    have hxr := xor8 _ _ q1 q2
                    generalize M i ^^^ K (r + 1) i = Z at hset hxr
                    generalize M i = F at cm q1 hxr
                    generalize K (r + 1) i = G at ck q2 hxr
                    generalize pt e (fun i => M i ^^^ K (r + 1) i) i i = OB at cb
                    have i0 : (0 : Int) ≤ (i : Int) := by omega
                    clear hE h1 h2 h3 hi HNX MX
                    go_upto_region 21 with fail
                    go_region_with (fail)
                    all_goals go_wp2_with fail
                    all_goals (go_roundg g3; (case measure => omega); (case rel => exact ⟨i + 1, by omega, by go_num, hset⟩))
              · have hl' : ¬ (r : Int) + 1 < (R : Int) := by omega
                have MM : Hid (EM w bm (enc K R f r) (sub (enc K R f r)) 16 wr) := MC.out
                have HMB := hide (sub_by HEB.out)
                clear MC HEB
                have HNX := hide (show enc K R f (r + 1) = fun i => sub (enc K R f r) i ^^^ K (r + 1) i by funext i; rw [enc]; simp only [if_neg hl])
                obtain ⟨e, he⟩ : ∃ e, e = enc K R f r := ⟨_, rfl⟩
                rw [← he] at MM HMB HNX
                clear he EX0
                obtain ⟨M, hM⟩ : ∃ M, M = sub e := ⟨_, rfl⟩
                rw [← hM] at MM HMB HNX
                clear hM
                have MP : Hid (EM w bm (pt e (fun i => M i ^^^ K (r + 1) i) 0) M 16 wr) := by rw [pt_zero]; exact MM
                clear MM
                go_wp2_with fail
                go_loopg [12] 16 (fun gk u12 wx => ∃ i : Nat, i + gk = 16 ∧ u12 = .int .i64 i ∧ Hid (EM w bm (pt e (fun i => M i ^^^ K (r + 1) i) i) M 16 wx))
                case atStart => exact ⟨0, by omega, rfl, MP⟩
                case round =>
                  obtain ⟨i, hig, rfl, MX⟩ := hrel
                  clear MP
                  cases gk with
                  | zero =>
                    obtain rfl : i = 16 := by omega
                    have hge3 : ¬ ((16 : Nat) : Int) < 16 := by omega
                    have E2 : Hid (ES w (enc K R f (r + 1)) wr) := MX.out.es.like (by rw [pt_end, HNX.out])
                    clear MX HNX
                    go_wp2_with fail
                    go_roundg g2
                    case measure => omega
                    case rel => exact ⟨r + 1, by omega, by go_num, E2⟩
                  | succ g3 =>
                    have hlt3 : (i : Int) < 16 := by omega
                    have hi : i < 16 := by omega
                    obtain ⟨b, o, c, h1, h2, h3⟩ := HK.out.2 (r + 1) (by omega)
                    have hE := MX.out.drew
                    have cr := (hE.es.bel.cell (p := ⟨rb, ro + (r + 1), none⟩) HK.out.1).trans h1
                    have ck := (hE.es.bel.cell (p := ⟨b, o + i, none⟩) h2).trans (h3 i hi)
                    have cm := (cells_of hE.m i).trans (cA_at _ hi)
                    have cb := (cells_of hE.es.b i).trans (cA_at _ hi)
                    have fb := free_of hE.es.b i
                    have hset := hide (hE.set hbm hi)
                    have q1 := HMB.out i hi
                    have q2 := HKB.out (r + 1) (by omega) i hi
                    have hxr := xor8 _ _ q1 q2
                    generalize M i ^^^ K (r + 1) i = Z at hset hxr
                    generalize M i = F at cm q1 hxr
                    generalize K (r + 1) i = G at ck q2 hxr
                    generalize pt e (fun i => M i ^^^ K (r + 1) i) i i = OB at cb
                    have i0 : (0 : Int) ≤ (i : Int) := by omega
                    clear hE h1 h2 h3 hi HNX MX
                    go_upto_region 21 with fail
                    go_region_with (fail)
                    all_goals go_wp2_with fail
                    all_goals (go_roundg g3; (case measure => omega); (case rel => exact ⟨i + 1, by omega, by go_num, hset⟩))
            | succ g3 =>
              have hlt4 : (c : Int) < 4 := by omega
              have M1 : Hid (EM w bm (enc K R f r) (sub (enc K R f r)) (4 * c + 0) wr) := MC
              clear MC
              go_wp2_with fail
              go_loopg [11] 4 (fun gk u11 wx => ∃ i : Nat, i + gk = 4 ∧ u11 = .int .i64 i ∧ Hid (EM w bm (enc K R f r) (sub (enc K R f r)) (4 * c + i) wx))
              case atStart => exact ⟨0, by omega, rfl, M1⟩
              case round =>
                obtain ⟨i, hig, rfl, MI⟩ := hrel
                clear M1
                cases gk with
                | zero =>
                  obtain rfl : i = 4 := by omega
                  have hge5 : ¬ ((4 : Nat) : Int) < 4 := by omega
                  go_wp2_with fail
                  go_roundg g3
                  case measure => omega
                  case rel => exact ⟨c + 1, by omega, by go_num, by rw [show 4 * (c + 1) = 4 * c + 4 by omega]; exact MI⟩
                | succ g4 =>
                  have hlt5 : (i : Int) < 4 := by omega
                  obtain ⟨t, ht⟩ : ∃ t, t = 4 * c + i := ⟨_, rfl⟩
                  obtain ⟨j, hj⟩ : ∃ j, j = (c + i) % 4 := ⟨_, rfl⟩
                  obtain ⟨s, hs⟩ : ∃ s, s = 4 * j + i := ⟨_, rfl⟩
                  have hsg : sg t = s := by unfold sg; omega
                  have hs16 : s < 16 := by omega
                  have ht16 : t < 16 := by omega
                  have HTN := hide (show 4 * c + (i + 1) = t + 1 by omega)
                  rw [← ht] at MI
                  have r1 : (4 : Int) * (c : Int) + (i : Int) = (t : Int) := by omega
                  have r2 : ((c : Int) + (i : Int)) % 4 = (j : Int) := by omega
                  have r3 : (4 : Int) * (j : Int) + (i : Int) = (s : Int) := by omega
                  have cb := (cells_of MI.out.es.b s).trans (cA_at _ hs16)
                  have hX := HEB.out s hs16
                  have hv : sub (enc K R f r) t = bx (enc K R f r s) := by unfold sub; rw [hsg]
                  have hset := hide (MI.out.lay hbm ht16)
                  rw [hv] at hset
                  have fm := free_of MI.out.m t
                  have cm := (cells_of MI.out.m t).trans (fA_not .u8 _ ht16)
                  have cx := (MI.out.es.bel.cell (p := ⟨bb, bo + enc K R f r s, none⟩) HB.out.1).trans (HB.out.2 _ hX)
                  generalize bx (enc K R f r s) = BV at hset cx
                  generalize enc K R f r s = X at cb hX cx
                  have s0 : (0 : Int) ≤ (s : Int) := by omega
                  have s1 : (s : Int) < 16 := by omega
                  have t0 : (0 : Int) ≤ (t : Int) := by omega
                  have t1 : (t : Int) < 16 := by omega
                  have x0 : (0 : Int) ≤ (X : Int) := by omega
                  have x1 : (X : Int) < 256 := by omega
                  clear ht hj hs hsg hv MI
                  go_wp2_with fail
                  go_roundg g4
                  case measure => omega
                  case rel => exact ⟨i + 1, by omega, by go_num, by rw [HTN.out]; exact hset⟩
    | succ g1 =>
      have hlt : (i : Int) < 16 := by omega
      have hi : i < 16 := by omega
      obtain ⟨b, o, c, h1, h2, h3⟩ := HK.out.2 0 (by omega)
      have hE := EX.out.drew
      have cr := (hE.bel.cell (p := ⟨rb, ro, none⟩) HK.out.1).trans h1
      have ck := (hE.bel.cell (p := ⟨b, o + i, none⟩) h2).trans (h3 i hi)
      have cb := (cells_of hE.b i).trans (cA_at _ hi)
      rw [pt_at] at cb
      have fb := free_of hE.b i
      have hset := hide (hE.set hi)
      have q1 := HF.out i hi
      have q2 := HKB.out 0 (by omega) i hi
      have hxr := xor8 _ _ q1 q2
      generalize f i ^^^ K 0 i = Z at hset hxr
      generalize f i = F at cb q1 hxr
      generalize K 0 i = G at ck q2 hxr
      have i0 : (0 : Int) ≤ (i : Int) := by omega
      clear hE h1 h2 h3 hi
      go_upto_region 4 with fail
      go_region_with (fail)
      all_goals go_wp2_with fail
      all_goals (go_roundg g1; (case measure => omega); (case rel => exact ⟨i + 1, by omega, by go_num, hset⟩))
end Go.Proofs.YtgamfpgejkhbcaaDoor.K
