/- The reference's Least. -/
import Derived.Test.YtdeigchkpakdaaaLDeepW
namespace Go.Proofs.Ytdeigchkpakdaaa
open Go Go.RowKit

def natL (S : List Int) : List Nat := S.map Int.toNat
theorem natL_length (S : List Int) : (natL S).length = S.length := by simp [natL]
theorem lft_step {S : List Int} {i : Nat} (h : i < S.length) (h0 : ∀ x ∈ S, 0 ≤ x) : ((lft (natL S) i : Nat) : Int) = ln S i + (lft (natL S) (i + 1) : Nat) := by
  unfold lft
  have hi : i < (natL S).length := by rw [natL_length]; exact h
  rw [List.drop_eq_getElem_cons hi, List.sum_cons]
  have e : (natL S)[i] = (ln S i).toNat := by simp [natL, ln_in h]
  have := h0 (ln S i) (by rw [ln_in h]; exact List.getElem_mem h)
  rw [e]; omega
theorem lft_end (S : List Int) : lft (natL S) S.length = 0 := by
  unfold lft
  rw [← natL_length, List.drop_length]; rfl
theorem sum_bd (S : List Int) (h : ∀ x ∈ S, x ≤ 1073741824) : (natL S).sum ≤ 1073741824 * S.length := by
  induction S with
  | nil => simp [natL]
  | cons x S ih =>
    have h1 := h x (by simp)
    have h2 := ih (fun y hy => h y (by simp [hy]))
    have e : (natL (x :: S)).sum = x.toNat + (natL S).sum := by simp [natL]
    rw [e, List.length_cons]
    generalize (natL S).sum = Q at h2 ⊢
    omega
/-- Rows that hold what is left from i on. -/
def LeftFrom (S R : List Int) (i : Nat) : Prop := R.length = S.length + 1 ∧ ∀ j, i ≤ j → j ≤ S.length → ln R j = (lft (natL S) j : Nat)
/-- What Least tells. -/
def LeastOk (V : Int) (w : World) (e : Ending) (w' : World) : Prop := e = .returned (.int .i64 V) ∧ Below w.heap.size w w'
/-- The least that is reached. -/
theorem least_is {ls F : List Int} {L : Nat} {T : Nat → List Int} (hG : LGoodR ls L F) (ha : AlwTo ls ls.length) (h2 : 2 ≤ nocc ls) (hT : TabIs (natL (srtF ls ls.length)) L T) (hb : cst (zOf ls F (occ ls ls.length)) < 1152921504606846976) : ln (T (srtF ls ls.length).length) 0 = (cst (zOf ls F (occ ls ls.length)) : Nat) := by
  have hp := srtF_perm ha
  have hbest := hG.best h2
  have hpB : ((zOf ls F (occ ls ls.length)).map (·.1)).Perm (natL (srtF ls ls.length)) := by
    rw [zOf_fst]
    have := (hp.map Int.toNat).symm
    rw [List.map_map] at this
    exact this
  have hlen : (natL (srtF ls ls.length)).length = nocc ls := by rw [natL_length, hp.length_eq, List.length_map]; rfl
  have hsl : (srtF ls ls.length).length = (natL (srtF ls ls.length)).length := (natL_length _).symm
  have hfal : Fal (natL (srtF ls ls.length)) := by
    unfold Fal natL
    rw [List.pairwise_map]
    exact (srtF_fal ls ls.length).imp (fun {x y} h => by omega)
  have hpos : ∀ w ∈ natL (srtF ls ls.length), 0 < w := by
    intro w hw
    have := hpB.mem_iff.2 hw
    rw [zOf_fst] at this
    obtain ⟨x, hx, rfl⟩ := List.mem_map.1 this
    obtain ⟨i, rfl, hi, h0⟩ := (occ_mem ls ls.length x).1 hx
    simp only [keyOf, Int.toNat_natCast]; omega
  have hr := best_reached hbest hfal hpB (by omega) hpos
  rw [hsl]
  have f := hT.full _ _ _ (Nat.le_refl _) (Nat.zero_le _) hr
  obtain ⟨c, hc, hrc⟩ := hT.sound _ _ (Nat.le_refl _) (Nat.zero_le _) (by
    have : (NONE : Int) = 1152921504606846976 := rfl
    omega)
  have l := hrc.least
  rw [← ov_perm L hpB, ← hbest.cost] at l
  omega

set_option maxHeartbeats 4000000 in
set_option maxRecDepth 100000 in
theorem least_c (U : Nat) (a : Option Addr) (cap : Nat) (ls F : List Int) (L : Nat) (w : World) (hl : ls.length ≤ 40) (hI : Ints 0 U w a ls) (hA : Alw ls L) (hG : LGoodR ls L F) :
    Calls Try.prog 15 #[.slice a ls.length cap, .int .i64 L] w (LeastOk ((cst (zOf ls F (occ ls ls.length)) : Nat) : Int) w) := by
  obtain ⟨i0, hi0, hz0, hz1', hz2'⟩ := info_parts Try.info3
  have HSO := hide (sorted_c U a cap ls w hl hI)
  have HG := hide hG
  have HAL := hide hA
  have hL1 := hA.2.1
  have hL15 := hA.2.2.1
  have hpm := srtF_perm hA.2.2.2
  have hSl : (srtF ls ls.length).length = nocc ls := by rw [hpm.length_eq, List.length_map]; rfl
  have hS40 := srtF_length ls ls.length
  have hSx : ∀ x ∈ srtF ls ls.length, 0 ≤ x ∧ x ≤ 1073741824 := fun x hx => by
    obtain ⟨y, hy, rfl⟩ := List.mem_map.1 (hpm.mem_iff.1 hx)
    obtain ⟨i, rfl, hi, _⟩ := (occ_mem ls ls.length y).1 hy
    simpa [keyOf] using hA.2.2.2 i hi
  have hcb := cst_bd hA.2.2.2 (hG.valid hA.2.2.2 (by omega)) (by omega)
  have hcb2 : cst (zOf ls F (occ ls ls.length)) ≤ 644245094400 := Nat.le_trans hcb (Nat.mul_le_mul_left 16106127360 (show ls.length ≤ 40 from hl))
  have hli : ∀ T, 2 ≤ nocc ls → TabIs (natL (srtF ls ls.length)) L T → ln (T (srtF ls ls.length).length) 0 = (cst (zOf ls F (occ ls ls.length)) : Nat) := fun T h2 hT => least_is hG hA.2.2.2 h2 hT (by omega)
  have h0 : nocc ls = 0 → cst (zOf ls F (occ ls ls.length)) = 0 := fun h => by
    rw [List.eq_nil_of_length_eq_zero (show (occ ls ls.length).length = 0 from h)]; rfl
  have h1 : nocc ls = 1 → ((cst (zOf ls F (occ ls ls.length)) : Nat) : Int) = ln (srtF ls ls.length) 0 := fun h => by
    obtain ⟨x, hx⟩ := List.length_eq_one_iff.1 (show (occ ls ls.length).length = 1 from h)
    have hm : x ∈ occ ls ls.length := by rw [hx]; simp
    obtain ⟨i, rfl, hi, h0⟩ := (occ_mem ls ls.length x).1 hm
    have e := hG.one h i hi h0
    have hp2 := hpm
    rw [hx] at hp2 ⊢
    have e2 : srtF ls ls.length = [ln ls i] := by
      have : List.map (keyOf ls) [(i : Int)] = [ln ls i] := by simp [keyOf]
      rw [this] at hp2
      exact List.perm_singleton.1 hp2
    have e3 : zOf ls F [(i : Int)] = [((ln ls i).toNat, 1)] := by simp [zOf, keyOf, e]
    have e4 : cst [((ln ls i).toNat, 1)] = (ln ls i).toNat := by simp [cst]
    rw [e2, e3, e4]
    show (((ln ls i).toNat : Nat) : Int) = ln ls i
    omega
  have HLI := hide hli
  have H0 := hide h0
  have H1 := hide h1
  have HSX := hide hSx
  clear hA hG hpm hcb hcb2 hli h0 h1 hI hSx
  have H0' : Hid (nocc ls = 0 → ((cst (zOf ls F (occ ls ls.length)) : Nat) : Int) = 0) := fun h => by rw [H0.out h]; rfl
  clear H0
  generalize ((cst (zOf ls F (occ ls ls.length)) : Nat) : Int) = C at HLI H1 H0' ⊢
  generalize hSS : srtF ls ls.length = S at HSO HLI H1 HSX hSl hS40
  clear hSS
  generalize nocc ls = N at H0' H1 HLI hSl
  have HSL := hide hSl
  have hN40 : N ≤ 40 := by omega
  clear hSl hS40
  by_cases hN0 : N = 0
  · have hC := H0'.out hN0
    subst hN0
    rw [hC]
    clear H0' H1 HLI hC
    go_enter Try.func15, Try.ntmps15
    go_wp2_with (go_at_call 20; refine HSO.out.mono ?_; rintro e w1 ⟨v, rfl, k1, k2⟩; obtain ⟨av, cv, rfl⟩ := own_form k1; rw [HSL.out]; have HB := hide k2; clear k1 k2)
    go_ret
    exact ⟨rfl, HB.out⟩
  · by_cases hN1 : N = 1
    · have hC := H1.out hN1
      subst hN1
      rw [hC]
      clear H0' H1 HLI hC
      go_enter Try.func15, Try.ntmps15
      go_wp2_with (go_at_call 20; refine HSO.out.mono ?_; rintro e w1 ⟨v, rfl, k1, k2⟩; obtain ⟨av, cv, hv, hii⟩ := k1.ints; subst hv; obtain ⟨b, off, _, _, hbw, rfl, hcell⟩ := hii.resolve_left (by rw [HSL.out]; omega); have hc0 := hcell 0 (by rw [HSL.out]; omega); rw [Nat.add_zero] at hc0; rw [HSL.out]; have HB := hide k2; clear k1 k2 hii hcell)
      go_ret
      exact ⟨rfl, HB.out⟩
    · have hb0 : ((N : Int) == 0) = false := by simp; omega
      have hb1 : ((N : Int) == 1) = false := by simp; omega
      have hn0 : ¬ (N : Int) = 0 := by omega
      have hn1 : ¬ (N : Int) = 1 := by omega
      have hmk := made_ints (N + 1) i0 hi0 hz0 hz1' hz2' (by omega)
      have hmk' : ∀ W, (Instr.makeSlice 22 (.int .i64 ((N : Int) + 1)) (.int .i64 ((N : Int) + 1))).run Try.prog W = .ok (.slice (some ⟨W.heap.size, 0, none⟩) (N + 1) (N + 1)) (W.alloc (.cells (rowA (List.replicate (N + 1) 0) #[]) 3)) := by
        intro W
        have := hmk W
        rw [show (((N + 1 : Nat)) : Int) = (N : Int) + 1 by simp] at this
        exact this
      clear hmk
      go_enter Try.func15, Try.ntmps15
      go_wp2_with (go_at_call 20; refine HSO.out.mono ?_; rintro e w1 ⟨v, rfl, k1, k2⟩; obtain ⟨av, cv, hv, hii⟩ := k1.ints; subst hv; rw [HSL.out]; have HB := hide k2; have HII := hide hii; clear k1 k2 hii)
      clear hb0 hb1 hn0 hn1 hmk'
      obtain ⟨bs, os, _, hbs2, hbsw, rfl, hcs⟩ := HII.out.resolve_left (by rw [HSL.out]; omega)
      have HCS := hide hcs
      have hw1 := HB.out.size
      clear hcs HII
      have HL0 : Hid (∃ R, LeftFrom S R N ∧ Ro w1.heap.size #[] R (w1.alloc (.cells (rowA (List.replicate (N + 1) 0) #[]) 3)) ∧ Below w1.heap.size w1 (w1.alloc (.cells (rowA (List.replicate (N + 1) 0) #[]) 3))) := by
        refine ⟨List.replicate (N + 1) 0, ⟨by rw [HSL.out]; simp, fun j h1 h2 => ?_⟩, heap_new w1 _, (Below.refl _ w1).alloc (Nat.le_refl _) _⟩
        have ej : j = S.length := by rw [HSL.out] at h2 ⊢; omega
        rw [zeros_ln, ej, lft_end]; rfl
      go_loopg [8] N (fun gk v8 wx => v8 = .int .i64 ((gk : Int) - 1) ∧ gk ≤ N ∧ Hid (∃ R, LeftFrom S R gk ∧ Ro w1.heap.size #[] R wx ∧ Below w1.heap.size w1 wx))
      case atStart => exact ⟨rfl, Nat.le_refl _, HL0.out⟩
      case round =>
        obtain ⟨rfl, hgN, HR⟩ := hrel
        cases gk with
        | succ g =>
          have hg0 : (0 : Int) ≤ ((g + 1 : Nat) : Int) - 1 := by omega
          have hgg : ((g + 1 : Nat) : Int) - 1 = (g : Int) := by omega
          rw [hgg]
          clear hgg hg0
          obtain ⟨R, ⟨hRl, hRv⟩, hro, hbel⟩ := HR.out
          have hRl2 : R.length = N + 1 := by rw [hRl, HSL.out]
          have c1 := hro.cell (i := g + 1) (by omega)
          have c0 := hro.cell (i := g) (by omega)
          have f0 := hro.free g
          have cs : wr.cell? ⟨bs, os + g, none⟩ = some (.int .i64 (ln S g)) := by
            rw [hbel.cell (p := ⟨bs, os + g, none⟩) (show bs < w1.heap.size by omega), HCS.out g (by rw [HSL.out]; omega)]
          rw [hRv (g + 1) (Nat.le_refl _) (by rw [HSL.out]; omega)] at c1
          have hst := lft_step (S := S) (i := g) (by rw [HSL.out]; omega) (fun x hx => (HSX.out x hx).1)
          have hsb : lft (natL S) (g + 1) ≤ 42949672960 := by
            have q1 := lft_le (natL S) (g + 1)
            have q2 := sum_bd S (fun x hx => (HSX.out x hx).2)
            have q3 : 1073741824 * S.length ≤ 42949672960 := Nat.mul_le_mul_left 1073741824 (show S.length ≤ 40 by rw [HSL.out]; omega)
            omega
          have hxb := HSX.out (ln S g) (by rw [ln_in (show g < S.length by rw [HSL.out]; omega)]; exact List.getElem_mem _)
          have HNX : Hid (∃ R', LeftFrom S R' g ∧ Ro w1.heap.size #[] R' ((wr.setCell ⟨w1.heap.size, g, none⟩ (.int .i64 ((lft (natL S) (g + 1) : Nat) + ln S g))).drew) ∧ Below w1.heap.size w1 ((wr.setCell ⟨w1.heap.size, g, none⟩ (.int .i64 ((lft (natL S) (g + 1) : Nat) + ln S g))).drew)) := by
            refine ⟨R.set g ((lft (natL S) (g + 1) : Nat) + ln S g), ⟨by rw [List.length_set]; exact hRl, fun j h1 h2 => ?_⟩, hro.set (by omega) _, (hbel.setCell (Nat.le_refl _) _).drew⟩
            rw [ln_set _ _ _ (by omega)]
            by_cases e : j = g
            · rw [if_pos e, e, hst]; omega
            · rw [if_neg e]; exact hRv j (by omega) h2
          clear hRv hst hro hbel HR hRl hRl2
          have hq1 : (g : Int) + 1 < (N : Int) + 1 := by omega
          have hq2 : (0 : Int) ≤ (g : Int) + 1 := by omega
          have hq3 : ((g : Int) + 1).toNat = g + 1 := by omega
          have hq4 : (g : Int) < (N : Int) + 1 := by omega
          have hq5 : (g : Int) < (N : Int) := by omega
          obtain ⟨P, hP⟩ : ∃ P : Int, ((lft (natL S) (g + 1) : Nat) : Int) = P := ⟨_, rfl⟩
          have hP0 : 0 ≤ P := by omega
          have hP1 : P ≤ 42949672960 := by omega
          rw [hP] at c1 HNX
          clear hP hsb
          generalize ln S g = X at cs HNX hxb
          generalize ln R g = Y at c0
          obtain ⟨hx0, hx1⟩ := hxb
          go_wp2_with fail
          go_region
          go_wp2_with fail
          go_roundg g
          case measure => omega
          case rel => exact ⟨rfl, by omega, HNX.out⟩
        | zero =>
          obtain ⟨R, hLF, hro, hbel⟩ := HR.out
          have HLF := hide hLF
          have HRO := hide hro
          have HBL := hide hbel
          clear hLF hro hbel HR
          obtain ⟨W2, rfl⟩ : ∃ W, W = wr := ⟨wr, rfl⟩
          have hw2 := HBL.out.size
          have hw12 : w1.heap.size < W2.heap.size := HRO.out.lt
          have HST := hide (start_c N W2 hN40)
          have HBW : Hid (Below w.heap.size w W2) := HB.out.trans (HBL.out.mono hw1)
          have hSB : (natL S).sum ≤ 42949672960 := by
            have q2 := sum_bd S (fun x hx => (HSX.out x hx).2)
            have q3 : 1073741824 * S.length ≤ 42949672960 := Nat.mul_le_mul_left 1073741824 (show S.length ≤ 40 by rw [HSL.out]; omega)
            omega
          have HSB := hide hSB
          clear hSB
          go_wp2_with (go_at_call 21; refine HST.out.mono ?_; rintro e w3 ⟨g0, c0, gs, rfl, k1, k2, k3⟩; have HGS := hide k1; have HT1 := hide k2; have HB3 := hide k3; clear k1 k2 k3)
          go_loopg [9, 10] L (fun gk v9 v10 wx => ∃ (d g0 c0 : Nat) (gs : List Nat) (T : Nat → List Int), d + gk = L ∧ v10 = .int .i64 ((d : Int) + 1) ∧ v9 = .slice (some ⟨g0, 0, none⟩) (N + 1) c0 ∧ Hid (gs.length = N + 1) ∧ Hid (TabAt W2.heap.size (N + 2) wx (.slice (some ⟨g0, 0, none⟩) (N + 1) c0) gs T) ∧ Hid (TabIs (natL S) d T) ∧ Hid (Below W2.heap.size W2 wx))
          case atStart =>
            refine ⟨0, g0, c0, gs, T0 N, by omega, rfl, rfl, HGS.out, HT1.out, ?_, HB3.out⟩
            have := tab_start (natL S)
            rw [natL_length, HSL.out] at this
            exact this
          case round =>
            obtain ⟨d, g0, c0, gs, T, hdg, rfl, rfl, HGS, HT, HTI, HB4⟩ := hrel
            have hsz4 := HB4.out.size
            cases gk with
            | zero =>
              obtain rfl : d = L := by omega
              have rr := HT.out.row' HGS.out (i := N) (by omega)
              have cc := HT.out.cell (i := N) (r := 0) (by rw [HGS.out]; omega) (by omega)
              have hv := HLI.out T (by omega) HTI.out
              rw [HSL.out] at hv
              rw [hv] at cc
              generalize gs.getD N 0 = gr at rr cc
              clear hv
              have hq : (N : Int) < (N : Int) + 1 := by omega
              have hq2 : (0 : Int) < (N : Int) + 2 := by omega
              go_wp2_with fail
              go_ret
              exact ⟨rfl, HBW.out.trans (HB4.out.mono HBW.out.size)⟩
            | succ gd =>
              have hle : (d : Int) + 1 ≤ (L : Int) := by omega
              have hlt1 : d ≤ 14 := by omega
              have hdp := deeper_c (natL S) d N T W2.heap.size g0 c0 gs 0 (w1.heap.size + 1) (some ⟨w1.heap.size, 0, none⟩) (N + 1) R wr hN40 (by rw [natL_length, HSL.out]) (by omega) HGS.out HT.out HTI.out (by rw [HLF.out.1, HSL.out]) (fun i hi => HLF.out.2 i (Nat.zero_le _) (by rw [HSL.out]; exact hi))
                ((HRO.out.ints (Nat.zero_le _) (by omega)).stay HB4.out) (by have q := Nat.mul_le_mul hlt1 HSB.out; omega) (by have := HSB.out; omega)
              have HDP := hide hdp
              clear hdp
              go_wp2_with (go_at_call 22; refine HDP.out.mono ?_; rintro e w5 ⟨V5, ⟨g5, c5, gs5, rfl, k1, k2, k3⟩, k4⟩; have HG5 := hide k1; have HT5 := hide (k2.low hsz4); have HB5 := hide (HB4.out.trans (k3.mono hsz4)); have HTI5 := hide k4; clear k1 k2 k3 k4)
              go_roundg gd
              case measure => omega
              case rel => exact ⟨d + 1, g5, c5, gs5, V5, by omega, by go_num, rfl, HG5.out, HT5.out, HTI5.out, HB5.out⟩
#print axioms least_c
end Go.Proofs.Ytdeigchkpakdaaa
