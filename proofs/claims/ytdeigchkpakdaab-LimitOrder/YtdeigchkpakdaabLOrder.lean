/- The law on symbols in another order: walked. -/
import Derived.Test.YtdeigchkpakdaabLPair
namespace Go.Proofs.Ytdeigchkpakdaab
open Go.ChangeShapes Go.WideShapes Go.ChangeAt Go Go.RowKit

section
variable {H : Type} {enc : TypeId × Value → H} {W : World}
theorem Try.cells23 : Try.prog.cellsOf 23 = 2 := by kernel_rfl
theorem open_two {base : Nat} {v : Value} {d : DataW H} {p : List MemPlace} (hval : Value.okWide Try.prog W .any base 23 v) (h : DataW.Trod enc Try.prog W 0 (fun _ => true) true 23 v d p) : ∃ x y : Int, v = .agg #[.int .i64 x, .int .i64 y] := by
  unfold Value.okWide at hval
  rw [Try.underlying23] at hval
  obtain ⟨cs, rfl, hs, _⟩ := hval
  rw [Try.cells23] at hs
  obtain ⟨c0, c1, rfl⟩ : ∃ c0 c1, cs = #[c0, c1] := by
    obtain ⟨l⟩ := cs
    match l, hs with
    | [a, b], _ => exact ⟨a, b, rfl⟩
  obtain ⟨fuel, hf⟩ := h
  obtain ⟨xs, m, rfl, _, _, hx, he⟩ := DataW.trod_array Try.underlying23 hf
  have e0 := he 0 (by omega)
  have e1 := he 1 (by omega)
  rw [Try.cells3] at e0 e1
  simp [Value.cells] at e0 e1
  have l0 : 0 < xs.length := by omega
  have l1 : 1 < xs.length := by omega
  rw [List.getElem?_eq_getElem l0] at e0
  rw [List.getElem?_eq_getElem l1] at e1
  obtain ⟨x, hx1, _, hx2⟩ := DataW.trod_int Try.underlying3 e0
  obtain ⟨y, hy1, _, hy2⟩ := DataW.trod_int Try.underlying3 e1
  simp at hx1 hy1
  subst hx1 hy1
  exact ⟨x, y, rfl⟩
end

abbrev twoO (x y : Int) : Obj := .cells #[.int .i64 x, .int .i64 y] 23
/-- A copy, in whatever order. -/
def Turned (ls : List Int) (a : Option Addr) (cap : Nat) (w wx : World) : Prop := ∃ T : List Int, T.length = ls.length ∧ ls.Perm T ∧ Owns wx w.heap.size (.slice a ls.length cap) T ∧ Below w.heap.size w wx

set_option maxHeartbeats 4000000 in
set_option maxRecDepth 100000 in
theorem order_walk (U : Nat) (a : Option Addr) (cap : Nat) (ls : List Int) (most x y : Int) (w : World) (hA : Ints 0 U w a ls) (hnil : a = none → ls.length = 0 ∧ cap = 0) (hla : ls.length ≤ 17592186043904) :
    Calls Try.prog 3 #[.slice a ls.length cap, .int .i64 most, .agg #[.int .i64 x, .int .i64 y]] w (Yes w) := by
  obtain ⟨i0, hi0, hz0, hz1', hz2'⟩ := info_parts Try.info3
  have HA := hide hA
  have HNil : Hid (a = none → ls.length = 0 ∧ cap = 0) := hnil
  clear hA hnil
  go_enter Try.func3, Try.ntmps3
  go_wp2_with fail
  have hc0 : (w.alloc (twoO x y)).cell? ⟨w.heap.size, 0, none⟩ = some (.int .i64 x) := by rw [cells_of (heap_new w _)]; rfl
  have hc1 : (w.alloc (twoO x y)).cell? ⟨w.heap.size, 1, none⟩ = some (.int .i64 y) := by rw [cells_of (heap_new w _)]; rfl
  have HB1 : Hid (Below w.heap.size w (w.alloc (twoO x y))) := (Below.refl _ w).alloc (Nat.le_refl _) _
  change Code.wp _ _ _ _ (w.alloc (twoO x y))
  generalize w.alloc (twoO x y) = W1 at hc0 hc1 HB1 ⊢
  go_quiet (fail)
  have HBq : Hid (Below w.heap.size w (W1.drewN nq)) := below_drewN HB1.out nq
  clear hc0 hc1 HB1
  generalize W1.drewN nq = wq at HBq ⊢
  have hsq := HBq.out.size
  have HIq := hide (HA.out.stay HBq.out)
  have HE : Hid (Owns (wq.alloc (.cells #[] 3)) wq.heap.size (.slice (some ⟨wq.heap.size, 0, none⟩) 0 0) []) := own_new wq
  have HB0 : Hid (Below wq.heap.size wq (wq.alloc (.cells #[] 3))) := (Below.refl _ wq).alloc (Nat.le_refl _) _
  go_upto_region 2 with fail
  go_cut [9] (fun v9 wx => Owns wx wq.heap.size v9 ls ∧ Below wq.heap.size wq wx)
  case first =>
    cases a with
    | none =>
      obtain ⟨hl0, rfl⟩ := HNil.out rfl
      have hL : ls = [] := List.eq_nil_of_length_eq_zero hl0
      subst hL
      go_wp2
      go_meet
      case rel => exact ⟨HE.out, HB0.out⟩
    | some ad =>
      have HS : Hid (∀ j u, (ls.map (Value.int .i64))[j]? = some u → (wq.alloc (.cells #[] 3)).cell? (ad.add j) = some u) := by
        intro j u hu
        have hj : j < ls.length := by
          rcases Nat.lt_or_ge j ls.length with h' | h'
          · exact h'
          · simp [List.getElem?_eq_none (show (ls.map (Value.int .i64)).length ≤ j by simpa using h')] at hu
        obtain ⟨ad', e, hc⟩ := (HIq.out.stay HB0.out).src (by omega)
        simp at e
        subst e
        exact hc j u hu
      have HN : Hid (∀ u ∈ ls.map (Value.int .i64), u.oneCell' = true) := by
        intro u hu; simp at hu; obtain ⟨x, _, rfl⟩ := hu; rfl
      obtain ⟨LL, hLL⟩ : ∃ LL, LL = ls.map (Value.int .i64) := ⟨_, rfl⟩
      rw [← hLL] at HS HN
      have hll : LL.length = ls.length * 1 := by rw [hLL]; simp
      have HL : Hid (LL = ls.map (Value.int .i64)) := hLL
      clear hLL
      go_wp2_with (at_builtin; refine wpList_append_own _ rfl (.tmp 18) (.tmp 19) 22 rfl wq.heap.size 3 i0 (.int .i64 0) 1 8 Try.underlying22 hi0 hz0 hz1' hz2' rfl (by decide) _ 0 [] rfl HE.out ad ls.length cap LL rfl hll HS.out HN.out (by unfold maxLen; omega) (by omega) (by simp) ?_; intro v1 w1 hown1 hgrow1 hnil1)
      go_meet
      case rel =>
        refine ⟨?_, HB0.out.grown hgrow1 (by simp) (fun k e => by simp [Act.eval, Value.ownBlock] at e; omega)⟩
        rw [HL.out] at hown1
        simpa [Owns] using hown1
  case rest =>
    obtain ⟨hown1, hbel1⟩ := hcut
    obtain ⟨aO, cO, rfl⟩ := own_form hown1
    have HO1 := hide (hown1.low hsq)
    have HB1 := hide (HBq.out.trans (hbel1.mono hsq))
    clear hown1 hbel1 HE HB0 HNil HIq HBq hsq
    go_upto_region 3 with fail
    go_cut [38] (fun v wx => ∃ β : Bool, v = .bool β ∧ Hid (β = true → (0 ≤ x ∧ x < ls.length ∧ 0 ≤ y ∧ y < ls.length)) ∧ wc = wx)
    case first =>
      by_cases c1 : 0 ≤ x
      · by_cases c2 : x < (ls.length : Int)
        · by_cases c3 : 0 ≤ y
          · by_cases c4 : y < (ls.length : Int)
            · go_wp2_with fail
              go_meet
              case rel => exact ⟨true, rfl, fun _ => ⟨c1, c2, c3, c4⟩, rfl⟩
            · go_wp2_with fail
              go_meet
              case rel => exact ⟨false, rfl, fun h => (by cases h), rfl⟩
          · go_wp2_with fail
            go_meet
            case rel => exact ⟨false, rfl, fun h => (by cases h), rfl⟩
        · go_wp2_with fail
          go_meet
          case rel => exact ⟨false, rfl, fun h => (by cases h), rfl⟩
      · go_wp2_with fail
        go_meet
        case rel => exact ⟨false, rfl, fun h => (by cases h), rfl⟩
    case rest =>
      obtain ⟨β, rfl, HBE, rfl⟩ := hcut
      go_upto_if 38 with fail
      go_cut [] (fun wx => Turned ls aO cO w wx)
      case first =>
        cases β with
        | false =>
          go_wp2_with fail
          go_meet
          case rel => exact ⟨ls, rfl, List.Perm.refl _, HO1.out, HB1.out⟩
        | true =>
          obtain ⟨c1, c2, c3, c4⟩ := HBE.out rfl
          clear HBE
          obtain ⟨i, rfl⟩ : ∃ i : Nat, x = i := ⟨x.toNat, by omega⟩
          obtain ⟨j, rfl⟩ : ∃ j : Nat, y = j := ⟨y.toNat, by omega⟩
          have hi : i < ls.length := by omega
          have hj : j < ls.length := by omega
          obtain ⟨g, sp, cp, hv, hg, k1, k2, k3, hro⟩ := HO1.out.ro (fun e => by subst e; simp at hi)
          simp only [Value.slice.injEq] at hv
          obtain ⟨rfl, hx9, rfl⟩ := hv
          have ci := hro.cell hi
          have cj := hro.cell hj
          have fi := hro.free i
          have fj := hro.free j
          have hsw := hro.swp hi hj
          have HTR : Hid (Turned ls (some ⟨g, 0, none⟩) cO w (((wc.setCell ⟨g, i, none⟩ (.int .i64 (ln ls j))).setCell ⟨g, j, none⟩ (.int .i64 (ln ls i))).drew)) := by
            refine ⟨swp ls i j, swp_length ls i j, (swp_perm hi hj).symm, ?_, ((HB1.out.setCell hg _).setCell hg _).drew⟩
            have := Owns.of_ro (base := w.heap.size) (cap := cO) hsw hg (by rw [swp_length]; exact k1) k2 (by rw [swp_length]; exact k3)
            rw [swp_length] at this
            exact this
          have hst := hro.set hi (ln ls j)
          have cj2 := hst.cell (i := j) (by simpa using hj)
          have fj2 := hst.free j
          clear hx9 hro hsw hst c1 c3
          generalize ln (ls.set i (ln ls j)) j = Z at cj2
          generalize ln ls i = X at ci HTR
          generalize ln ls j = Y at cj HTR cj2 fj2
          go_wp2_with fail
          go_region
          go_wp2_with fail
          go_meet
          case rel => exact HTR.out
      case rest =>
        obtain ⟨T, hTl, hTp, hTo, hTb⟩ := hcut
        have HTL := hide hTl
        have HTP := hide hTp
        have HD := hide hTo
        have HB := hide hTb
        have HI0 := hide (HA.out.stay hTb)
        obtain ⟨ax, cx, ex, iO⟩ := hTo.ints
        simp only [Value.slice.injEq] at ex
        obtain ⟨rfl, hx9, rfl⟩ := ex
        have HID := hide (iO.wide (lo' := 0) (Nat.zero_le _) (Nat.le_refl _))
        have hiff := fits_perm (most := most) hTp
        clear hTl hTp hTo hTb hx9 iO HO1 HB1 HBE
        obtain ⟨W2, rfl⟩ : ∃ W, W = wc := ⟨wc, rfl⟩
        by_cases hf : FitsP ls most
        · obtain ⟨L, rfl⟩ : ∃ L : Nat, most = L := ⟨most.toNat, by have := hf.1.2.1; omega⟩
          have hf2 := hiff.1 hf
          have HL := hide (lengths_yes U a cap ls L W2 HI0.out hf)
          have HL2 : Hid (∀ W, Below W2.heap.size W2 W → Calls Try.prog 5 #[.slice aO ls.length cO, .int .i64 L] W (LensYes T L W)) := fun W hW => by
            have := lengths_yes W2.heap.size aO cO T L W (HID.out.stay hW) hf2
            rw [HTL.out] at this
            exact this
          have HFT := hide hf
          have HFT2 := hide hf2
          clear hf hf2 hiff
          go_upto_region 7 with (first
            | (go_at_call 5; refine HL.out.mono ?_; rintro e w1 ⟨gl, F, rfl, k1, k2, k3, k4⟩; have HR := hide k2; have HGD := hide k3; have HBl := hide k4; clear k1 k2 k3 k4 HL)
            | (go_at_call 5; refine (HL2.out w1 HBl.out).mono ?_; rintro e w2 ⟨gm, G, rfl, k1, k2, k3, k4⟩; have HR2 := hide k2; have HGD2 := hide k3; have HBm := hide k4; clear k1 k2 k3 k4))
          have hBW : Below W2.heap.size W2 w2 := HBl.out.trans (HBm.out.mono HBl.out.size)
          have he := cst_order HTP.out HGD.out HGD2.out
          have hcF : ∀ W, Below w2.heap.size w2 W → Calls Try.prog 7 #[.slice a ls.length cap, .slice (some ⟨gl, 0, none⟩) ls.length ls.length] W fun e w' => e = .returned (.int .i64 ((cst (zOf ls F (occ ls ls.length)) : Nat) : Int)) ∧ ∃ q, w' = W.drewN q := fun W hW =>
            cost_of 0 U gl a cap ls F L W (HI0.out.stay (hBW.trans (hW.mono hBW.size))) (((HR.out.ints (Nat.zero_le _) (by omega)).stay HBm.out).stay hW) HGD.out HFT.out.1 hla
          have hcG : ∀ W, Below w2.heap.size w2 W → Calls Try.prog 7 #[.slice aO ls.length cO, .slice (some ⟨gm, 0, none⟩) ls.length ls.length] W fun e w' => e = .returned (.int .i64 ((cst (zOf ls F (occ ls ls.length)) : Nat) : Int)) ∧ ∃ q, w' = W.drewN q := fun W hW => by
            have := cost_of 0 W2.heap.size gm aO cO T G L W (HID.out.stay (hBW.trans (hW.mono hBW.size))) ((HR2.out.ints (Nat.zero_le _) (by omega)).stay hW) HGD2.out HFT2.out.1 (by rw [HTL.out]; exact hla)
            rw [← he, HTL.out] at this
            exact this
          have HCF := hide hcF
          have HCG := hide hcG
          have HBW := hide (HB.out.trans (hBW.mono HB.out.size))
          clear hcF hcG hBW he
          generalize ((cst (zOf ls F (occ ls ls.length)) : Nat) : Int) = C at HCF HCG
          rw [HTL.out]
          go_wp2_with (first
            | (go_at_call 6; refine (alive_any _).mono ?_; rintro e w5 ⟨rfl, b3⟩; have B5 := hide b3; have BA := hide (HBW.out.trans (b3.mono HBW.out.size)); clear b3)
            | (go_at_call 7; refine (HCF.out w5 B5.out).mono ?_; rintro e w6 ⟨rfl, q6, rfl⟩; have B6 := hide (below_drewN B5.out q6); clear B5)
            | (go_at_call 7; refine (HCG.out (w5.drewN q6) B6.out).mono ?_; rintro e w7 ⟨rfl, q7, rfl⟩))
          go_ret
          exact ⟨by simp, below_drewN BA.out _⟩
        · have hf2 : ¬ FitsP T most := fun h => hf (hiff.2 h)
          have HL := hide (lengths_no U a cap ls most W2 HI0.out hf)
          have HL2 : Hid (∀ W, Below W2.heap.size W2 W → Calls Try.prog 5 #[.slice aO ls.length cO, .int .i64 most] W (LensNo W)) := fun W hW => by
            have := lengths_no W2.heap.size aO cO T most W (HID.out.stay hW) hf2
            rw [HTL.out] at this
            exact this
          have HCF : Hid (∀ W, Below W2.heap.size W2 W → Calls Try.prog 7 #[.slice a ls.length cap, .slice none 0 0] W fun e w' => e = .returned (.int .i64 0) ∧ ∃ q, w' = W.drewN q) := fun W hW => cost_nil 0 U a cap ls W (HI0.out.stay hW) hla
          have HCG : Hid (∀ W, Below W2.heap.size W2 W → Calls Try.prog 7 #[.slice aO ls.length cO, .slice none 0 0] W fun e w' => e = .returned (.int .i64 0) ∧ ∃ q, w' = W.drewN q) := fun W hW => by
            have := cost_nil 0 W2.heap.size aO cO T W (HID.out.stay hW) (by rw [HTL.out]; exact hla)
            rw [HTL.out] at this
            exact this
          clear hf hf2 hiff
          go_wp2_with (first
            | (go_at_call 5; refine HL.out.mono ?_; rintro e w1 ⟨rfl, k4⟩; have HB2 := hide k4; clear k4 HL)
            | (go_at_call 5; refine (HL2.out w1 HB2.out).mono ?_; rintro e w2 ⟨rfl, k4⟩; have HB3 := hide (HB2.out.trans (k4.mono HB2.out.size)); clear k4)
            | (go_at_call 6; refine (alive_any _).mono ?_; rintro e w5 ⟨rfl, b3⟩; have B5 := hide (HB3.out.trans (b3.mono HB3.out.size)); have BA := hide (HB.out.trans (B5.out.mono HB.out.size)); clear b3)
            | (go_at_call 7; refine (HCF.out w5 B5.out).mono ?_; rintro e w6 ⟨rfl, q6, rfl⟩; have B6 := hide (below_drewN B5.out q6); clear B5)
            | (go_at_call 7; refine (HCG.out (w5.drewN q6) B6.out).mono ?_; rintro e w7 ⟨rfl, q7, rfl⟩))
          go_ret
          exact ⟨rfl, below_drewN BA.out _⟩
#print axioms order_walk
end Go.Proofs.Ytdeigchkpakdaab
