/- The law on symbols that are twice as often: walked. -/
import Derived.Test.YtdeigchkpakdaabLPair
namespace Go.Proofs.Ytdeigchkpakdaab
open Go Go.RowKit

def dt (ls : List Int) (i : Nat) : List Int := (List.range ls.length).map fun j => if j < i then 2 * ln ls j else ln ls j
theorem dt_length (ls : List Int) (i : Nat) : (dt ls i).length = ls.length := by simp [dt]
theorem dt_zero (ls : List Int) : dt ls 0 = ls := by
  apply List.ext_getElem?
  intro k
  by_cases h : k < ls.length
  · simp [dt, h, ln_in h]
  · simp [dt, h]
theorem dt_all (ls : List Int) : dt ls ls.length = dblL ls := by
  apply List.ext_getElem?
  intro k
  by_cases h : k < ls.length
  · simp [dt, dblL, h, ln_in h]
  · simp [dt, dblL, h]
theorem dt_set (ls : List Int) (i : Nat) (h : i < ls.length) : (dt ls i).set i (2 * ln ls i) = dt ls (i + 1) := by
  apply List.ext_getElem?
  intro k
  rw [List.getElem?_set, dt_length]
  by_cases e : i = k
  · subst e; simp [dt, h]
  · rw [if_neg e]
    by_cases hk : k < ls.length
    · have : k < i ↔ k < i + 1 := by omega
      simp [dt, hk, this]
    · simp [dt, hk]

set_option maxHeartbeats 4000000 in
set_option maxRecDepth 100000 in
theorem twice_walk (U : Nat) (a : Option Addr) (cap : Nat) (ls : List Int) (most : Int) (w : World) (hA : Ints 0 U w a ls) (hnil : a = none → ls.length = 0 ∧ cap = 0) (hla : ls.length ≤ 17592186043904) :
    Calls Try.prog 4 #[.slice a ls.length cap, .int .i64 most] w (Yes w) := by
  obtain ⟨i0, hi0, hz0, hz1', hz2'⟩ := info_parts Try.info3
  have HE : Hid (Owns (w.alloc (.cells #[] 3)) w.heap.size (.slice (some ⟨w.heap.size, 0, none⟩) 0 0) []) := own_new w
  have HB0 : Hid (Below w.heap.size w (w.alloc (.cells #[] 3))) := (Below.refl _ w).alloc (Nat.le_refl _) _
  have HA := hide hA
  have HNil : Hid (a = none → ls.length = 0 ∧ cap = 0) := hnil
  clear hA hnil
  go_enter Try.func4, Try.ntmps4
  go_upto_region 1 with fail
  go_cut [5] (fun v5 wx => Owns wx w.heap.size v5 ls ∧ Below w.heap.size w wx)
  case first =>
    cases a with
    | none =>
      obtain ⟨hl0, rfl⟩ := HNil.out rfl
      have hL : ls = [] := List.eq_nil_of_length_eq_zero hl0
      subst hL
      go_wp2
      go_meet
      case rel => exact ⟨HE.out, HB0.out⟩
    | some ad =>
      have HS : Hid (∀ j u, (ls.map (Value.int .i64))[j]? = some u → (w.alloc (.cells #[] 3)).cell? (ad.add j) = some u) := by
        intro j u hu
        have hj : j < ls.length := by
          rcases Nat.lt_or_ge j ls.length with h' | h'
          · exact h'
          · simp [List.getElem?_eq_none (show (ls.map (Value.int .i64)).length ≤ j by simpa using h')] at hu
        obtain ⟨ad', e, hc⟩ := (HA.out.stay HB0.out).src (by omega)
        simp at e
        subst e
        exact hc j u hu
      have HN : Hid (∀ u ∈ ls.map (Value.int .i64), u.oneCell' = true) := by
        intro u hu; simp at hu; obtain ⟨x, _, rfl⟩ := hu; rfl
      obtain ⟨LL, hLL⟩ : ∃ LL, LL = ls.map (Value.int .i64) := ⟨_, rfl⟩
      rw [← hLL] at HS HN
      have hll : LL.length = ls.length * 1 := by rw [hLL]; simp
      have HL : Hid (LL = ls.map (Value.int .i64)) := hLL
      clear hLL
      go_wp2_with (at_builtin; refine wpList_append_own _ rfl (.tmp 12) (.tmp 13) 22 rfl w.heap.size 3 i0 (.int .i64 0) 1 8 Try.underlying22 hi0 hz0 hz1' hz2' rfl (by decide) _ 0 [] rfl HE.out ad ls.length cap LL rfl hll HS.out HN.out (by unfold maxLen; omega) (by omega) (by simp) ?_; intro v1 w1 hown1 hgrow1 hnil1)
      go_meet
      case rel =>
        refine ⟨?_, HB0.out.grown hgrow1 (by simp) (fun k e => by simp [Act.eval, Value.ownBlock] at e; omega)⟩
        rw [HL.out] at hown1
        simpa [Owns] using hown1
  case rest =>
    obtain ⟨hown1, hbel1⟩ := hcut
    obtain ⟨aO, cO, rfl⟩ := own_form hown1
    have HO1 := hide hown1
    have HB1 := hide hbel1
    clear hown1 hbel1 HE HB0 HNil
    go_wp2_with fail
    go_loopg [17] ls.length (fun gk v17 wx => ∃ i : Nat, i + gk = ls.length ∧ v17 = .int .i64 i ∧ Hid (∀ j, j < i → 0 ≤ ln ls j ∧ ln ls j ≤ 536870912) ∧ Hid (Owns wx w.heap.size (.slice aO ls.length cO) (dt ls i)) ∧ Hid (Below w.heap.size w wx))
    case atStart => exact ⟨0, by omega, rfl, fun j hj => by omega, by rw [dt_zero]; exact HO1.out, HB1.out⟩
    case round =>
      obtain ⟨i, hig, rfl, HBD, HO, HB⟩ := hrel
      have hsz := HB.out.size
      cases gk with
      | zero =>
        obtain rfl : i = ls.length := by omega
        have HD : Hid (Owns wr w.heap.size (.slice aO ls.length cO) (dblL ls)) := by have := HO.out; rw [dt_all] at this; exact this
        have HI0 := hide (HA.out.stay HB.out)
        have hID : Ints w.heap.size wr.heap.size wr aO (dblL ls) := by
          obtain ⟨ax, cx, ex, iO⟩ := HD.out.ints
          simp only [Value.slice.injEq] at ex
          obtain ⟨rfl, _, rfl⟩ := ex
          exact iO
        have HID := hide (hID.wide (Nat.zero_le _) (Nat.le_refl _))
        have hiff := fits_dbl (most := most) HBD.out
        clear hID
        by_cases hf : FitsP ls most
        · obtain ⟨L, rfl⟩ : ∃ L : Nat, most = L := ⟨most.toNat, by have := hf.1.2.1; omega⟩
          have hf2 := hiff.1 hf
          have HL := hide (lengths_yes U a cap ls L wr HI0.out hf)
          have HL2 : Hid (∀ W, Below wr.heap.size wr W → Calls Try.prog 5 #[.slice aO ls.length cO, .int .i64 L] W (LensYes (dblL ls) L W)) := fun W hW => by
            have := lengths_yes wr.heap.size aO cO (dblL ls) L W (HID.out.stay hW) hf2
            rw [dblL_length] at this
            exact this
          have HFT := hide hf
          have HFT2 := hide hf2
          have hL15 := hf.1.2.2.1
          have h320 := hf.1.1
          clear hf hf2 hiff
          go_upto_region 11 with (first
            | (go_at_call 5; refine HL.out.mono ?_; rintro e w1 ⟨gl, F, rfl, k1, k2, k3, k4⟩; have HR := hide k2; have HGD := hide k3; have HBl := hide k4; clear k1 k2 k3 k4 HL)
            | (go_at_call 5; refine (HL2.out w1 HBl.out).mono ?_; rintro e w2 ⟨gm, G, rfl, k1, k2, k3, k4⟩; have HR2 := hide k2; have HGD2 := hide k3; have HBm := hide k4; clear k1 k2 k3 k4))
          have hBW : Below wr.heap.size wr w2 := HBl.out.trans (HBm.out.mono HBl.out.size)
          have he := cst_dblL HGD.out HGD2.out
          have hbd := cst_bd HFT.out.1.2.2.2 (HGD.out.valid HFT.out.1.2.2.2 (by have := HFT.out.1.2.1; omega)) (by omega)
          have hcb : cst (zOf ls F (occ ls ls.length)) ≤ 5153960755200 := Nat.le_trans hbd (Nat.mul_le_mul_left 16106127360 h320)
          have hcF : ∀ W, Below w2.heap.size w2 W → Calls Try.prog 7 #[.slice a ls.length cap, .slice (some ⟨gl, 0, none⟩) ls.length ls.length] W fun e w' => e = .returned (.int .i64 ((cst (zOf ls F (occ ls ls.length)) : Nat) : Int)) ∧ ∃ q, w' = W.drewN q := fun W hW =>
            cost_of 0 U gl a cap ls F L W (HI0.out.stay (hBW.trans (hW.mono hBW.size))) (((HR.out.ints (Nat.zero_le _) (by omega)).stay HBm.out).stay hW) HGD.out HFT.out.1 hla
          have hcG : ∀ W, Below w2.heap.size w2 W → Calls Try.prog 7 #[.slice aO ls.length cO, .slice (some ⟨gm, 0, none⟩) ls.length ls.length] W fun e w' => e = .returned (.int .i64 ((2 * cst (zOf ls F (occ ls ls.length)) : Nat) : Int)) ∧ ∃ q, w' = W.drewN q := fun W hW => by
            have := cost_of 0 wr.heap.size gm aO cO (dblL ls) G L W (HID.out.stay (hBW.trans (hW.mono hBW.size))) ((HR2.out.ints (Nat.zero_le _) (by omega)).stay hW) HGD2.out HFT2.out.1 (by rw [dblL_length]; exact hla)
            rw [he, dblL_length] at this
            exact this
          have HCF := hide hcF
          have HCG := hide hcG
          have HBW := hide (HB.out.trans (hBW.mono HB.out.size))
          have HBW2 := hide hBW
          clear hcF hcG hBW hbd he
          generalize cst (zOf ls F (occ ls ls.length)) = C at HCF HCG hcb
          have hcast : ((2 * C : Nat) : Int) = 2 * (C : Int) := by simp
          rw [hcast] at HCG
          clear hcast
          rw [dblL_length]
          go_wp2_with (first
            | (go_at_call 6; refine (alive_any _).mono ?_; rintro e w5 ⟨rfl, b3⟩; have B5 := hide b3; have BA := hide (HBW.out.trans (b3.mono HBW.out.size)); clear b3)
            | (go_at_call 7; refine (HCF.out w5 B5.out).mono ?_; rintro e w6 ⟨rfl, q6, rfl⟩; have B6 := hide (below_drewN B5.out q6); clear B5)
            | (go_at_call 7; refine (HCG.out (w5.drewN q6) B6.out).mono ?_; rintro e w7 ⟨rfl, q7, rfl⟩))
          go_ret
          exact ⟨by simp, below_drewN BA.out _⟩
        · have hf2 : ¬ FitsP (dblL ls) most := fun h => hf (hiff.2 h)
          have HL := hide (lengths_no U a cap ls most wr HI0.out hf)
          have HL2 : Hid (∀ W, Below wr.heap.size wr W → Calls Try.prog 5 #[.slice aO ls.length cO, .int .i64 most] W (LensNo W)) := fun W hW => by
            have := lengths_no wr.heap.size aO cO (dblL ls) most W (HID.out.stay hW) hf2
            rw [dblL_length] at this
            exact this
          have HCF : Hid (∀ W, Below wr.heap.size wr W → Calls Try.prog 7 #[.slice a ls.length cap, .slice none 0 0] W fun e w' => e = .returned (.int .i64 0) ∧ ∃ q, w' = W.drewN q) := fun W hW => cost_nil 0 U a cap ls W (HI0.out.stay hW) hla
          have HCG : Hid (∀ W, Below wr.heap.size wr W → Calls Try.prog 7 #[.slice aO ls.length cO, .slice none 0 0] W fun e w' => e = .returned (.int .i64 0) ∧ ∃ q, w' = W.drewN q) := fun W hW => by
            have := cost_nil 0 wr.heap.size aO cO (dblL ls) W (HID.out.stay hW) (by rw [dblL_length]; exact hla)
            rw [dblL_length] at this
            exact this
          clear hf hf2 hiff
          go_wp2_with (first
            | (go_at_call 5; refine HL.out.mono ?_; rintro e w1 ⟨rfl, k4⟩; have HB2 := hide k4; clear k4 HL)
            | (go_at_call 5; refine (HL2.out w1 HB2.out).mono ?_; rintro e w2 ⟨rfl, k4⟩; have HB3 := hide (HB2.out.trans (k4.mono HB2.out.size)); clear k4)
            | (go_at_call 6; refine (alive_any _).mono ?_; rintro e w5 ⟨rfl, b3⟩; have B5 := hide (HB3.out.trans (b3.mono HB3.out.size)); have BA := hide (HB.out.trans (B5.out.mono HB.out.size)); clear b3)
            | (go_at_call 7; refine (HCF.out w5 B5.out).mono ?_; rintro e w6 ⟨rfl, q6, rfl⟩; have B6 := hide (below_drewN B5.out q6); clear B5)
            | (go_at_call 7; refine (HCG.out (w5.drewN q6) B6.out).mono ?_; rintro e w7 ⟨rfl, q7, rfl⟩))
          go_ret
          exact ⟨rfl, below_drewN BA.out _⟩
      | succ g1 =>
        have hlt : (i : Int) < (ls.length : Int) := by omega
        obtain ⟨b, off, _, hb2, hb3, rfl, hcell⟩ := HA.out.resolve_left (by omega)
        have hc : wr.cell? ⟨b, off + i, none⟩ = some (.int .i64 (ln ls i)) := by
          rw [HB.out.cell (p := ⟨b, off + i, none⟩) (show b < w.heap.size by omega)]
          exact hcell i (by omega)
        obtain ⟨g, sp, cp, hv, hg, _, _, _, hro⟩ := HO.out.ro (fun e => by have := dt_length ls i; rw [e] at this; simp at this; omega)
        simp only [Value.slice.injEq] at hv
        obtain ⟨rfl, hx9, rfl⟩ := hv
        clear hx9
        have cl := hro.cell (i := i) (by rw [dt_length]; omega)
        have fl := hro.free i
        have hset := Owns.set (L := dt ls i) (i := i) (by rw [dt_length]; exact HO.out) (by rw [dt_length]; omega) (2 * ln ls i)
        rw [dt_set ls i (by omega), dt_length] at hset
        have HSET := hide hset
        have hbn : (0 ≤ ln ls i ∧ ln ls i ≤ 536870912) → ∀ j, j < i + 1 → 0 ≤ ln ls j ∧ ln ls j ≤ 536870912 := fun h j hj => by
          by_cases e : j = i
          · rw [e]; exact h
          · exact HBD.out j (by omega)
        have HBN := hide hbn
        clear hcell hset hbn hro
        generalize ln (dt ls i) i = V at cl
        generalize ln ls i = X at hc HSET HBN
        by_cases hn : X < 0
        · go_wp2_with (go_at_call 6; refine (alive_any _).mono ?_; rintro e w5 ⟨rfl, b3⟩; have BA := hide (HB.out.trans (b3.mono HB.out.size)); clear b3)
          go_ret
          exact ⟨rfl, BA.out⟩
        · by_cases hm : 536870912 < X
          · go_wp2_with (go_at_call 6; refine (alive_any _).mono ?_; rintro e w5 ⟨rfl, b3⟩; have BA := hide (HB.out.trans (b3.mono HB.out.size)); clear b3)
            go_ret
            exact ⟨rfl, BA.out⟩
          · have HBN2 := hide (HBN.out (by omega))
            clear HBN
            go_wp2_with fail
            go_roundg g1
            case measure => omega
            case rel => exact ⟨i + 1, by omega, by go_num, HBN2.out, HSET.out, HB.out.setCell hg _⟩
#print axioms twice_walk
end Go.Proofs.Ytdeigchkpakdaab
