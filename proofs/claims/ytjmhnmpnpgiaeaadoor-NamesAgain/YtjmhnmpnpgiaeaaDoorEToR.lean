/- Bytes of letters, the reference's: contract. -/
import Derived.Test.YtjmhnmpnpgiaeaaDoorEOemR
namespace Go.Proofs.YtjmhnmpnpgiaeaaDoor.E
set_option maxRecDepth 100000
open Go Go.RowKit
set_option linter.unusedVariables false

/-- The last place of a letter among the first k of the table, as the reference notes it. -/
def lst (v : Nat) : Nat → Int
  | 0 => -1
  | k + 1 => if tb k = v then ((128 + k : Nat) : Int) else lst v k
theorem lst_no {v : Nat} : ∀ k, (∀ j, j < k → tb j ≠ v) → lst v k = -1 := by
  intro k
  induction k with
  | zero => intro _; rfl
  | succ k ih => intro h; rw [lst, if_neg (h k (by omega)), ih fun j hj => h j (by omega)]
theorem lst_at {v j : Nat} (hj : j < 128) (hv : tb j = v) : ∀ k, j < k → k ≤ 128 → lst v k = ((128 + j : Nat) : Int) := by
  intro k
  induction k with
  | zero => intro h; omega
  | succ k ih =>
    intro h h2
    by_cases e : tb k = v
    · have : j = k := tb_one hj (by omega) (by rw [hv, e])
      subst this
      rw [lst, if_pos e]
    · rw [lst, if_neg e, ih (by rcases Nat.lt_or_ge j k with q | q; exact q; exact absurd (by rw [show k = j by omega]; exact hv) e) (by omega)]
theorem lst_inv {v : Nat} (h : 128 ≤ v) : lst v 128 = match inv v with | none => -1 | some x => (x : Int) := by
  cases hi : inv v with
  | none =>
    simp only
    apply lst_no
    intro j hj e
    rw [← e, inv_at hj] at hi
    cases hi
  | some x =>
    simp only
    have hx := inv_is hi
    rw [inv, if_neg (by omega)] at hi
    cases hf : (List.range 128).find? (fun k => tb k == v) with
    | none => rw [hf] at hi; cases hi
    | some j =>
      rw [hf] at hi
      have h1 := List.find?_some hf
      have h2 := List.mem_range.1 (List.mem_of_find?_eq_some hf)
      rw [lst_at h2 (by simpa using h1) 128 h2 (Nat.le_refl _)]
      congr 1
      exact Option.some.inj hi
theorem lst_bd (v k : Nat) (hk : k ≤ 128) : -1 ≤ lst v k ∧ lst v k < 256 := by
  induction k with
  | zero => rw [lst]; omega
  | succ k ih =>
    rw [lst]
    split
    · omega
    · exact ih (by omega)

set_option maxHeartbeats 8000000 in
theorem rtoOem_c (s : ByteArray) (w : World) (hsm : s.size ≤ 1000000000) : Calls Tryd.prog 18 #[.string s] w (TooOk s.data.toList w) := by
  have HO := hide (roem_c w)
  have HSM := hide hsm
  have HNO : Hid (too s.data.toList [] = none → ∀ w', Below w.heap.size w w' → TooOk s.data.toList w (.returned (.tuple #[.string ⟨#[]⟩, .bool false])) w') := hide fun e w' hb => TooOk.no e hb
  have HY : Hid (∀ x, too s.data.toList [] = some x → ∀ w', Below w.heap.size w w' → TooOk s.data.toList w (.returned (.tuple #[.string (tx x), .bool true])) w') := hide fun x e w' hb => TooOk.yes e hb
  generalize TooOk s.data.toList w = PO at HNO HY ⊢
  obtain ⟨D, hD⟩ : ∃ D, D = too s.data.toList [] := ⟨_, rfl⟩
  rw [← hD] at HNO HY
  have HD := hide hD.symm
  clear hD hsm
  go_enter Tryd.func18, Tryd.ntmps18
  go_upto_region 3 with (go_at_call 28; refine HO.out.mono ?_; rintro e w1 ⟨g, c, rfl, hg1, hcs, b1⟩; have HGL := hide hg1; have HC := hide hcs; have B1 := hide b1; clear hg1 hcs b1 HO)
  have E0 := hide (Own.nil (T := 5) (f := fB) w1 w1.heap.size)
  go_loopg [0, 4] s.size (fun gk u0 u4 wx => ∃ (t : ByteArray) (X : List UInt8) (L : Nat) (ad : Option Addr) (cp : Nat), u0 = .string t ∧ u4 = .slice ad L cp ∧ Hid (t.size = gk) ∧ Hid (gk ≤ s.size) ∧ Hid (L = X.length) ∧ Hid (X.length + gk ≤ s.size) ∧ Hid (Own 5 fB wx w1.heap.size (.slice ad L cp) X) ∧ Hid (Below w1.heap.size w1 wx) ∧ Hid (too t.data.toList X = D))
  case atStart => exact ⟨s, [], 0, none, 0, rfl, rfl, hide rfl, hide (Nat.le_refl _), hide rfl, hide (by simp), E0, hide (Below.refl _ _), HD⟩
  case round =>
    obtain ⟨t, X, L, ad, cp, rfl, rfl, HT, HG, HL, HXG, OX, BX, HV⟩ := hrel
    clear E0
    by_cases h0 : t.size = 0
    · have hge : ¬ (0 : Int) < (t.size : Int) := by omega
      have hV := HV.out
      rw [List.eq_nil_of_length_eq_zero (l := t.data.toList) (by rw [len_eq]; exact h0), too_nil] at hV
      have HF := hide (HY.out X hV.symm wr (B1.out.trans (BX.out.mono B1.out.size)))
      have hcv : (convert 33 9 (.slice ad L cp)).run Tryd.prog wr = .ok (.string (tx X)) wr := by
        have := OX.out
        rw [HL.out] at this ⊢
        exact conv_own this
      clear HT HV hV h0 HNO HY
      go_wp2_with fail
      exact HF.out
    · have hlt : (0 : Int) < (t.size : Int) := by omega
      have hne : t.data.toList ≠ [] := fun e => h0 (by rw [← len_eq, e]; rfl)
      have HLT := hide (letter_c t (by rw [HT.out]; have := HG.out; have := HSM.out; omega) wr)
      unfold LetOk at HLT
      have hle := ltr_le t.data.toList
      rw [len_eq] at hle
      by_cases hz : (ltr t.data.toList).2 = 0
      · have HF := hide (HNO.out (by rw [← HV.out]; exact too_bad X hz hne) wr (B1.out.trans (BX.out.mono B1.out.size)))
        rw [hz] at HLT
        clear HT HV hz h0 hle HNO HY
        generalize (ltr t.data.toList).1 = v at HLT
        go_wp2_with (go_at_call 30; refine HLT.out.mono ?_; rintro e w2 ⟨rfl, hw⟩; obtain rfl := hw.symm; clear HLT)
        exact HF.out
      · have T1 := hide (fun h => too_no X hz h)
        have T2 := hide (fun x h => too_yes X (x := x) hz h)
        have HX := hide (ext_from t (ltr t.data.toList).2)
        have HSZ : Hid ((t.extract (ltr t.data.toList).2 t.size).size = t.size - (ltr t.data.toList).2) := hide (by rw [← len_eq, ext_from, List.length_drop, len_eq])
        rw [HV.out] at T1 T2
        rw [← HX.out] at T2
        have hgt : 0 < (ltr t.data.toList).2 := by omega
        have hvle : (ltr t.data.toList).1 ≤ 1114111 := by have := dcd_le t.data.toList; rw [dcd, if_neg hz] at this; exact this
        generalize (ltr t.data.toList).1 = v at *
        generalize (ltr t.data.toList).2 = n at *
        have hn0 : ¬ (n : Int) = 0 := by omega
        have hn1 : (0 : Int) ≤ (n : Int) := by omega
        have hn2 : (n : Int) ≤ (t.size : Int) := by omega
        have hb : ((n : Int) == 0) = false := by simpa using hn0
        have HSZ2 : Hid ((t.extract n t.size).size = gk - n) := hide (by rw [HSZ.out, HT.out])
        have HGN : Hid (gk - n < gk ∧ 1 ≤ gk ∧ 1 ≤ n) := hide (by have := HT.out; omega)
        obtain ⟨g0, rfl⟩ : ∃ g, g = gk := ⟨gk, rfl⟩
        obtain ⟨W0, rfl⟩ : ∃ W, W = wr := ⟨wr, rfl⟩
        have HCW := hide (fun k (hk : k < 128) => (BX.out.cell (p := ⟨g, k, none⟩) HGL.out).trans (HC.out k hk))
        clear HX HV hz h0 HSZ HT hne
        go_wp2_with (go_at_call 30; refine HLT.out.mono ?_; rintro e w2 ⟨rfl, hw⟩; obtain rfl := hw.symm; clear HLT)
        go_loopg [8, 9] 128 (fun gk u8 u9 wx => wx = W0 ∧ ∃ k : Nat, k + gk = 128 ∧ u9 = .int .i64 (k : Int) ∧ u8 = .int .i64 (lst v k))
        case atStart => exact ⟨rfl, 0, by omega, rfl, rfl⟩
        case round =>
          obtain ⟨hw0, k, hgk, rfl, rfl⟩ := hrel
          obtain rfl := hw0
          cases gk with
          | succ g1 =>
            have hk : k < 128 := by omega
            have hklt : (k : Int) < 128 := by omega
            have hk0 : (0 : Int) ≤ (k : Int) := by omega
            have hcell := HCW.out k hk
            by_cases hz : tb k = v
            · have HLS : Hid (128 + (k : Int) = lst v (k + 1)) := hide (by rw [lst, if_pos hz]; omega)
              rw [hz] at hcell
              clear hz
              go_wp2_with fail
              go_roundg g1
              case measure => omega
              case rel => exact ⟨rfl, k + 1, by omega, by go_num, by rw [← HLS.out]⟩
            · have HLS : Hid (lst v k = lst v (k + 1)) := hide (by rw [lst, if_neg hz])
              generalize tb k = q at hz hcell
              have hne : ¬ (q : Int) = (v : Int) := by omega
              have hnb : ((q : Int) == (v : Int)) = false := by simpa using hne
              clear hz
              go_wp2_with fail
              go_roundg g1
              case measure => omega
              case rel => exact ⟨rfl, k + 1, by omega, by go_num, by rw [← HLS.out]⟩
          | zero =>
            obtain rfl : k = 128 := by omega
            have hge : ¬ ((128 : Nat) : Int) < 128 := by omega
            have hlb := lst_bd v 128 (Nat.le_refl _)
            have HBB := hide (B1.out.trans (BX.out.mono B1.out.size))
            cases hiv : inv v with
            | none =>
              have HF := hide (HNO.out (T1.out hiv) wr HBB.out)
              have hv128 : ¬ v < 128 := fun q => by rw [inv_small q] at hiv; cases hiv
              have hl : lst v 128 = -1 := by rw [lst_inv (by omega), hiv]
              rw [hl]
              have n1 : ¬ (v : Int) < 128 := by omega
              clear hiv hl HNO HY T1 T2 hlb
              go_wp2_with fail
              exact HF.out
            | some x =>
              have HTN := hide (T2.out x hiv).symm
              have hx := inv_is hiv
              have hx2 : x < 256 := hx.1
              have HF : Hid (fB (UInt8.ofNat x) = .int .u8 (x : Int)) := hide (fB_of hx2)
              have HPL : Hid ((X ++ [UInt8.ofNat x]).length = L + 1) := hide (by rw [List.length_append, HL.out]; rfl)
              have O2 := hide (OX.out.alloc (.cells #[.int .u8 (x : Int)] 5))
              have B2 := hide (BX.out.alloc BX.out.size (.cells #[.int .u8 (x : Int)] 5))
              have HXM : Hid ((X.length + 1) * 1 ≤ 140737488355328) := hide (by have := HXG.out; have := HSM.out; omega)
              have hw8 : (x : Int) % 256 = (x : Int) := by omega
              have hx0 : ¬ (x : Int) < 0 := by omega
              have HE : Hid (X.length + 1 + (g0 - n) ≤ s.size ∧ g0 - n ≤ s.size) := hide (by have := HXG.out; have := HG.out; have := HGN.out; omega)
              by_cases hv128 : v < 128
              · have hvx : v = x := by rw [inv_small hv128] at hiv; exact Option.some.inj hiv
                subst hvx
                have n1 : (v : Int) < 128 := by omega
                generalize lst v 128 = y
                clear hiv hx HNO HY T1 T2 hlb OX
                go_wp2_with (refine wpList_app1 Tryd.underlying33 infoB rfl _ rfl (.tmp 38) (.tmp 41) rfl w1.heap.size (.slice ad L cp) X (by rfl) O2.out (UInt8.ofNat v) wr.heap.size 1 (by rfl) (by rw [HF.out]; exact cells_of (heap_new wr _) 0) rfl HXM.out (by decide) B2.out.size ?_; intro v3 w3 h3 k3; have O3 := hide h3; have B3 := hide (growO O2.out (Nat.le_refl _) B2.out k3); clear h3 k3)
                obtain ⟨ad3, cp3, hv3, _⟩ := O3.out.form
                rw [HPL.out] at hv3
                subst hv3
                go_roundg (g0 - n)
                case measure => exact HGN.out.1
                case rel => exact ⟨t.extract n t.size, X ++ [UInt8.ofNat v], L + 1, ad3, cp3, rfl, rfl, HSZ2, hide HE.out.2, hide HPL.out.symm, hide (by rw [HPL.out, HL.out]; exact HE.out.1), O3, B3, HTN⟩
              · have n1 : ¬ (v : Int) < 128 := by omega
                have hl : lst v 128 = (x : Int) := by rw [lst_inv (by omega), hiv]
                rw [hl]
                clear hiv hx HNO HY T1 T2 hlb OX hl
                go_wp2_with (refine wpList_app1 Tryd.underlying33 infoB rfl _ rfl (.tmp 38) (.tmp 41) rfl w1.heap.size (.slice ad L cp) X (by rfl) O2.out (UInt8.ofNat x) wr.heap.size 1 (by rfl) (by rw [HF.out]; exact cells_of (heap_new wr _) 0) rfl HXM.out (by decide) B2.out.size ?_; intro v3 w3 h3 k3; have O3 := hide h3; have B3 := hide (growO O2.out (Nat.le_refl _) B2.out k3); clear h3 k3)
                obtain ⟨ad3, cp3, hv3, _⟩ := O3.out.form
                rw [HPL.out] at hv3
                subst hv3
                go_roundg (g0 - n)
                case measure => exact HGN.out.1
                case rel => exact ⟨t.extract n t.size, X ++ [UInt8.ofNat x], L + 1, ad3, cp3, rfl, rfl, HSZ2, hide HE.out.2, hide HPL.out.symm, hide (by rw [HPL.out, HL.out]; exact HE.out.1), O3, B3, HTN⟩
end Go.Proofs.YtjmhnmpnpgiaeaaDoor.E
