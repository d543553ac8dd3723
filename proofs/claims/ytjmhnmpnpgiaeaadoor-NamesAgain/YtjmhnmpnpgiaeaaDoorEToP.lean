/- Bytes of letters, the program's: contract; the laws' probe. -/
import Derived.Test.YtjmhnmpnpgiaeaaDoorEOemP
import Derived.Test.YtjmhnmpnpgiaeaaDoorEClean
namespace Go.Proofs.YtjmhnmpnpgiaeaaDoor.E
set_option maxRecDepth 100000
open Go Go.RowKit
set_option linter.unusedVariables false

def TooOk (l : List UInt8) (w : World) (e : Ending) (w' : World) : Prop := e = .returned (.tuple #[.string (tx ((too l []).getD [])), .bool (too l []).isSome]) ∧ Below w.heap.size w w'
theorem TooOk.no {l : List UInt8} (h : too l [] = none) {w w' : World} (hb : Below w.heap.size w w') : TooOk l w (.returned (.tuple #[.string ⟨#[]⟩, .bool false])) w' := by
  unfold TooOk
  rw [h]
  exact ⟨rfl, hb⟩
theorem TooOk.yes {l x : List UInt8} (h : too l [] = some x) {w w' : World} (hb : Below w.heap.size w w') : TooOk l w (.returned (.tuple #[.string (tx x), .bool true])) w' := by
  unfold TooOk
  rw [h]
  exact ⟨rfl, hb⟩
theorem fB_of {x : Nat} (h : x < 256) : fB (UInt8.ofNat x) = .int .u8 (x : Int) := by unfold fB; rw [u8 h]
theorem inv_fffd : inv 65533 = none := by kernel_rfl
/-- What becomes of the bytes so far with one letter more. -/
theorem too_dcd {t acc : List UInt8} (hn : t ≠ []) : (inv (dcd t).1 = none → too t acc = none) ∧ ∀ x, inv (dcd t).1 = some x → too t acc = too (t.drop (dcd t).2) (acc ++ [UInt8.ofNat x]) := by
  unfold dcd
  by_cases h : (ltr t).2 = 0
  · rw [if_pos h]
    refine ⟨fun _ => too_bad acc h hn, fun x hx => ?_⟩
    rw [show inv (65533, 1).1 = none from inv_fffd] at hx
    cases hx
  · rw [if_neg h]
    exact ⟨fun hi => too_no acc h hi, fun x hx => too_yes acc h hx⟩
theorem dcd_le (t : List UInt8) : (dcd t).1 ≤ 1114111 := by
  unfold dcd
  split
  · decide
  · rcases ltr_cases t with e | ⟨_, h0, e⟩ | ⟨_, h0, e⟩ | ⟨_, h0, e⟩ | ⟨_, h0, e⟩ <;> rw [e] <;> simp only
    · omega
    · omega
    · have h1 := bt_lt t 0; have h2 := bt_lt t 1; unfold v2; omega
    · have h1 := bt_lt t 0; have h2 := bt_lt t 1; have h3 := bt_lt t 2; have h4 := h0.2.1; unfold v3; omega
    · exact h0.2.2.2.2.2.2.2

set_option maxHeartbeats 8000000 in
theorem toOem_c (s : ByteArray) (w : World) (hsm : s.size ≤ 1000000000) (hT : Tab w) : Calls Tryd.prog 15 #[.string s] w (TooOk s.data.toList w) := by
  have HT := hide hT
  have HLS := hide (len_eq s)
  have HSM := hide hsm
  have HNA := fun wx pos h1 h2 => hide (next_at wx w.heap.size s pos h1 h2)
  have HNO : Hid (too s.data.toList [] = none → ∀ w', Below w.heap.size w w' → TooOk s.data.toList w (.returned (.tuple #[.string ⟨#[]⟩, .bool false])) w') := hide fun e w' hb => TooOk.no e hb
  have HY : Hid (∀ x, too s.data.toList [] = some x → ∀ w', Below w.heap.size w w' → TooOk s.data.toList w (.returned (.tuple #[.string (tx x), .bool true])) w') := hide fun x e w' hb => TooOk.yes e hb
  generalize TooOk s.data.toList w = PO at HNO HY ⊢
  obtain ⟨D, hD⟩ : ∃ D, D = too s.data.toList [] := ⟨_, rfl⟩
  rw [← hD] at HNO HY
  have HD := hide hD.symm
  obtain ⟨l, hl⟩ : ∃ l, l = s.data.toList := ⟨_, rfl⟩
  rw [← hl] at HLS HNA HD
  have I0 := hide (It.begin 5 fB w s)
  clear hl hsm hD hT
  go_enter Tryd.func15, Tryd.ntmps15
  go_wp2_with fail
  generalize w.iter s 0 = wz at I0 ⊢
  go_loopg [4] s.size (fun gk u4 wx => ∃ (pos : Nat) (X : List UInt8) (L : Nat) (ad : Option Addr) (cp : Nat), pos + gk = s.size ∧ u4 = .slice ad L cp ∧ Hid (L = X.length) ∧ Hid (X.length ≤ pos) ∧ Hid (It 5 fB w s pos (.slice ad L cp) X wx) ∧ Hid (too (l.drop pos) X = D))
  case atStart => exact ⟨0, [], 0, none, 0, by omega, rfl, rfl, Nat.le_refl _, I0, by rw [List.drop_zero]; exact HD.out⟩
  case round =>
    obtain ⟨pos, X, L, ad, cp, hg, rfl, HL, HXP, IX, HV⟩ := hrel
    clear I0 HD
    by_cases h : pos < s.size
    · obtain ⟨w2, hnx, hi2, hk2⟩ := (HNA wr pos IX.out.it h).out
      have I2 := hide (IX.out.next hi2 hk2)
      have hne : l.drop pos ≠ [] := fun e => by have := congrArg List.length e; rw [List.length_drop, HLS.out] at this; simp at this; omega
      have hdp := dcd_pos hne
      rw [List.length_drop, HLS.out] at hdp
      obtain ⟨t1, t2⟩ := too_dcd (acc := X) hne
      have hle := dcd_le (l.drop pos)
      have HIB := hide (oemByte_c (dcd (l.drop pos)).1 w2 hle (HT.out.below HT.out.pos I2.out.bel))
      unfold InvOk at HIB
      rw [HV.out] at t1 t2
      have HT2 := hide (fun x hx => (t2 x hx).symm)
      have HT1 := hide t1
      have hxm : X.length + 1 ≤ 2000000000 := by have := HXP.out; have := HSM.out; omega
      have HXM := hide hxm
      have BB2 := hide I2.out.bel
      generalize dcd (l.drop pos) = q at *
      obtain ⟨v, n⟩ := q
      simp only at *
      cases hiv : inv v with
      | none =>
        rw [hiv] at HIB
        have HF := hide (HNO.out (HT1.out hiv) w2 BB2.out)
        clear IX hi2 hk2 hne t1 t2 HV HT2 HT1 HNO HY hxm hiv
        go_wp2_with (go_at_call 27; refine HIB.out.mono ?_; rintro e wq ⟨rfl, hw⟩; obtain rfl := hw.symm; clear HIB)
        exact HF.out
      | some x =>
        rw [hiv] at HIB
        have hx := inv_is hiv
        have HTN := HT2.out x hiv
        rw [List.drop_drop] at HTN
        have HTN2 := hide HTN
        have hx2 : x < 256 := hx.1
        have I3 := hide (It.alloc I2.out (.cells #[.int .u8 (x : Int)] 5))
        have HF : Hid (fB (UInt8.ofNat x) = .int .u8 (x : Int)) := hide (fB_of hx2)
        have HPL : Hid ((X ++ [UInt8.ofNat x]).length = L + 1) := hide (by rw [List.length_append, HL.out]; rfl)
        clear IX hi2 hk2 hne t1 t2 HV HT2 HT1 HNO hxm hiv hx HTN I2
        go_wp2_with (first
          | (go_at_call 27; refine HIB.out.mono ?_; rintro e wq ⟨rfl, hw⟩; obtain rfl := hw.symm; clear HIB)
          | (refine wpList_app1 Tryd.underlying33 infoB rfl _ rfl (.tmp 21) (.tmp 23) rfl (w.heap.size + 1) (.slice ad L cp) X (by rfl) I3.out.own (UInt8.ofNat x) w2.heap.size 1 (by rfl) (by rw [HF.out]; exact cells_of (heap_new w2 _) 0) rfl (by have := HXM.out; omega) (by decide) (by have := lt_of_block' I3.out.it; omega) ?_; intro v3 w3 h3 k3; have I4 := hide (It.push I3.out h3 k3); clear h3 k3))
        obtain ⟨ad3, cp3, hv3, _⟩ := I4.out.own.form
        rw [HPL.out] at hv3
        subst hv3
        go_roundg (gk - n)
        case measure => omega
        case rel => exact ⟨pos + n, X ++ [UInt8.ofNat x], L + 1, ad3, cp3, by omega, rfl, HPL.out.symm, hide (by rw [HPL.out, HL.out]; have := HXP.out; omega), I4, HTN2⟩
    · have hnx := next_none wr w.heap.size s pos IX.out.it h
      have hV := HV.out
      rw [List.drop_of_length_le (by rw [HLS.out]; omega), too_nil] at hV
      have HF := hide (HY.out X hV.symm wr IX.out.bel)
      have hcv : (convert 33 9 (.slice ad L cp)).run Tryd.prog wr = .ok (.string (tx X)) wr := by
        have := IX.out.own
        rw [HL.out] at this ⊢
        exact conv_own this
      clear HNO HY HV hV
      go_wp2_with fail
      exact HF.out
end Go.Proofs.YtjmhnmpnpgiaeaaDoor.E
