/- The reference's Size and Seal: contracts. -/
import Derived.Test.YtgamfpgejkhbcaaDoorQStr
import Derived.Test.YtgamfpgejkhbcaaDoorNG2
import Derived.Test.YtgamfpgejkhbcaaDoorPG1
namespace Go.Proofs.YtgamfpgejkhbcaaDoor.S
set_option maxRecDepth 100000
open Go Go.RowKit

theorem slice_l' (W : World) (b o len cap m : Nat) (h1 : m ≤ len) (h2 : m < cap) : (Instr.sliceAt 22 (.slice (some ⟨b, o, none⟩) len cap) (some (.int .i64 (m : Int))) none none).run Tryd.prog W = .ok (.slice (some ⟨b, o + m, none⟩) (len - m) (cap - m)) W := by
  rw [slice_lo .i64 W b o len cap m h1, if_neg (by omega)]
theorem slice_lh (W : World) (b o len cap i k : Nat) (h1 : i + k ≤ cap) (h2 : i < cap) : (Instr.sliceAt 22 (.slice (some ⟨b, o, none⟩) len cap) (some (.int .i64 (i : Int))) (some (.int .i64 ((i + k : Nat) : Int))) none).run Tryd.prog W = .ok (.slice (some ⟨b, o + i, none⟩) k (cap - i)) W := by
  rw [run_sliceAt_slice _ _ _ _ _ _ (by kernel_rfl), run_slice_lh W 22 (some ⟨b, o, none⟩) len cap (by kernel_rfl) .i64 .i64 (i : Int) ((i + k : Nat) : Int) (by omega) (by omega) (by omega), elemB, size5]
  simp only [Result.andThen_ok, sliced, Int.toNat_natCast]
  rw [if_neg (by omega), show i + k - i = k by omega]
  simp [addr_plain]
theorem rsize_c (s : Int) (w : World) : Calls Tryd.prog 27 #[.int .i64 s] w fun e w' => e = .returned (.int .i64 (kbs s : Nat)) ∧ w' = w := by
  by_cases h1 : s = 1
  · subst h1
    go_enter Tryd.func27, Tryd.ntmps27
    go_wp2_with fail
    go_ret
    exact ⟨rfl, rfl⟩
  by_cases h2 : s = 2
  · subst h2
    go_enter Tryd.func27, Tryd.ntmps27
    go_wp2_with fail
    go_ret
    exact ⟨rfl, rfl⟩
  by_cases h3 : s = 3
  · subst h3
    go_enter Tryd.func27, Tryd.ntmps27
    go_wp2_with fail
    go_ret
    exact ⟨rfl, rfl⟩
  rw [kbs_no h1 h2 h3]
  have h4 : s < 1 ∨ (¬ s < 1 ∧ 3 < s) := by omega
  clear h1 h2 h3
  rcases h4 with h4 | ⟨h4, h5⟩
  all_goals
    go_enter Tryd.func27, Tryd.ntmps27
    go_wp2_with fail
    go_ret
    exact ⟨rfl, rfl⟩
theorem rseal_no (s : Int) (a sa d : Option Addr) (la ca ls sc ld dc : Nat) (w : World) (h : kbs s = 0 ∨ 2 * ls ≠ kbs s) (hls : ls ≤ 140737488351232) :
    Calls Tryd.prog 14 #[.int .i64 s, .slice a la ca, .slice sa ls sc, .slice d ld dc] w fun e w' => e = .returned (.tuple #[.slice none 0 0, .int .i64 130]) ∧ w' = w := by
  have HB := hide (rsize_c s w)
  rcases kbs_cases s with h0 | ⟨n, hn, h0⟩
  · rw [h0] at HB
    clear h
    go_enter Tryd.func14, Tryd.ntmps14
    go_wp2_with (go_at_call 27; refine HB.out.mono ?_; rintro e w1 ⟨rfl, hw⟩; obtain rfl := hw.symm; clear HB)
    go_ret2
    exact ⟨rfl, rfl⟩
  · rw [h0] at HB h
    obtain ⟨Lg, hLg⟩ : ∃ Lg, Lg = 4 * n := ⟨_, rfl⟩
    rw [← hLg] at HB h
    have hL0 : ¬ (Lg : Int) = 0 := by omega
    have hne : ¬ 2 * (ls : Int) = (Lg : Int) := by omega
    have hb1 : ((Lg : Int) == 0) = false := by simpa using hL0
    have hb2 : (2 * (ls : Int) != (Lg : Int)) = true := by simpa using hne
    clear h hLg h0 hn
    go_enter Tryd.func14, Tryd.ntmps14
    go_wp2_with (go_at_call 27; refine HB.out.mono ?_; rintro e w1 ⟨rfl, hw⟩; obtain rfl := hw.symm; clear HB)
    go_ret2
    exact ⟨rfl, rfl⟩

/-- What Key answers, of some bytes. -/
def RKy (ks : List Nat) (w : World) (e : Ending) (w' : World) : Prop := ∃ b o c, e = .returned (.tuple #[.slice (some ⟨b, o, none⟩) ks.length c, .bool true]) ∧ Bs w' b o ks ∧ b < w'.heap.size ∧ ks.length ≤ c ∧ c ≤ 9223372036854775807 ∧ Below w.heap.size w w'
theorem rky_c (a sa : Option Addr) (ca sc : Nat) (pw salt : List Nat) (Lg : Nat) (w : World) (hk : By pw) (hka : TextAt w a pw) (hkn : a = none → pw.length = 0 ∧ ca = 0) (hkl : pw.length ≤ 3000)
    (hs : By salt) (hst : TextAt w sa salt) (hsn : sa = none → salt.length = 0 ∧ sc = 0) (hsl : salt.length ≤ 3000) (hL : Lg ≤ 32) :
    Calls Tryd.prog 28 #[.slice a pw.length ca, .slice sa salt.length sc, .int .i64 1000, .int .i64 (2 * (Lg : Int) + 2)] w (RKy (kyL pw salt Lg) w) := by
  have := rkey_c a sa ca sc pw salt 999 (2 * Lg + 2) w hk hka hkn hkl hs hst hsn hsl (by omega) (by omega)
  push_cast at this
  refine this.mono fun e w' ⟨a', c, he, ht, hn, h1, h2, hb⟩ => ?_
  have hl : (kyL pw salt Lg).length = 2 * Lg + 2 := kyL_length pw salt Lg
  rcases ht with h0 | ⟨b, o, rfl, hb', hbs⟩
  · rw [show keyK pw salt (999 + 1) (2 * Lg + 2) = kyL pw salt Lg from rfl] at h0; omega
  · exact ⟨b, o, c, by rw [hl]; exact he, hbs, hb', by rw [hl]; exact h1, h2, hb⟩

set_option maxHeartbeats 8000000 in
theorem rseal_c (s : Int) (n : Nat) (a sa d : Option Addr) (ca sc dc : Nat) (pw salt data : List Nat) (w : World) (hn : n = 4 ∨ n = 6 ∨ n = 8) (hs0 : kbs s = 4 * n) (hk : By pw) (hka : TextAt w a pw) (hkn : a = none → pw.length = 0 ∧ ca = 0) (hkl : pw.length ≤ 3000)
    (hs : By salt) (hst : TextAt w sa salt) (hsn : sa = none → salt.length = 0 ∧ sc = 0) (hsl : salt.length = 2 * n) (hd : By data) (hdt : TextAt w d data) (hdl : data.length ≤ 1099511627776) :
    Calls Tryd.prog 14 #[.int .i64 s, .slice a pw.length ca, .slice sa salt.length sc, .slice d data.length dc] w (SealOk (sealL (kyL pw salt (4 * n)) salt n data) w) := by
  have HB := hide (rsize_c s w)
  rw [hs0] at HB
  have HKY := hide (rky_c a sa ca sc pw salt (4 * n) w hk hka hkn hkl hs hst hsn (by omega) (by omega))
  have HKL := hide (kyL_length pw salt (4 * n))
  have HKB := hide (kyL_by pw salt (4 * n))
  generalize kyL pw salt (4 * n) = ks at HKY HKL HKB ⊢
  have HST : Hid (∀ b o c (W : World), Below w.heap.size w W → b < W.heap.size → Bs W b o ks → Calls Tryd.prog 12 #[.slice (some ⟨b, o, none⟩) (4 * n) c, .slice d data.length dc] W (K.StrOk (insL ks n data) W)) := fun b o c W hb hl hbs =>
    K.rstream_c b o c n (ks.take (4 * n)) d dc data W hn (by rw [List.length_take, HKL.out]; omega) (HKB.out.take _) hl (hbs.take _) hd (hdt.below hb) hdl
  have HSE : Hid (∀ b o c (W : World) x cx, b < W.heap.size → Bs W b o ks → TextAt W x (insL ks n data) → (x = none → data.length = 0 ∧ cx = 0) → Calls Tryd.prog 29 #[.slice (some ⟨b, o + 4 * n, none⟩) (4 * n) c, .slice x data.length cx] W fun e w' => e = .returned (.agg (oA (hmac (sk2 ks n) (insL ks n data)) 20)) ∧ Below W.heap.size W w') := fun b o c W x cx hl hbs hx hxn => by
    have hkk : (sk2 ks n).length = 4 * n := by rw [sk2, List.length_take, List.length_drop, HKL.out]; omega
    have := hsumr_c (some ⟨b, o + 4 * n, none⟩) x c cx (sk2 ks n) (insL ks n data) W ((HKB.out.drop _).take _) (.inr ⟨b, o + 4 * n, rfl, hl, (hbs.drop _).take _⟩) (fun e => by cases e) (by omega) (insL_by HKB.out (by omega) hd) hx (fun e => by rw [insL_length]; exact hxn e) (by rw [insL_length]; omega)
    rw [hkk, insL_length] at this
    exact this
  have HLK : Hid ((lkL ks n).length = 2) := by show (lkL ks n).length = 2; rw [lkL, List.length_drop, List.length_drop, HKL.out]; omega
  have HIL := hide (insL_length ks n data)
  have HE : Hid (sealL ks salt n data = salt ++ lkL ks n ++ insL ks n data ++ (outL (hmac (sk2 ks n) (insL ks n data))).take 10) := rfl
  generalize sealL ks salt n data = zs at HE ⊢
  obtain ⟨S, hS⟩ : ∃ S, S = hmac (sk2 ks n) (insL ks n data) := ⟨_, rfl⟩
  rw [← hS] at HSE HE
  generalize insL ks n data = ins at HST HSE HIL HE
  obtain ⟨lk, hlk⟩ : ∃ lk, lk = lkL ks n := ⟨_, rfl⟩
  have HLE := hide hlk
  rw [← hlk] at HLK HE
  have HTL : Hid (((outL S).take 10).length = 10) := hide (by simp [outL])
  obtain ⟨Lg, hLg⟩ : ∃ Lg, Lg = 4 * n := ⟨_, rfl⟩
  rw [← hLg] at HKY HKL HST HSE HB
  have hL0 : ¬ (Lg : Int) = 0 := by omega
  have hL3 : Lg ≤ 32 := by omega
  obtain ⟨N, hN⟩ : ∃ N, N = pw.length := ⟨_, rfl⟩
  obtain ⟨M, hM⟩ : ∃ M, M = salt.length := ⟨_, rfl⟩
  obtain ⟨D, hD⟩ : ∃ D, D = data.length := ⟨_, rfl⟩
  rw [← hD] at HST HSE HIL hdl
  rw [← hN, ← hM] at HKY
  rw [← hN, ← hM, ← hD]
  have hq : 2 * (M : Int) = (Lg : Int) := by omega
  have hqb : (2 * (M : Int) != (Lg : Int)) = false := by simp [hq]
  have hL0b : ((Lg : Int) == 0) = false := by simpa using hL0
  have hMl : M ≤ 16 := by omega
  have HM := hide hM
  have HSA := hide hst
  have HSN := hide hsn
  have HLG := hide hLg
  have hz : ∀ w, (zeroValue 55).run Tryd.prog w = .ok (.agg (oA S 0)) w := (zero20 _).1
  have H20 := hide (info20 (oB S) 20)
  have hsl10 := fun W b => slice10 W b
  clear hn hs0 hk hka hkn hkl hs hst hsn hsl hd hdt hLg hN hM hD hlk hS hq
  go_enter Tryd.func14, Tryd.ntmps14
  go_upto_region 5 with (first
    | (go_at_call 27; refine HB.out.mono ?_; rintro e w1 ⟨rfl, hw⟩; obtain rfl := hw.symm; clear HB)
    | (go_at_call 28; refine HKY.out.mono ?_; rintro e w1 ⟨b, o, c, rfl, hbs, hbl, hc1, hc2, hb1⟩; have BS := hide hbs; have B1 := hide hb1; clear hbs hb1 HKY))
  rw [HKL.out] at hc1 ⊢
  have h1 := fun W => slice_h .i64 W b o (2 * Lg + 2) c Lg (by omega)
  have h2 : ∀ W, (Instr.sliceAt 22 (.slice (some ⟨b, o, none⟩) (2 * Lg + 2) c) (some (.int .i64 (Lg : Int))) (some (.int .i64 (2 * (Lg : Int)))) none).run Tryd.prog W = .ok (.slice (some ⟨b, o + Lg, none⟩) Lg (c - Lg)) W := fun W => by
    have := slice_lh W b o (2 * Lg + 2) c Lg Lg (by omega) (by omega)
    rw [show ((Lg + Lg : Nat) : Int) = 2 * (Lg : Int) by omega] at this
    exact this
  have h3 : ∀ W, (Instr.sliceAt 22 (.slice (some ⟨b, o, none⟩) (2 * Lg + 2) c) (some (.int .i64 (2 * (Lg : Int)))) none none).run Tryd.prog W = .ok (.slice (some ⟨b, o + 2 * Lg, none⟩) 2 (c - 2 * Lg)) W := fun W => by
    have := slice_l' W b o (2 * Lg + 2) c (2 * Lg) (by omega) (by omega)
    rw [show 2 * Lg + 2 - 2 * Lg = 2 by omega, show ((2 * Lg : Nat) : Int) = 2 * (Lg : Int) by omega] at this
    exact this
  have HST1 := hide (HST.out b o c w1 B1.out hbl BS.out)
  clear HST
  go_upto_region 6 with (go_at_call 12; refine HST1.out.mono ?_; rintro e w2 ⟨vi, rfl, oi, b2⟩; have O2 := hide oi; have B2 := hide (B1.out.trans (b2.mono B1.out.size)); have BS2 := hide (BS.out.below b2 hbl); have hbl2 := Nat.lt_of_lt_of_le hbl b2.size; clear oi b2 HST1 BS)
  obtain ⟨xi, ci, rfl, hci, hcm, hni⟩ := (show OwnsB w2 w1.heap.size vi ins from O2.out).form
  have TX2 := hide (show TextAt w2 xi ins from OwnsB.text O2.out)
  rw [HIL.out] at hci hni
  clear O2 hcm hbl B1
  rw [HIL.out]
  have HSE2 := hide (HSE.out b o (c - Lg) w2 xi ci hbl2 BS2.out TX2.out hni)
  clear HSE
  go_upto_region 7 with (first
    | (go_at_call 29; refine HSE2.out.mono ?_; rintro e w3 ⟨rfl, b3⟩; have B3 := hide (B2.out.trans (b3.mono B2.out.size)); have BS3 := hide (BS2.out.below b3 hbl2); have TX3 := hide (TX2.out.below b3); have hbl3 := Nat.lt_of_lt_of_le hbl2 b3.size; have R3 := hide (heap_new w3 (.cells (oA S 0) 55)); clear b3 BS2 TX2 hbl2 B2 HSE2)
    | (refine wpList_store_row rfl 55 (.tmp 15) (.tmp 51) rfl w3.heap.size (oA S 20) (by rfl) (by rfl) (oA S 0) 55 R3.out H20.out (by rw [oA, oA, fA_size, fA_size]) (fA_one _ _ _ _) ?_; intro w4 G4 K4))
  have K3 : Kept (fun i => i = w3.heap.size) w3 w4 := (Kept.alloc _ (Kept.refl _ w3) _).trans K4.out (fun _ _ e => e)
  have B34 : Below w3.heap.size w3 w4 := K3.below (Nat.le_refl _) (fun i hi e => by omega)
  have B4 := hide (B3.out.trans (B34.mono B3.out.size))
  have BS4 := hide (BS3.out.below B34 hbl3)
  have TX4 := hide (TX3.out.below B34)
  have hbl4 := Nat.lt_of_lt_of_le hbl3 B34.size
  have TG4 : Hid (TextAt w4 (some ⟨w3.heap.size, 0, none⟩) ((outL S).take 10)) := hide (by
    rcases text20 G4.out with h0 | ⟨b', o', e, hb', h⟩
    · rw [outL_length] at h0; omega
    · simp only [Option.some.injEq, Addr.mk.injEq] at e
      obtain ⟨rfl, rfl, _⟩ := e
      exact .inr ⟨_, _, rfl, hb', h.take 10⟩)
  obtain ⟨t, ht⟩ : ∃ t, t = w3.heap.size := ⟨_, rfl⟩
  rw [← ht] at TG4 ⊢
  clear R3 G4 K4 K3 B34 BS3 TX3 hbl3 B3 ht
  have TS4 := hide (HSA.out.below B4.out)
  have TK4 := hide (show TextAt w4 (some ⟨b, o + 2 * Lg, none⟩) lk from .inr ⟨b, o + 2 * Lg, rfl, hbl4, by have := (BS4.out.drop Lg).drop Lg; rw [HLG.out] at this ⊢; rw [HLE.out, lkL]; rw [show o + 2 * (4 * n) = o + 4 * n + 4 * n by omega]; exact this⟩)
  have E0 := hide (OwnsB.empty w4 w4.heap.size (Nat.le_refl _))
  have BE := hide ((Below.refl _ w4).alloc (Nat.le_refl _) (.cells #[] 5) : Below w4.heap.size w4 _)
  clear HSA BS4 hbl4
  have hsalt : salt.length + 2 ≤ 100 := by have := HM.out; omega
  go_upto_region 8 with (refine wpList_appB _ rfl (.tmp 52) (.tmp 53) rfl w4.heap.size (.slice (some ⟨w4.heap.size, 0, none⟩) 0 0) [] (by rfl) E0.out sa M sc (by rfl) salt salt (by rfl) HM.out.symm (TS4.out.below BE.out) (fun e => by have := HSN.out e; rw [HM.out]; exact this) (by simp; omega) (by simp) ?_; intro v5 w5 h5 k5; have O5 := hide h5; have B5 := hide (growB E0.out BE.out k5); clear h5 k5)
  have hs5 := B5.out.size
  obtain ⟨x5, c5, hv5, _⟩ := (show OwnsB w5 w4.heap.size v5 salt from O5.out).form
  subst hv5
  have hl5 : (salt ++ lk).length = M + 2 := by rw [List.length_append, HLK.out, HM.out]
  have HL5 := hide hl5
  clear hl5 BE E0
  go_upto_region 9 with (refine wpList_appB _ rfl (.tmp 55) (.tmp 59) rfl w4.heap.size (.slice x5 salt.length c5) salt (by rfl) O5.out (some ⟨b, o + 2 * Lg, none⟩) 2 (c - 2 * Lg) (by rfl) lk (salt ++ lk) (by rfl) HLK.out (TK4.out.below B5.out) (fun e => by cases e) (by omega) hs5 ?_; intro v6 w6 h6 k6; have O6 := hide h6; have B6 := hide (growB O5.out B5.out k6); clear h6 k6)
  have hs6 := B6.out.size
  obtain ⟨x6, c6, hv6, _⟩ := (show OwnsB w6 w4.heap.size v6 (salt ++ lk) from O6.out).form
  subst hv6
  go_upto_region 10 with (refine wpList_appB _ rfl (.tmp 61) (.tmp 62) rfl w4.heap.size (.slice x6 (salt ++ lk).length c6) (salt ++ lk) (by rfl) O6.out xi D ci (by rfl) ins (salt ++ lk ++ ins) (by rfl) HIL.out (TX4.out.below B6.out) hni (by rw [HL5.out]; omega) hs6 ?_; intro v7 w7 h7 k7; have O7 := hide h7; have B7 := hide (growB O6.out B6.out k7); clear h7 k7)
  have hs7 := B7.out.size
  obtain ⟨x7, c7, hv7, _⟩ := (show OwnsB w7 w4.heap.size v7 (salt ++ lk ++ ins) from O7.out).form
  subst hv7
  have hl7 : (salt ++ lk ++ ins).length = M + 2 + D := by rw [List.length_append, HL5.out, HIL.out]
  have HL7 := hide hl7
  clear hl7
  go_wp2_with (refine wpList_appB _ rfl (.tmp 64) (.tmp 65) rfl w4.heap.size (.slice x7 (salt ++ lk ++ ins).length c7) (salt ++ lk ++ ins) (by rfl) O7.out (some ⟨t, 0, none⟩) 10 20 (by rfl) ((outL S).take 10) (salt ++ lk ++ ins ++ (outL S).take 10) (by rfl) HTL.out (TG4.out.below B7.out) (fun e => by cases e) (by rw [HL7.out]; omega) hs7 ?_; intro v8 w8 h8 k8; have O8 := hide h8; have B8 := hide (growB O7.out B7.out k8); clear h8 k8)
  go_ret2
  refine ⟨v8, rfl, ?_, B4.out.trans (B8.out.mono B4.out.size)⟩
  rw [HE.out]
  exact OwnsB.low O8.out B4.out.size
end Go.Proofs.YtgamfpgejkhbcaaDoor.S
