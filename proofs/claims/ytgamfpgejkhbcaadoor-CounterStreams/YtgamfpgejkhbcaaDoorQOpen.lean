/- The reference's Open: contracts. -/
import Derived.Test.YtgamfpgejkhbcaaDoorQSeal
import Derived.Test.YtgamfpgejkhbcaaDoorNG2
import Derived.Test.YtgamfpgejkhbcaaDoorHOpen
namespace Go.Proofs.YtgamfpgejkhbcaaDoor.S
set_option maxRecDepth 100000
open Go Go.RowKit

theorem strs_same {xs ys : List Nat} (hx : By xs) (hy : By ys) : ((strOfNums (xs.map fun (x : Nat) => (x : Int))).toList == (strOfNums (ys.map fun (x : Nat) => (x : Int))).toList) = decide (xs = ys) := by
  by_cases e : xs = ys
  · subst e; simp
  · rw [decide_eq_false e]
    rw [beq_eq_false_iff_ne]
    intro h
    apply e
    have h2 : (strOfNums (xs.map fun (x : Nat) => (x : Int))).data.toList = (strOfNums (ys.map fun (x : Nat) => (x : Int))).data.toList := by
      rw [ByteArray.toList_eq, ByteArray.toList_eq] at h
      exact h
    rw [strOfNums_data, strOfNums_data] at h2
    simp only [List.map_map] at h2
    have g : ∀ (zs : List Nat), By zs → (zs.map ((fun n : Int => UInt8.ofNat n.toNat) ∘ fun (x : Nat) => (x : Int))).map UInt8.toNat = zs := fun zs hz => by
      rw [List.map_map]
      conv => rhs; rw [← List.map_id zs]
      apply List.map_congr_left
      intro x hx
      have := hz x hx
      simp [Function.comp]
      omega
    rw [← g xs hx, h2, g ys hy]

theorem ropen_no (s : Int) (u : Value) (d : Option Addr) (ld dc : Nat) (w : World) (h : kbs s = 0 ∨ 2 * ld < kbs s + 24) :
    Calls Tryd.prog 16 #[.int .i64 s, u, .slice d ld dc] w fun e w' => e = .returned (.tuple #[.slice none 0 0, .int .i64 130]) ∧ w' = w := by
  have HB := hide (rsize_c s w)
  rcases kbs_cases s with h0 | ⟨n, hn, h0⟩
  · rw [h0] at HB
    clear h
    go_enter Tryd.func16, Tryd.ntmps16
    go_wp2_with (go_at_call 27; refine HB.out.mono ?_; rintro e w1 ⟨rfl, hw⟩; obtain rfl := hw.symm; clear HB)
    go_ret2
    exact ⟨rfl, rfl⟩
  · rw [h0] at HB h
    obtain ⟨Lg, hLg⟩ : ∃ Lg, Lg = 4 * n := ⟨_, rfl⟩
    rw [← hLg] at HB h
    have hL0 : ¬ (Lg : Int) = 0 := by omega
    obtain ⟨H, hH⟩ : ∃ H, H = 2 * n := ⟨_, rfl⟩
    have hq : (Lg : Int) / 2 = (H : Int) := by omega
    have hHl : H ≤ 16 := by omega
    have hlt : (ld : Int) < (H : Int) + 12 := by omega
    have hb1 : ((Lg : Int) == 0) = false := by simpa using hL0
    have hb2 : decide ((ld : Int) < (H : Int) + 12) = true := by simpa using hlt
    clear h hLg hH h0 hn
    go_enter Tryd.func16, Tryd.ntmps16
    go_wp2_with (go_at_call 27; refine HB.out.mono ?_; rintro e w1 ⟨rfl, hw⟩; obtain rfl := hw.symm; clear HB)
    go_ret2
    exact ⟨rfl, rfl⟩
theorem wrap64_nat (n : Nat) (h : n ≤ 9223372036854775807) : wrap64 (n : Int) = (n : Int) := by unfold wrap64; omega
theorem conv_bs {w : World} {b o cap : Nat} {ys : List Nat} (hb : b < w.heap.size) (h : Bs w b o ys) : (convert 22 9 (.slice (some ⟨b, o, none⟩) ys.length cap)).run Tryd.prog w = .ok (.string (strOfNums (ys.map fun (x : Nat) => (x : Int)))) w := conv_at (.inr ⟨b, o, rfl, hb, h⟩)

set_option maxHeartbeats 8000000 in
theorem ropen_c (s : Int) (n : Nat) (a : Option Addr) (ca b o cd : Nat) (pw salt lk ins tg : List Nat) (w : World) (hn : n = 4 ∨ n = 6 ∨ n = 8) (hs0 : kbs s = 4 * n) (hk : By pw) (hka : TextAt w a pw) (hkn : a = none → pw.length = 0 ∧ ca = 0) (hkl : pw.length ≤ 3000)
    (hys : By (salt ++ lk ++ ins ++ tg)) (hb : b < w.heap.size) (hbs : Bs w b o (salt ++ lk ++ ins ++ tg)) (hsl : salt.length = 2 * n) (hll : lk.length = 2) (htl : tg.length = 10) (hil : ins.length ≤ 1099511627776) (hcp : 2 * n + 12 + ins.length ≤ cd) (hcm : cd ≤ 9223372036854775807) :
    Calls Tryd.prog 16 #[.int .i64 s, .slice a pw.length ca, .slice (some ⟨b, o, none⟩) (2 * n + 12 + ins.length) cd] w (OpenOk (kyL pw salt (4 * n)) n lk ins tg w) := by
  have HB := hide (rsize_c s w)
  rw [hs0] at HB
  have hyS : By salt := fun x hx => hys x (by simp [hx])
  have hyL : By lk := fun x hx => hys x (by simp [hx])
  have hyI : By ins := fun x hx => hys x (by simp [hx])
  have hyT : By tg := fun x hx => hys x (by simp [hx])
  have BSS := hide (show Bs w b o salt by have := hbs.take (2 * n); rwa [List.append_assoc, List.append_assoc, ← hsl, List.take_left] at this)
  have BSL := hide (show Bs w b (o + 2 * n) lk by
    have := (hbs.drop (2 * n)).take 2
    rw [List.append_assoc, List.append_assoc, ← hsl, List.drop_left, ← hll, List.take_left, hsl] at this
    exact this)
  have BSI := hide (show Bs w b (o + (2 * n + 2)) ins by
    have := ((hbs.drop (2 * n)).drop 2).take ins.length
    rw [List.append_assoc, List.append_assoc, ← hsl, List.drop_left, ← hll, List.drop_left, List.take_left, hsl, hll] at this
    rw [← Nat.add_assoc]
    exact this)
  have BST := hide (show Bs w b (o + (2 * n + 2 + ins.length)) tg by
    have := ((hbs.drop (2 * n)).drop 2).drop ins.length
    rw [List.append_assoc, List.append_assoc, ← hsl, List.drop_left, ← hll, List.drop_left, List.drop_left, hsl, hll] at this
    rw [← Nat.add_assoc, ← Nat.add_assoc]
    exact this)
  have HKY := hide (rky_c a (some ⟨b, o, none⟩) ca cd pw salt (4 * n) w hk hka hkn hkl hyS (.inr ⟨b, o, rfl, hb, BSS.out⟩) (fun e => by cases e) (by omega) (by omega))
  have HKL := hide (kyL_length pw salt (4 * n))
  have HKB := hide (kyL_by pw salt (4 * n))
  generalize kyL pw salt (4 * n) = ks at HKY HKL HKB ⊢
  have HST : Hid (∀ b2 o2 c cx (W : World), Below w.heap.size w W → b2 < W.heap.size → Bs W b2 o2 ks → Calls Tryd.prog 12 #[.slice (some ⟨b2, o2, none⟩) (4 * n) c, .slice (some ⟨b, o + (2 * n + 2), none⟩) ins.length cx] W (K.StrOk (insL ks n ins) W)) := fun b2 o2 c cx W hbw hl hbs2 =>
    K.rstream_c b2 o2 c n (ks.take (4 * n)) (some ⟨b, o + (2 * n + 2), none⟩) cx ins W hn (by rw [List.length_take, HKL.out]; omega) (HKB.out.take _) hl (hbs2.take _) hyI (.inr ⟨b, o + (2 * n + 2), rfl, Nat.lt_of_lt_of_le hb hbw.size, BSI.out.below hbw hb⟩) hil
  have HSE : Hid (∀ b2 o2 c cx (W : World), Below w.heap.size w W → b2 < W.heap.size → Bs W b2 o2 ks → Calls Tryd.prog 29 #[.slice (some ⟨b2, o2 + 4 * n, none⟩) (4 * n) c, .slice (some ⟨b, o + (2 * n + 2), none⟩) ins.length cx] W fun e w' => e = .returned (.agg (oA (hmac (sk2 ks n) ins) 20)) ∧ Below W.heap.size W w') := fun b2 o2 c cx W hbw hl hbs2 => by
    have hkk : (sk2 ks n).length = 4 * n := by rw [sk2, List.length_take, List.length_drop, HKL.out]; omega
    have := hsumr_c (some ⟨b2, o2 + 4 * n, none⟩) (some ⟨b, o + (2 * n + 2), none⟩) c cx (sk2 ks n) ins W ((HKB.out.drop _).take _) (.inr ⟨b2, o2 + 4 * n, rfl, hl, (hbs2.drop _).take _⟩) (fun e => by cases e) (by omega) hyI (.inr ⟨b, o + (2 * n + 2), rfl, Nat.lt_of_lt_of_le hb hbw.size, BSI.out.below hbw hb⟩) (fun e => by cases e) (by omega)
    rw [hkk] at this
    exact this
  have hlk2 : (lkL ks n).length = 2 := by rw [lkL, List.length_drop, List.length_drop, HKL.out]; omega
  -- the two texts that are held against each other
  have HSD1 := hide (strs_same ((HKB.out.drop (4 * n)).drop (4 * n)) hyL)
  have HSD2 := hide (strs_same (tagL_by (sk2 ks n) ins) hyT)
  have HCV1 : Hid (∀ b2 o2 c (W : World), b2 < W.heap.size → Bs W b2 o2 ks → (convert 22 9 (.slice (some ⟨b2, o2 + 2 * (4 * n), none⟩) 2 c)).run Tryd.prog W = .ok (.string (strOfNums ((lkL ks n).map fun (x : Nat) => (x : Int)))) W) := fun b2 o2 c W hl hbs2 => by
    have := conv_bs (cap := c) hl ((hbs2.drop (4 * n)).drop (4 * n))
    rw [show ((ks.drop (4 * n)).drop (4 * n)).length = 2 from hlk2, show o2 + 4 * n + 4 * n = o2 + 2 * (4 * n) by omega] at this
    exact this
  have HCV2 : Hid (∀ c (W : World), Below w.heap.size w W → (convert 22 9 (.slice (some ⟨b, o + 2 * n, none⟩) 2 c)).run Tryd.prog W = .ok (.string (strOfNums (lk.map fun (x : Nat) => (x : Int)))) W) := fun c W hbw => by
    have := conv_bs (cap := c) (Nat.lt_of_lt_of_le hb hbw.size) (BSL.out.below hbw hb)
    rw [hll] at this
    exact this
  have HCV3 : Hid (∀ t c (W : World), W.heap[t]? = some (.cells (oA (hmac (sk2 ks n) ins) 20) 55 (0, 0)) → (convert 22 9 (.slice (some ⟨t, 0, none⟩) 10 c)).run Tryd.prog W = .ok (.string (strOfNums ((tagL (sk2 ks n) ins).map fun (x : Nat) => (x : Int)))) W) := fun t c W ht => by
    have := conv_at (cap := c) ((text20 ht).take 10)
    rw [show (List.take 10 (outL (hmac (sk2 ks n) ins))).length = 10 from tagL_length _ _] at this
    exact this
  have HCV4 : Hid (∀ c (W : World), Below w.heap.size w W → (convert 22 9 (.slice (some ⟨b, o + (2 * n + 2 + ins.length), none⟩) 10 c)).run Tryd.prog W = .ok (.string (strOfNums (tg.map fun (x : Nat) => (x : Int)))) W) := fun c W hbw => by
    have := conv_bs (cap := c) (Nat.lt_of_lt_of_le hb hbw.size) (BST.out.below hbw hb)
    rw [htl] at this
    exact this
  obtain ⟨B1, hB1⟩ : ∃ B1, B1 = decide (lk = lkL ks n) := ⟨_, rfl⟩
  obtain ⟨B2, hB2⟩ : ∃ B2, B2 = decide (tg = tagL (sk2 ks n) ins) := ⟨_, rfl⟩
  have e1 : decide ((ks.drop (4 * n)).drop (4 * n) = lk) = B1 := by rw [hB1]; exact decide_eq_decide.2 ⟨Eq.symm, Eq.symm⟩
  have e2 : decide (tagL (sk2 ks n) ins = tg) = B2 := by rw [hB2]; exact decide_eq_decide.2 ⟨Eq.symm, Eq.symm⟩
  rw [e1] at HSD1
  rw [e2] at HSD2
  have HPO : Hid (∀ e w', Below w.heap.size w w' → (B1 = true → B2 = true → ∃ v, e = .returned (.tuple #[v, .int .i64 0]) ∧ OwnsB w' w.heap.size v (insL ks n ins)) → (B1 = true → B2 = false → e = .returned (.tuple #[.slice none 0 0, .int .i64 132])) → (B1 = false → e = .returned (.tuple #[.slice none 0 0, .int .i64 131])) → OpenOk ks n lk ins tg w e w') := fun e w' hbw h1 h2 h3 => by
    refine ⟨hbw, ?_⟩
    by_cases c1 : lk = lkL ks n
    · rw [if_pos c1]
      by_cases c2 : tg = tagL (sk2 ks n) ins
      · rw [if_pos c2]; exact h1 (by rw [hB1]; simpa using c1) (by rw [hB2]; simpa using c2)
      · rw [if_neg c2]; exact h2 (by rw [hB1]; simpa using c1) (by rw [hB2]; simpa using c2)
    · rw [if_neg c1]; exact h3 (by rw [hB1]; simpa using c1)
  clear hB1 hB2 e1 e2
  generalize OpenOk ks n lk ins tg w = PO at HPO ⊢
  generalize insL ks n ins = out at HPO HST
  obtain ⟨S, hS⟩ : ∃ S, S = hmac (sk2 ks n) ins := ⟨_, rfl⟩
  rw [← hS] at HSE HCV3
  generalize strOfNums ((tagL (sk2 ks n) ins).map fun (x : Nat) => (x : Int)) = S3 at HSD2 HCV3
  generalize strOfNums (tg.map fun (x : Nat) => (x : Int)) = S4 at HSD2 HCV4
  replace HSD1 : Hid (((strOfNums ((lkL ks n).map fun (x : Nat) => (x : Int))).toList == (strOfNums (lk.map fun (x : Nat) => (x : Int))).toList) = B1) := HSD1
  generalize strOfNums ((lkL ks n).map fun (x : Nat) => (x : Int)) = S1 at HSD1 HCV1
  generalize strOfNums (lk.map fun (x : Nat) => (x : Int)) = S2 at HSD1 HCV2
  obtain ⟨J, hJ⟩ : ∃ J, J = ins.length := ⟨_, rfl⟩
  rw [← hJ] at HST HSE HCV4 ⊢
  rw [← hJ] at hil hcp
  obtain ⟨H, hH⟩ : ∃ H, H = 2 * n := ⟨_, rfl⟩
  obtain ⟨Lg, hLg⟩ : ∃ Lg, Lg = 4 * n := ⟨_, rfl⟩
  rw [← hLg] at HKY HKL HST HSE HCV1 HB
  rw [← hH] at HST HSE HCV2 HCV4 ⊢
  rw [hsl, ← hH] at HKY
  obtain ⟨P, hP⟩ : ∃ P, P = pw.length := ⟨_, rfl⟩
  rw [← hP] at HKY ⊢
  have hL0 : ¬ (Lg : Int) = 0 := by omega
  have hL3 : Lg ≤ 32 := by omega
  have hq : (Lg : Int) / 2 = (H : Int) := by omega
  have hHl : H ≤ 16 := by omega
  obtain ⟨R0, hR0⟩ : ∃ R0, R0 = H + 12 + J := ⟨_, rfl⟩
  rw [← hR0]
  obtain ⟨L2, hL2⟩ : ∃ L2, L2 = 2 * Lg := ⟨_, rfl⟩
  obtain ⟨H2, hH2⟩ : ∃ H2, H2 = H + 2 := ⟨_, rfl⟩
  obtain ⟨E, hE⟩ : ∃ E, E = H2 + J := ⟨_, rfl⟩
  rw [← hH2, ← hE] at HCV4
  rw [← hH2] at HST HSE
  rw [← hL2] at HCV1 HKL
  rw [show 2 * (Lg : Int) + 2 = (L2 : Int) + 2 by omega] at HKY
  have i1 : 2 * (Lg : Int) = (L2 : Int) := by omega
  have i2 : (H : Int) + 2 = (H2 : Int) := by omega
  have i3 : (R0 : Int) - 10 = (E : Int) := by omega
  have i4 : ¬ (R0 : Int) < (H : Int) + 12 := by omega
  have q1 : IntKind.i64.wrap (L2 : Int) = (L2 : Int) := by rw [IntKind.wrap_i64]; omega
  have q2 : IntKind.i64.wrap (H2 : Int) = (H2 : Int) := by rw [IntKind.wrap_i64]; omega
  have bL2 : L2 ≤ 64 := by omega
  have bH2 : H2 ≤ 18 := by omega
  have bE : E ≤ 1099511627900 := by omega
  have q3 : IntKind.i64.wrap (2 * (Lg : Int)) = (L2 : Int) := by rw [i1]; exact q1
  have q4 : IntKind.i64.wrap ((H : Int) + 2) = (H2 : Int) := by rw [i2]; exact q2
  have hb1 : ((Lg : Int) == 0) = false := by simpa using hL0
  have hb2 : decide ((R0 : Int) < (H : Int) + 12) = false := by simpa using i4
  have s1 := fun kb ko kc W (h : L2 + 2 ≤ kc) => slice_l' W kb ko (L2 + 2) kc L2 (by omega) (by omega)
  rw [Nat.add_sub_cancel_left] at s1
  have s2 : ∀ W, (Instr.sliceAt 22 (.slice (some ⟨b, o, none⟩) R0 cd) (some (.int .i64 (H : Int))) (some (.int .i64 (H2 : Int))) none).run Tryd.prog W = .ok (.slice (some ⟨b, o + H, none⟩) 2 (cd - H)) W := fun W => by
    have := slice_lh W b o R0 cd H 2 (by omega) (by omega)
    rwa [← hH2] at this
  have s3 : ∀ W, (Instr.sliceAt 22 (.slice (some ⟨b, o, none⟩) R0 cd) (some (.int .i64 (H2 : Int))) (some (.int .i64 (E : Int))) none).run Tryd.prog W = .ok (.slice (some ⟨b, o + H2, none⟩) J (cd - H2)) W := fun W => by
    have := slice_lh W b o R0 cd H2 J (by omega) (by omega)
    rwa [← hE] at this
  have s4 : ∀ kb ko kc W, L2 + 2 ≤ kc → (Instr.sliceAt 22 (.slice (some ⟨kb, ko, none⟩) (L2 + 2) kc) (some (.int .i64 (Lg : Int))) (some (.int .i64 (L2 : Int))) none).run Tryd.prog W = .ok (.slice (some ⟨kb, ko + Lg, none⟩) Lg (kc - Lg)) W := fun kb ko kc W h => by
    have := slice_lh W kb ko (L2 + 2) kc Lg Lg (by omega) (by omega)
    rwa [show ((Lg + Lg : Nat) : Int) = (L2 : Int) by omega] at this
  have s5 : ∀ W, (Instr.sliceAt 22 (.slice (some ⟨b, o, none⟩) R0 cd) (some (.int .i64 (E : Int))) none none).run Tryd.prog W = .ok (.slice (some ⟨b, o + E, none⟩) 10 (cd - E)) W := fun W => by
    have := slice_l' W b o R0 cd E (by omega) (by omega)
    rwa [show R0 - E = 10 by omega] at this
  have s6 := fun kb ko kc W (h : L2 + 2 ≤ kc) => slice_h .i64 W kb ko (L2 + 2) kc Lg (by omega)
  have s7 := fun W => slice_h .i64 W b o R0 cd H (by omega)
  have hz : ∀ w, (zeroValue 55).run Tryd.prog w = .ok (.agg (oA S 0)) w := (zero20 _).1
  have H20 := hide (info20 (oB S) 20)
  have hsl10 := fun W b => slice10 W b
  have HD2 := hide HSD2.out
  clear hn hs0 hk hka hkn hkl hys hbs hsl hll htl hcp hyS hyL hyI hyT BSS BSL BSI BST hlk2 hJ hH hLg hR0 hL2 hH2 hE hP hS HKB hil i4
  go_enter Tryd.func16, Tryd.ntmps16
  go_upto_region 7 with (first
    | (go_at_call 27; refine HB.out.mono ?_; rintro e w1 ⟨rfl, hw⟩; obtain rfl := hw.symm; clear HB)
    | (go_at_call 28; refine HKY.out.mono ?_; rintro e w1 ⟨kb, ko, kc, rfl, hbs, hbl, hc1, hc2, hb1'⟩; have BS := hide hbs; have BB := hide hb1'; clear hbs hb1' HKY))
  rw [HKL.out] at hc1 ⊢
  have t1 := fun W => s1 kb ko kc W hc1
  have t4 := fun W => s4 kb ko kc W hc1
  have t6 := fun W => s6 kb ko kc W hc1
  clear s1 s4 s6
  have l0 : (0 : Int) ≤ (L2 : Int) := by omega
  have KS := hide (show (convert 22 9 (.slice (some ⟨kb, ko + L2, none⟩) 2 (kc - L2))).run Tryd.prog w1.drew = .ok (.string S1) w1.drew ∧ (convert 22 9 (.slice (some ⟨b, o + H, none⟩) 2 (cd - H))).run Tryd.prog w1.drew = .ok (.string S2) w1.drew from ⟨HCV1.out kb ko _ w1.drew hbl (show Bs w1.drew kb ko ks from BS.out), HCV2.out _ _ BB.out.drew⟩)
  clear HCV1 HCV2
  go_region_held3 (fun W => (convert 22 9 (.slice (some ⟨kb, ko + L2, none⟩) 2 (kc - L2))).run Tryd.prog W = .ok (.string S1) W ∧ (convert 22 9 (.slice (some ⟨b, o + H, none⟩) 2 (cd - H))).run Tryd.prog W = .ok (.string S2) W) (first | exact KS.out) (fail)
  rw [show (!(S1.toList == S2.toList)) = !B1 by rw [HSD1.out]]
  have BB1 := hide (show Below w.heap.size w w1.drew from BB.out.drew)
  have BS1 := hide (show Bs w1.drew kb ko ks from BS.out)
  have hbl1 : kb < w1.drew.heap.size := hbl
  clear KS BB BS hbl HSD1
  generalize w1.drew = w2 at BB1 BS1 hbl1 ⊢
  cases B1 with
  | false =>
    rw [show (!false) = true from rfl]
    have HF := hide (HPO.out (.returned (.tuple #[.slice none 0 0, .int .i64 131])) w2 BB1.out (fun e => by cases e) (fun e => by cases e) (fun _ => rfl))
    clear HPO
    go_wp2_with fail
    exact HF.out
  | true =>
    rw [show (!true) = false from rfl]
    have HSE2 := hide (HSE.out kb ko (kc - Lg) (cd - H2) w2 BB1.out hbl1 BS1.out)
    clear HSE
    go_upto_region 11 with (first
      | (go_at_call 29; refine HSE2.out.mono ?_; rintro e w3 ⟨rfl, b3⟩; have BB3 := hide (BB1.out.trans (b3.mono BB1.out.size)); have BS3 := hide (BS1.out.below b3 hbl1); have hbl3 := Nat.lt_of_lt_of_le hbl1 b3.size; have R3 := hide (heap_new w3 (.cells (oA S 0) 55)); clear b3 HSE2 BS1 hbl1 BB1)
      | (refine wpList_store_row rfl 55 (.tmp 14) (.tmp 66) rfl w3.heap.size (oA S 20) (by rfl) (by rfl) (oA S 0) 55 R3.out H20.out (by rw [oA, oA, fA_size, fA_size]) (fA_one _ _ _ _) ?_; intro w4 G4 K4))
    have K3 : Kept (fun i => i = w3.heap.size) w3 w4 := (Kept.alloc _ (Kept.refl _ w3) _).trans K4.out (fun _ _ e => e)
    have B34 : Below w3.heap.size w3 w4 := K3.below (Nat.le_refl _) (fun i hi e => by omega)
    have BB4 := hide (BB3.out.trans (B34.mono BB3.out.size))
    have BS4 := hide (BS3.out.below B34 hbl3)
    have hbl4 := Nat.lt_of_lt_of_le hbl3 B34.size
    have GT := hide (show w4.drew.heap[w3.heap.size]? = some (.cells (oA S 20) 55 (0, 0)) from G4.out)
    obtain ⟨t, ht⟩ : ∃ t, t = w3.heap.size := ⟨_, rfl⟩
    rw [← ht] at GT ⊢
    have KS := hide (show (convert 22 9 (.slice (some ⟨t, 0, none⟩) 10 20)).run Tryd.prog w4.drew = .ok (.string S3) w4.drew ∧ (convert 22 9 (.slice (some ⟨b, o + E, none⟩) 10 (cd - E))).run Tryd.prog w4.drew = .ok (.string S4) w4.drew from ⟨HCV3.out t _ w4.drew GT.out, HCV4.out _ _ BB4.out.drew⟩)
    clear HCV3 HCV4 R3 G4 K4 K3 B34 BS3 hbl3 BB3 ht GT
    go_region_held3 (fun W => (convert 22 9 (.slice (some ⟨t, 0, none⟩) 10 20)).run Tryd.prog W = .ok (.string S3) W ∧ (convert 22 9 (.slice (some ⟨b, o + E, none⟩) 10 (cd - E))).run Tryd.prog W = .ok (.string S4) W) (first | exact KS.out) (fail)
    rw [show (!(S3.toList == S4.toList)) = !B2 by rw [HSD2.out]]
    have BB5 := hide (show Below w.heap.size w w4.drew from BB4.out.drew)
    have BS5 := hide (show Bs w4.drew kb ko ks from BS4.out)
    have hbl5 : kb < w4.drew.heap.size := hbl4
    clear KS BB4 BS4 hbl4 HSD2 HD2
    generalize w4.drew = w5 at BB5 BS5 hbl5 ⊢
    cases B2 with
    | false =>
      rw [show (!false) = true from rfl]
      have HF := hide (HPO.out (.returned (.tuple #[.slice none 0 0, .int .i64 132])) w5 BB5.out (fun _ e => by cases e) (fun _ _ => rfl) (fun e => by cases e))
      clear HPO
      go_wp2_with fail
      exact HF.out
    | true =>
      rw [show (!true) = false from rfl]
      have HST5 := hide (HST.out kb ko kc (cd - H2) w5 BB5.out hbl5 BS5.out)
      clear HST
      go_wp2_with (go_at_call 12; refine HST5.out.mono ?_; rintro e w6 ⟨v, rfl, ov, b6⟩; have O6 := hide ov; have B6 := hide (BB5.out.trans (b6.mono BB5.out.size)); have hs6 := BB5.out.size; clear ov b6)
      exact HPO.out _ _ B6.out (fun _ _ => ⟨v, rfl, OwnsB.low O6.out hs6⟩) (fun _ e => by cases e) (fun e => by cases e)
end Go.Proofs.YtgamfpgejkhbcaaDoor.S
