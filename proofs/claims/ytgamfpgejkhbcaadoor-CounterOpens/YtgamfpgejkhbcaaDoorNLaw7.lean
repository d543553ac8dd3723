/- The law that Open tells what the reference tells: walked. -/
import Derived.Test.YtgamfpgejkhbcaaDoorNSame
namespace Go.Proofs.YtgamfpgejkhbcaaDoor.S
set_option maxRecDepth 100000
open Go Go.RowKit

theorem parts_of (xs : List Nat) (n : Nat) (h : 2 * n + 12 ≤ xs.length) : ∃ salt lk ins tg, xs = salt ++ lk ++ ins ++ tg ∧ salt.length = 2 * n ∧ lk.length = 2 ∧ tg.length = 10 ∧ xs.length = 2 * n + 12 + ins.length := by
  refine ⟨xs.take (2 * n), (xs.drop (2 * n)).take 2, ((xs.drop (2 * n)).drop 2).take (xs.length - 2 * n - 12), ((xs.drop (2 * n)).drop 2).drop (xs.length - 2 * n - 12), ?_, ?_, ?_, ?_, ?_⟩
  · rw [List.append_assoc, List.append_assoc, List.take_append_drop, List.take_append_drop, List.take_append_drop]
  · rw [List.length_take]; omega
  · rw [List.length_take, List.length_drop]; omega
  · rw [List.length_drop, List.length_drop, List.length_drop]; omega
  · rw [List.length_take, List.length_drop, List.length_drop]; omega

set_option maxHeartbeats 4000000 in
theorem counterOpens_walk (s : Int) (a b : Option Addr) (ca cb : Nat) (pw xs : List Nat) (w : World) (h0 : BIn w a ca pw) (h1 : BIn w b cb xs) (hl0 : pw.length ≤ 140737488351232) (hl1 : xs.length ≤ 140737488351232) (hT : K.Tab w) :
    Calls Tryd.prog 5 #[.int .i64 s, .slice a pw.length ca, .slice b xs.length cb] w (Yes w) := by
  have HT0 := hide hT
  have BA := hide (Below.refl w.heap.size w)
  by_cases hs : pw.length ≤ 2000 ∧ xs.length ≤ 2000
  · have HSH := hide (short_yes a b pw.length ca xs.length cb w hs.1 hs.2)
    obtain ⟨zs, er, HP, HR⟩ : ∃ zs er, Hid (Calls Tryd.prog 15 #[.int .i64 s, .slice a pw.length ca, .slice b xs.length cb] w (TelRes zs er w)) ∧ Hid (∀ W, Below w.heap.size w W → Calls Tryd.prog 16 #[.int .i64 s, .slice a pw.length ca, .slice b xs.length cb] W (TelRes zs er W)) := by
      by_cases hk : kbs s = 0 ∨ 2 * xs.length < kbs s + 24
      · refine ⟨[], 130, hide ?_, hide fun W hb => ?_⟩
        · refine (open_no s (.slice a pw.length ca) b xs.length cb w hk).mono ?_
          rintro e w' ⟨rfl, rfl⟩
          exact TelRes.none (Below.refl _ _)
        · refine (ropen_no s (.slice a pw.length ca) b xs.length cb W hk).mono ?_
          rintro e w' ⟨rfl, rfl⟩
          exact TelRes.none (Below.refl _ _)
      · obtain ⟨n, hn, hkn⟩ : ∃ n, (n = 4 ∨ n = 6 ∨ n = 8) ∧ kbs s = 4 * n := by
          rcases kbs_cases s with h0 | h0
          · exact absurd (.inl h0) hk
          · exact h0
        obtain ⟨salt, lk, ins, tg, rfl, hsl, hll, htl, hxl⟩ := parts_of xs n (by omega)
        obtain ⟨xb, xo, rfl, hxb, hxs⟩ : ∃ xb xo, b = some ⟨xb, xo, none⟩ ∧ xb < w.heap.size ∧ Bs w xb xo (salt ++ lk ++ ins ++ tg) := by
          rcases h1.text with h | h
          · omega
          · exact h
        have hc := h1.cap_
        have P := open_at s n a ca xb xo cb pw salt lk ins tg w hn hkn h0.by_ h0.text h0.cap_ h0.most (by omega) h1.by_ hxb hxs hsl hll htl (by omega) hc h1.most hT
        have R := fun W (hb : Below w.heap.size w W) => ropen_c s n a ca xb xo cb pw salt lk ins tg W hn hkn h0.by_ (h0.text.below hb) h0.nil (by omega) h1.by_ (Nat.lt_of_lt_of_le hxb hb.size) (hxs.below hb hxb) hsl hll htl (by omega) (by omega) h1.most
        rw [← hxl] at R
        by_cases e1 : lk = lkL (kyL pw salt (4 * n)) n
        · by_cases e2 : tg = tagL (sk2 (kyL pw salt (4 * n)) n) ins
          · refine ⟨insL (kyL pw salt (4 * n)) n ins, 0, hide ?_, hide fun W hb => ?_⟩
            · refine P.mono ?_
              rintro e w' ⟨hb, h⟩
              rw [if_pos e1, if_pos e2] at h
              obtain ⟨v, rfl, ho⟩ := h
              exact TelRes.own ho hb
            · refine (R W hb).mono ?_
              rintro e w' ⟨hb, h⟩
              rw [if_pos e1, if_pos e2] at h
              obtain ⟨v, rfl, ho⟩ := h
              exact TelRes.own ho hb
          · refine ⟨[], 132, hide ?_, hide fun W hb => ?_⟩
            · refine P.mono ?_
              rintro e w' ⟨hb, h⟩
              rw [if_pos e1, if_neg e2] at h
              rw [h]
              exact TelRes.none hb
            · refine (R W hb).mono ?_
              rintro e w' ⟨hb, h⟩
              rw [if_pos e1, if_neg e2] at h
              rw [h]
              exact TelRes.none hb
        · refine ⟨[], 131, hide ?_, hide fun W hb => ?_⟩
          · refine P.mono ?_
            rintro e w' ⟨hb, h⟩
            rw [if_neg e1] at h
            rw [h]
            exact TelRes.none hb
          · refine (R W hb).mono ?_
            rintro e w' ⟨hb, h⟩
            rw [if_neg e1] at h
            rw [h]
            exact TelRes.none hb
    generalize pw.length = L at *
    generalize xs.length = N at *
    clear h0 h1 hT hl0 hl1 hs
    obtain ⟨Z, hZ⟩ : ∃ Z, Z = zs.length := ⟨_, rfl⟩
    have HZ := hide hZ
    clear hZ
    go_enter Tryd.func5, Tryd.ntmps5
    go_upto_region 4 with (first
      | (go_at_call 9; refine HSH.out.mono ?_; rintro e wq ⟨rfl, hw⟩; obtain rfl := hw.symm; clear HSH)
      | (go_at_call 15; refine HP.out.mono ?_; rintro e w1 ⟨x1, k1, rfl, p1, b1⟩; have P1 := hide p1; have B1 := hide b1; clear b1 p1 HP))
    have HR1 := hide (HR.out w1 B1.out)
    have H1 := True.intro
    clear HR
    go_upto_region 5 with (go_at_call 16; refine HR1.out.mono ?_; rintro e w2 ⟨x2, k2, rfl, p2, b2⟩; have P2 := hide p2; have B2 := hide b2; clear b2 p2 HR1)
    have BB2 := hide (BA.out.trans ((B1.out.trans (B2.out.mono B1.out.size)).mono BA.out.size))
    have HV1 := fun W (k : Below w2.heap.size w2 W) => hide (conv_at (cap := k1) ((P1.out.below B2.out).below k))
    have HV2 := fun W (k : Below w2.heap.size w2 W) => hide (conv_at (cap := k2) (P2.out.below k))
    rw [← HZ.out] at HV1 HV2 ⊢
    generalize strOfNums (zs.map fun (x : Nat) => (x : Int)) = S at HV1 HV2
    have HT2 := hide (HT0.out.stay (B1.out.trans (B2.out.mono B1.out.size)))
    clear P1 P2 B1 B2 HZ HT0
    go_wp2_with (go_at_call 10; refine (alive_c _ HT2.out).mono ?_; rintro e w3 ⟨rfl, b3⟩; have B3 := hide (BB2.out.trans (b3.mono BB2.out.size)); have hv1 := (HV1 w3 b3).out; have hv2 := (HV2 w3 b3).out; clear b3)
    go_ret
    exact ⟨rfl, B3.out⟩
  · have HSH := hide (short_no a b pw.length ca xs.length cb w hs)
    generalize pw.length = L at *
    generalize xs.length = N at *
    clear h0 h1 hT hl0 hl1 hs
    go_enter Tryd.func5, Tryd.ntmps5
    go_wp2_with (first
      | (go_at_call 9; refine HSH.out.mono ?_; rintro e wq ⟨rfl, hw⟩; obtain rfl := hw.symm; clear HSH)
      | (go_at_call 10; refine (alive_c _ HT0.out).mono ?_; rintro e w3 ⟨rfl, b3⟩; have B3 := hide (BA.out.trans (b3.mono BA.out.size)); clear b3))
    go_ret
    exact ⟨rfl, B3.out⟩
end Go.Proofs.YtgamfpgejkhbcaaDoor.S
