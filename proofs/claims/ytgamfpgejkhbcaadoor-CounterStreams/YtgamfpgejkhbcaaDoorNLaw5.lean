/- The law that Stream tells what the reference tells: walked. -/
import Derived.Test.YtgamfpgejkhbcaaDoorNSame
namespace Go.Proofs.YtgamfpgejkhbcaaDoor.S
set_option maxRecDepth 100000
open Go Go.RowKit

set_option maxHeartbeats 4000000 in
theorem counterStreams_walk (a b : Option Addr) (ca cb : Nat) (key xs : List Nat) (w : World) (h0 : BIn w a ca key) (h1 : BIn w b cb xs) (hl1 : xs.length ≤ 140737488351232) (hT : K.Tab w) :
    Calls Tryd.prog 3 #[.slice a key.length ca, .slice b xs.length cb] w (Yes w) := by
  have HT0 := hide hT
  have BA := hide (Below.refl w.heap.size w)
  by_cases hs : key.length ≤ 2000 ∧ xs.length ≤ 2000
  · have HSH := hide (short_yes a b key.length ca xs.length cb w hs.1 hs.2)
    obtain ⟨zs, er, HP, HR⟩ : ∃ zs er, Hid (Calls Tryd.prog 11 #[.slice a key.length ca, .slice b xs.length cb] w (TelRes zs er w)) ∧ Hid (∀ W, Below w.heap.size w W → Calls Tryd.prog 12 #[.slice a key.length ca, .slice b xs.length cb] W (TelRes zs er W)) := by
      by_cases hk : key.length = 16 ∨ key.length = 24 ∨ key.length = 32
      · obtain ⟨n, hn, hkl⟩ : ∃ n, (n = 4 ∨ n = 6 ∨ n = 8) ∧ key.length = 4 * n := ⟨key.length / 4, by omega, by omega⟩
        obtain ⟨kb, ko, rfl, hkb, hks⟩ : ∃ kb ko, a = some ⟨kb, ko, none⟩ ∧ kb < w.heap.size ∧ Bs w kb ko key := by
          rcases h0.text with h | h
          · omega
          · exact h
        have hc := h0.cap_
        rw [hkl] at hc ⊢
        refine ⟨K.strL (K.msk (K.kK key n) (n + 6)) xs, 0, hide ?_, hide fun W hb => ?_⟩
        · refine (K.stream_c ⟨kb, ko, none⟩ ca n key b cb xs w hn hkl h0.by_ h0.text hc hT h1.by_ h1.text (by omega)).mono ?_
          rintro e w' ⟨v, rfl, ho, hb⟩
          exact TelRes.own ho hb
        · refine (K.rstream_c kb ko ca n key b cb xs W hn hkl h0.by_ (Nat.lt_of_lt_of_le hkb hb.size) (hks.below hb hkb) h1.by_ (h1.text.below hb) (by omega)).mono ?_
          rintro e w' ⟨v, rfl, ho, hb2⟩
          exact TelRes.own ho hb2
      · refine ⟨[], 120, hide ?_, hide fun W hb => ?_⟩
        · refine (K.stream_no a key.length ca (.slice b xs.length cb) w (by omega)).mono ?_
          rintro e w' ⟨rfl, rfl⟩
          exact TelRes.none (Below.refl _ _)
        · refine (K.rstream_no a key.length ca b xs.length cb W (by omega)).mono ?_
          rintro e w' ⟨rfl, hb2⟩
          exact TelRes.none hb2
    generalize key.length = L at *
    generalize xs.length = N at *
    clear h0 h1 hT hl1 hs
    obtain ⟨Z, hZ⟩ : ∃ Z, Z = zs.length := ⟨_, rfl⟩
    have HZ := hide hZ
    clear hZ
    go_enter Tryd.func3, Tryd.ntmps3
    go_upto_region 4 with (first
      | (go_at_call 9; refine HSH.out.mono ?_; rintro e wq ⟨rfl, hw⟩; obtain rfl := hw.symm; clear HSH)
      | (go_at_call 11; refine HP.out.mono ?_; rintro e w1 ⟨x1, k1, rfl, p1, b1⟩; have P1 := hide p1; have B1 := hide b1; clear b1 p1 HP))
    have HR1 := hide (HR.out w1 B1.out)
    have H1 := True.intro
    clear HR
    go_upto_region 5 with (go_at_call 12; refine HR1.out.mono ?_; rintro e w2 ⟨x2, k2, rfl, p2, b2⟩; have P2 := hide p2; have B2 := hide b2; clear b2 p2 HR1)
    have BB2 := hide (BA.out.trans ((B1.out.trans (B2.out.mono B1.out.size)).mono BA.out.size))
    have HV1 := fun W (k : Below w2.heap.size w2 W) => hide (conv_at (cap := k1) ((P1.out.below B2.out).below k))
    have HV2 := fun W (k : Below w2.heap.size w2 W) => hide (conv_at (cap := k2) (P2.out.below k))
    rw [← HZ.out] at HV1 HV2 ⊢
    generalize strOfNums (zs.map fun (x : Nat) => (x : Int)) = S at HV1 HV2
    have HT2 := hide (HT0.out.stay (B1.out.trans (B2.out.mono B1.out.size)))
    clear P1 P2 B1 B2 HZ HT0
    go_wp2_with (go_at_call 10; refine (alive_c _ HT2.out).mono ?_; rintro e w3 ⟨rfl, b3⟩; have B3 := hide (BB2.out.trans (b3.mono BB2.out.size)); have hv1 := (HV1 w3 b3).out; have hv2 := (HV2 w3 b3).out; clear b3)
    go_ret
    exact ⟨rfl, B3.out⟩
  · have HSH := hide (short_no a b key.length ca xs.length cb w hs)
    generalize key.length = L at *
    generalize xs.length = N at *
    clear h0 h1 hT hl1 hs
    go_enter Tryd.func3, Tryd.ntmps3
    go_wp2_with (first
      | (go_at_call 9; refine HSH.out.mono ?_; rintro e wq ⟨rfl, hw⟩; obtain rfl := hw.symm; clear HSH)
      | (go_at_call 10; refine (alive_c _ HT0.out).mono ?_; rintro e w3 ⟨rfl, b3⟩; have B3 := hide (BA.out.trans (b3.mono BA.out.size)); clear b3))
    go_ret
    exact ⟨rfl, B3.out⟩
end Go.Proofs.YtgamfpgejkhbcaaDoor.S
