/- The law that the beginning of data is encrypted as it is with more behind it: walked. -/
import Derived.Test.YtgamfpgejkhbcabDoorNLaw1
namespace Go.Proofs.YtgamfpgejkhbcabDoor.S
set_option maxRecDepth 100000
open Go Go.RowKit

/-- The beginning of a row of bytes. -/
theorem slice_begin (a : Option Addr) (len cap m : Nat) (hm : m ≤ cap) (hn : a = none → len = 0 ∧ cap = 0) : ∃ a', (∀ V : World, (Instr.sliceAt 22 (.slice a len cap) none (some (.int .i64 (m : Int))) none).run Tryd.prog V = .ok (.slice a' m cap) V) ∧ (∀ b o, a = some ⟨b, o, none⟩ → a' = some ⟨b, o, none⟩) ∧ (a' = none → m = 0 ∧ cap = 0) := by
  cases a with
  | none =>
    obtain ⟨rfl, rfl⟩ := hn rfl
    obtain rfl : m = 0 := by omega
    exact ⟨none, fun V => slice_h_nil .i64 V, (fun b o e => by cases e), fun _ => ⟨rfl, rfl⟩⟩
  | some ad =>
    obtain ⟨b, o, sp⟩ := ad
    cases sp with
    | none => exact ⟨_, fun V => slice_h .i64 V b o len cap m hm, (fun b' o' e => by cases e; rfl), fun e => by cases e⟩
    | some s =>
      refine ⟨some (Addr.add ⟨b, o, some s⟩ 0), fun V => ?_, (fun b' o' e => by cases e), fun e => by cases e⟩
      rw [run_sliceAt_slice _ _ _ _ _ _ (by kernel_rfl), run_slice_h V 22 (some ⟨b, o, some s⟩) len cap (by kernel_rfl) .i64 (m : Int) (by omega) (by omega), elemB, size5]
      have e0 : (⟨b, o, some s⟩ : Addr).add 0 = ⟨b, o, some s⟩ := by unfold Addr.add; simp
      simp [sliced, e0]
theorem BIn.begin {W : World} {a a' : Option Addr} {cap m : Nat} {ys : List Nat} (h : BIn W a cap ys) (hm : m ≤ ys.length) (h1 : ∀ b o, a = some ⟨b, o, none⟩ → a' = some ⟨b, o, none⟩) (h2 : a' = none → m = 0 ∧ cap = 0) : BIn W a' cap (ys.take m) := by
  have hl : (ys.take m).length = m := by rw [List.length_take]; omega
  have hc := h.cap_
  refine ⟨?_, h.by_.take _, by omega, h.most, fun e => by rw [hl]; exact h2 e⟩
  rcases h.text with h0 | ⟨b, o, e, hb, hs⟩
  · exact .inl (by omega)
  · exact .inr ⟨b, o, h1 b o e, hb, hs.take m⟩

set_option maxHeartbeats 4000000 in
theorem counterBegins_walk (a b : Option Addr) (ca cb : Nat) (key xs : List Nat) (x : Int) (w : World) (h0 : BIn w a ca key) (h1 : BIn w b cb xs) (hl1 : xs.length ≤ 140737488351232) (hT : K.Tab w) :
    Calls Tryd.prog 3 #[.slice a key.length ca, .slice b xs.length cb, .int .i64 x] w (Yes w) := by
  have HT := hide hT
  have HS1 := stream_any a b ca cb key xs w h0 h1 (by omega) hT
  by_cases her : erK key = 0
  · have HS1' := hide (HS1.mono fun e w' h => h.yes her)
    by_cases hx : 0 ≤ x ∧ x ≤ xs.length
    · obtain ⟨m, rfl⟩ := Int.eq_ofNat_of_zero_le hx.1
      have hm : m ≤ xs.length := by omega
      obtain ⟨b', hsl, e1, e2⟩ := slice_begin b xs.length cb m (by have := h1.cap_; omega) h1.nil
      have h2 := h1.begin hm e1 e2
      have hl : (xs.take m).length = m := by rw [List.length_take]; omega
      have HS2 : Hid (∀ (W : World), Below w.heap.size w W → Calls Tryd.prog 4 #[.slice a key.length ca, .slice b' m cb] W (fun e w' => ∃ a3 c3, e = .returned (.tuple #[.slice a3 m c3, .int .i64 0]) ∧ BIn w' a3 c3 ((strK key xs).take m) ∧ Below W.heap.size W w')) := fun W hb => by
        have := stream_any a b' ca cb key (xs.take m) W (h0.below hb) (h2.below hb) (by omega) (hT.stay hb)
        rw [hl] at this
        refine this.mono fun e w' h => ?_
        have h := h.yes her
        rw [hl, strK_take key xs m hm] at h
        exact h
      have HLZ := hide (strK_length key xs her)
      obtain ⟨N, hN⟩ : ∃ N, N = xs.length := ⟨_, rfl⟩
      obtain ⟨L, hL⟩ : ∃ L, L = key.length := ⟨_, rfl⟩
      rw [← hL, ← hN] at HS1' ⊢
      rw [← hL] at HS2
      rw [← hN] at hsl hm HLZ
      generalize strK key xs = zs at HS1' HS2 HLZ
      have m0 : ¬ (m : Int) < 0 := by omega
      have m1 : ¬ (N : Int) < (m : Int) := by omega
      clear h0 h1 h2 hT hN hL hl1 her HS1 hx e1 e2 hl
      go_enter Tryd.func3, Tryd.ntmps3
      go_upto_region 2 with (go_at_call 4; refine HS1'.out.mono ?_; rintro e w1 ⟨a2, c2, rfl, t2, b1⟩; have T2 := hide t2; have B1 := hide b1; clear b1 t2)
      have HS3 := hide (HS2.out w1 B1.out)
      obtain ⟨a2', hsl2, e1, e2⟩ := slice_begin a2 N c2 m (by have := T2.out.cap_; have := HLZ.out; omega) (fun e => by have := T2.out.nil e; have := HLZ.out; omega)
      have T2' := hide (T2.out.begin (m := m) (by rw [HLZ.out]; exact hm) e1 e2)
      have hlz : Hid ((zs.take m).length = m) := by show (zs.take m).length = m; rw [List.length_take, HLZ.out]; omega
      clear HS1' HS2 e1 e2 T2 HLZ
      go_upto_region 5 with (go_at_call 4; refine HS3.out.mono ?_; rintro e w2 ⟨a3, c3, rfl, t3, b2⟩; have T3 := hide t3; have T4 := hide (T2'.out.below b2); have B2 := hide (B1.out.trans (b2.mono B1.out.size)); clear b2 t3)
      have HV1 := fun W (k : Below w2.heap.size w2 W) => hide (conv_at (cap := c3) (T3.out.text.below k))
      have HV2 := fun W (k : Below w2.heap.size w2 W) => hide (conv_at (cap := c2) (T4.out.text.below k))
      rw [hlz.out] at HV1 HV2
      generalize strOfNums ((zs.take m).map fun (x : Nat) => (x : Int)) = S at HV1 HV2
      have HT2 := hide (show K.Tab w2.drew from (HT.out.stay B2.out).stay ((Below.refl _ w2).drew))
      have HKS := fun W (k : Below w2.heap.size w2 W) => hide (And.intro (HV1 W k).out (HV2 W k).out)
      have KS := hide (HKS w2.drew ⟨rfl, rfl, rfl, Nat.le_refl _, fun _ _ => rfl⟩).out
      clear HS3 T3 T4 T2' HT B1 HV1 HV2 hlz hm
      go_region_held3 (fun W => (convert 22 9 (.slice a3 m c3)).run Tryd.prog W = .ok (.string S) W ∧ (convert 22 9 (.slice a2' m c2)).run Tryd.prog W = .ok (.string S) W) (first | exact KS.out | exact KS3.out) ((go_at_call 5; refine (alive_c _ HT2.out).mono ?_; rintro e w3 ⟨rfl, b3⟩; have b3' := (⟨b3.os, b3.tape, b3.output, b3.size, b3.block⟩ : Below w2.heap.size w2 w3); have B3 := hide (B2.out.trans (b3'.mono B2.out.size)); have KS3 := hide (HKS w3 b3').out; clear b3 b3' HKS))
      all_goals go_wp2_with fail
      all_goals go_ret
      all_goals exact ⟨rfl, B3.out⟩
    · obtain ⟨N, hN⟩ : ∃ N, N = xs.length := ⟨_, rfl⟩
      obtain ⟨L, hL⟩ : ∃ L, L = key.length := ⟨_, rfl⟩
      rw [← hL, ← hN] at HS1' ⊢
      rw [← hN] at hx
      generalize strK key xs = zs at HS1'
      clear h0 h1 hT hN hL hl1 her HS1
      by_cases p1 : x < 0
      · clear hx
        go_enter Tryd.func3, Tryd.ntmps3
        go_wp2_with (first
          | (go_at_call 4; refine HS1'.out.mono ?_; rintro e w1 ⟨a2, c2, rfl, _, b1⟩; have HT1 := hide (HT.out.stay b1); have B1 := hide b1; clear b1)
          | (go_at_call 5; refine (alive_c _ HT1.out).mono ?_; rintro e w3 ⟨rfl, b3⟩; have B3 := hide (B1.out.trans (b3.mono B1.out.size)); clear b3))
        go_ret
        exact ⟨rfl, B3.out⟩
      · have p2 : (N : Int) < x := by omega
        clear hx
        go_enter Tryd.func3, Tryd.ntmps3
        go_wp2_with (first
          | (go_at_call 4; refine HS1'.out.mono ?_; rintro e w1 ⟨a2, c2, rfl, _, b1⟩; have HT1 := hide (HT.out.stay b1); have B1 := hide b1; clear b1)
          | (go_at_call 5; refine (alive_c _ HT1.out).mono ?_; rintro e w3 ⟨rfl, b3⟩; have B3 := hide (B1.out.trans (b3.mono B1.out.size)); clear b3))
        go_ret
        exact ⟨rfl, B3.out⟩
  · have HS1' := hide (HS1.mono fun e w' h => h.no her)
    obtain ⟨N, hN⟩ : ∃ N, N = xs.length := ⟨_, rfl⟩
    obtain ⟨L, hL⟩ : ∃ L, L = key.length := ⟨_, rfl⟩
    rw [← hL, ← hN] at HS1' ⊢
    clear h0 h1 hT hN hL hl1 her HS1
    go_enter Tryd.func3, Tryd.ntmps3
    go_wp2_with (first
      | (go_at_call 4; refine HS1'.out.mono ?_; rintro e w1 ⟨a2, c2, rfl, _, b1⟩; have HT1 := hide (HT.out.stay b1); have B1 := hide b1; clear b1)
      | (go_at_call 5; refine (alive_c _ HT1.out).mono ?_; rintro e w3 ⟨rfl, b3⟩; have B3 := hide (B1.out.trans (b3.mono B1.out.size)); clear b3))
    go_ret
    exact ⟨rfl, B3.out⟩
end Go.Proofs.YtgamfpgejkhbcabDoor.S
