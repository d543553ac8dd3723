/- Stream of any key; the law that encrypted twice data is as it was: walked. -/
import Derived.Test.YtgamfpgejkhbcaaDoorNG2
namespace Go.Proofs.YtgamfpgejkhbcaaDoor.S
set_option maxRecDepth 100000
open Go Go.RowKit

theorem BIn.below {w w' : World} {a : Option Addr} {c : Nat} {ys : List Nat} (h : BIn w a c ys) (k : Below w.heap.size w w') : BIn w' a c ys := ⟨h.text.below k, h.by_, h.cap_, h.most, h.nil⟩
/-- Which error is told of a key, and what of it and of data. -/
def erK (key : List Nat) : Int := if key.length = 16 ∨ key.length = 24 ∨ key.length = 32 then 0 else 120
def strK (key xs : List Nat) : List Nat := if key.length = 16 ∨ key.length = 24 ∨ key.length = 32 then K.strL (K.msk (K.kK key (key.length / 4)) (key.length / 4 + 6)) xs else []
theorem strK_twice (key xs : List Nat) (h : erK key = 0) : strK key (strK key xs) = xs := by
  have hk : key.length = 16 ∨ key.length = 24 ∨ key.length = 32 := by
    unfold erK at h
    split at h
    · assumption
    · cases h
  rw [strK, strK, if_pos hk, if_pos hk, K.strL_twice]
theorem strK_length (key xs : List Nat) (h : erK key = 0) : (strK key xs).length = xs.length := by
  have hk : key.length = 16 ∨ key.length = 24 ∨ key.length = 32 := by
    unfold erK at h
    split at h
    · assumption
    · cases h
  rw [strK, if_pos hk, K.strL_length]
theorem strK_no (key xs : List Nat) (h : ¬ erK key = 0) : strK key xs = [] ∧ erK key = 120 := by
  have hk : ¬ (key.length = 16 ∨ key.length = 24 ∨ key.length = 32) := fun q => h (by rw [erK, if_pos q])
  exact ⟨by rw [strK, if_neg hk], by rw [erK, if_neg hk]⟩
theorem strK_take (key xs : List Nat) (n : Nat) (h : n ≤ xs.length) : strK key (xs.take n) = (strK key xs).take n := by
  by_cases hk : key.length = 16 ∨ key.length = 24 ∨ key.length = 32
  · rw [strK, strK, if_pos hk, if_pos hk, K.strL_take _ _ h]
  · rw [strK, strK, if_neg hk, if_neg hk, List.take_nil]
/-- What Stream answers. -/
def StrRes (key xs : List Nat) (w : World) (e : Ending) (w' : World) : Prop := ∃ a c, e = .returned (.tuple #[.slice a (strK key xs).length c, .int .i64 (erK key)]) ∧ BIn w' a c (strK key xs) ∧ Below w.heap.size w w'
theorem stream_any (a d : Option Addr) (ca dc : Nat) (key xs : List Nat) (w : World) (h0 : BIn w a ca key) (h1 : BIn w d dc xs) (hl1 : xs.length ≤ 140737488355300) (hT : K.Tab w) :
    Calls Tryd.prog 11 #[.slice a key.length ca, .slice d xs.length dc] w (StrRes key xs w) := by
  by_cases hk : key.length = 16 ∨ key.length = 24 ∨ key.length = 32
  · obtain ⟨n, hn, hkl⟩ : ∃ n, (n = 4 ∨ n = 6 ∨ n = 8) ∧ key.length = 4 * n := ⟨key.length / 4, by omega, by omega⟩
    cases a with
    | none => have := h0.nil rfl; omega
    | some ad =>
      have hc := h0.cap_
      rw [hkl] at hc ⊢
      refine (K.stream_c ad ca n key d dc xs w hn hkl h0.by_ h0.text hc hT h1.by_ h1.text hl1).mono ?_
      rintro e w' ⟨v, rfl, ho, hb⟩
      have e1 : strK key xs = K.strL (K.msk (K.kK key n) (n + 6)) xs := by rw [strK, if_pos hk, hkl, Nat.mul_div_cancel_left _ (by omega)]
      have e2 : erK key = 0 := by rw [erK, if_pos hk]
      rw [← e1] at ho
      obtain ⟨a2, c2, rfl, hc2, hm2, hn2⟩ := OwnsB.form (show OwnsB w' w.heap.size v (strK key xs) from ho)
      exact ⟨a2, c2, by rw [e2], ⟨OwnsB.text (show OwnsB w' w.heap.size _ (strK key xs) from ho), by rw [e1]; exact K.strL_by h1.by_ (fun i => K.msk_lt (fun r _ => K.kK_by h0.by_ (by omega) r) i), hc2, by unfold maxLen at hm2; omega, hn2⟩, hb⟩
  · refine (K.stream_no a key.length ca (.slice d xs.length dc) w (by omega)).mono ?_
    rintro e w' ⟨rfl, rfl⟩
    have e1 : strK key xs = [] := by rw [strK, if_neg hk]
    exact ⟨none, 0, by rw [e1, erK, if_neg hk]; rfl, by rw [e1]; exact ⟨.inl rfl, fun x hx => by simp at hx, Nat.zero_le _, by omega, fun _ => ⟨rfl, rfl⟩⟩, Below.refl _ _⟩

/-- What Stream answers, with a key that may be, or with another one. -/
theorem StrRes.yes {key xs : List Nat} {w w' : World} {e : Ending} (her : erK key = 0) (h : StrRes key xs w e w') : ∃ a c, e = .returned (.tuple #[.slice a xs.length c, .int .i64 0]) ∧ BIn w' a c (strK key xs) ∧ Below w.heap.size w w' := by
  obtain ⟨a, c, he, hb, hw⟩ := h
  rw [strK_length key xs her, her] at he
  exact ⟨a, c, he, hb, hw⟩
theorem StrRes.no {key xs : List Nat} {w w' : World} {e : Ending} (her : ¬ erK key = 0) (h : StrRes key xs w e w') : ∃ a c, e = .returned (.tuple #[.slice a 0 c, .int .i64 120]) ∧ BIn w' a c [] ∧ Below w.heap.size w w' := by
  obtain ⟨a, c, he, hb, hw⟩ := h
  rw [(strK_no key xs her).1, (strK_no key xs her).2] at he
  rw [(strK_no key xs her).1] at hb
  exact ⟨a, c, he, hb, hw⟩

set_option maxHeartbeats 4000000 in
theorem counterTwice_walk (a b : Option Addr) (ca cb : Nat) (key xs : List Nat) (w : World) (h0 : BIn w a ca key) (h1 : BIn w b cb xs) (hl1 : xs.length ≤ 140737488351232) (hT : K.Tab w) :
    Calls Tryd.prog 7 #[.slice a key.length ca, .slice b xs.length cb] w (Yes w) := by
  have HT := hide hT
  have HX := hide h1
  have HK := hide h0
  have HS1 := stream_any a b ca cb key xs w h0 h1 (by omega) hT
  by_cases her : erK key = 0
  · have HS1' := hide (HS1.mono fun e w' h => h.yes her)
    have HTW := hide (strK_twice key xs her)
    have HLN := hide (strK_length key xs her)
    have HS2 : Hid (∀ (W : World) a2 c2, Below w.heap.size w W → BIn W a2 c2 (strK key xs) → Calls Tryd.prog 11 #[.slice a key.length ca, .slice a2 xs.length c2] W (fun e w' => ∃ a3 c3, e = .returned (.tuple #[.slice a3 xs.length c3, .int .i64 0]) ∧ BIn w' a3 c3 xs ∧ Below W.heap.size W w')) := fun W a2 c2 hb h2 => by
      have := stream_any a a2 ca c2 key (strK key xs) W (h0.below hb) h2 (by rw [HLN.out]; omega) (hT.stay hb)
      rw [HLN.out] at this
      refine this.mono fun e w' h => ?_
      have h := h.yes her
      rw [HLN.out, HTW.out] at h
      exact h
    obtain ⟨N, hN⟩ : ∃ N, N = xs.length := ⟨_, rfl⟩
    obtain ⟨L, hL⟩ : ∃ L, L = key.length := ⟨_, rfl⟩
    have HN := hide hN
    rw [← hL, ← hN] at HS1' HS2 ⊢
    generalize strK key xs = zs at HS1' HS2
    clear h0 h1 hT hN hL hl1 her HS1 HTW HLN
    go_enter Tryd.func7, Tryd.ntmps7
    go_upto_region 2 with (go_at_call 11; refine HS1'.out.mono ?_; rintro e w1 ⟨a2, c2, rfl, t2, b1⟩; have T2 := hide t2; have B1 := hide b1; clear b1 t2)
    have HS3 := hide (HS2.out w1 a2 c2 B1.out T2.out)
    clear HS1' HS2 T2
    go_upto_region 3 with (go_at_call 11; refine HS3.out.mono ?_; rintro e w2 ⟨a3, c3, rfl, t3, b2⟩; have T3 := hide t3; have B2 := hide (B1.out.trans (b2.mono B1.out.size)); clear b2 t3)
    have HV1 := fun W (k : Below w2.heap.size w2 W) => hide (conv_at (cap := c3) (T3.out.text.below k))
    have HV2 := fun W (k : Below w2.heap.size w2 W) => hide (conv_at (cap := cb) ((HX.out.text.below B2.out).below k))
    rw [← HN.out] at HV1 HV2
    generalize strOfNums (xs.map fun (x : Nat) => (x : Int)) = S at HV1 HV2
    have HT2 := hide (HT.out.stay B2.out)
    clear HS3 T3 HX HK HT HN B1
    go_wp2_with (go_at_call 10; refine (alive_c _ HT2.out).mono ?_; rintro e w3 ⟨rfl, b3⟩; have B3 := hide (B2.out.trans (b3.mono B2.out.size)); have hv1 := (HV1 w3 b3).out; have hv2 := (HV2 w3 b3).out; clear b3)
    go_ret
    exact ⟨rfl, B3.out⟩
  · have HS1' := hide (HS1.mono fun e w' h => h.no her)
    have HS2 : Hid (∀ (W : World) a2 c2, Below w.heap.size w W → BIn W a2 c2 [] → Calls Tryd.prog 11 #[.slice a key.length ca, .slice a2 0 c2] W (fun e w' => ∃ a3 c3, e = .returned (.tuple #[.slice a3 0 c3, .int .i64 120]) ∧ BIn w' a3 c3 [] ∧ Below W.heap.size W w')) := fun W a2 c2 hb h2 =>
      (stream_any a a2 ca c2 key [] W (h0.below hb) h2 (Nat.zero_le _) (hT.stay hb)).mono fun e w' h => h.no her
    obtain ⟨N, hN⟩ : ∃ N, N = xs.length := ⟨_, rfl⟩
    obtain ⟨L, hL⟩ : ∃ L, L = key.length := ⟨_, rfl⟩
    rw [← hL] at HS1' HS2 ⊢
    rw [← hN] at HS1' ⊢
    clear h0 h1 hT hN hL hl1 her HS1 HX HK
    go_enter Tryd.func7, Tryd.ntmps7
    go_upto_region 2 with (go_at_call 11; refine HS1'.out.mono ?_; rintro e w1 ⟨a2, c2, rfl, t2, b1⟩; have T2 := hide t2; have B1 := hide b1; clear b1 t2)
    have HS3 := hide (HS2.out w1 a2 c2 B1.out T2.out)
    clear HS1' HS2 T2
    go_upto_region 3 with (go_at_call 11; refine HS3.out.mono ?_; rintro e w2 ⟨a3, c3, rfl, t3, b2⟩; have B2 := hide (B1.out.trans (b2.mono B1.out.size)); clear b2 t3)
    have HT2 := hide (HT.out.stay B2.out)
    clear HS3 HT B1
    go_wp2_with (go_at_call 10; refine (alive_c _ HT2.out).mono ?_; rintro e w3 ⟨rfl, b3⟩; have B3 := hide (B2.out.trans (b3.mono B2.out.size)); clear b3)
    go_ret
    exact ⟨rfl, B3.out⟩
end Go.Proofs.YtgamfpgejkhbcaaDoor.S
