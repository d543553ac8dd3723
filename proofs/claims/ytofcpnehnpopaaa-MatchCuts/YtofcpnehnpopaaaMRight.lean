/- Which tokens may be: the program's Right and the reference's. -/
import Derived.Test.YtofcpnehnpopaaaMTok
namespace Go.Proofs.Ytofcpnehnpopaaa
set_option maxRecDepth 100000
open Go Go.RowKit

/-- What Right answers. -/
def RightOk (xs : List Tk) (w : World) (e : Ending) (w' : World) : Prop := ∃ β, e = .returned (.bool β) ∧ (β = true ↔ Rt xs) ∧ Below w.heap.size w w'
theorem RightOk.no {xs : List Tk} {w w' : World} {i : Nat} (hi : i < xs.length) (h : ¬ OkT (sm (xs.take i)) (tk xs i)) (hb : Below w.heap.size w w') : RightOk xs w (.returned (.bool false)) w' :=
  ⟨false, rfl, ⟨fun e => (by cases e), fun e => absurd (e i hi) h⟩, hb⟩
theorem RightOk.yes {xs : List Tk} {w w' : World} {i : Nat} (hi : i = xs.length) (h : RtTo xs i) (hb : Below w.heap.size w w') : RightOk xs w (.returned (.bool true)) w' :=
  ⟨true, rfl, ⟨fun _ => (by subst hi; exact h), fun _ => rfl⟩, hb⟩

theorem Toks.three {w w' : World} {a : Option Addr} {xs : List Tk} (h : Toks w a xs) (k : Below w.heap.size w w') {i : Nat} (hi : i < xs.length) : ∃ b off, a = some ⟨b, off, none⟩ ∧ b < w'.heap.size ∧ w'.cell? ⟨b, off + i * 3, none⟩ = some (.int .u8 (tk xs i).1) ∧ w'.cell? ⟨b, off + i * 3 + 1, none⟩ = some (.int .i64 (tk xs i).2.1) ∧ w'.cell? ⟨b, off + i * 3 + 2, none⟩ = some (.int .i64 (tk xs i).2.2) := by
  rcases h.stay k with h | ⟨b, off, h1, ha, hc⟩
  · omega
  · exact ⟨b, off, ha, h1, hc i hi⟩

set_option maxHeartbeats 4000000 in
theorem right_c (a : Option Addr) (cap : Nat) (xs : List Tk) (w : World) (h : Toks w a xs) (hl : xs.length ≤ 1000000000) : Calls Try.prog 12 #[.slice a xs.length cap] w (RightOk xs w) := by
  have HT := hide h
  clear h
  go_enter Try.func12, Try.ntmps12
  go_wp2_with fail
  go_loopg [3, 8] xs.length (fun gk v3 v8 wx => ∃ (i : Nat) (S : Int), i + gk = xs.length ∧ v3 = .int .i64 S ∧ v8 = .int .i64 i ∧ 0 ≤ S ∧ S ≤ 258 * i ∧ Hid (S = sm (xs.take i) ∧ RtTo xs i ∧ Below w.heap.size w wx))
  case atStart => exact ⟨0, 0, by omega, rfl, rfl, by omega, by omega, by simp [sm], RtTo.zero _, Below.refl _ _⟩
  case round =>
    obtain ⟨i, S, hig, rfl, rfl, hS0, hS1, HI⟩ := hrel
    cases gk with
    | zero =>
      have hge : ¬ (i : Int) < (xs.length : Int) := by omega
      go_wp2_with fail
      go_ret
      exact RightOk.yes (by omega) HI.out.2.1 HI.out.2.2
    | succ g1 =>
      have hlt : (i : Int) < (xs.length : Int) := by omega
      obtain ⟨b, off, rfl, hbl, c0, c1, c2⟩ := HT.out.three HI.out.2.2 (i := i) (by omega)
      obtain ⟨t, ht⟩ : ∃ t, tk xs i = t := ⟨_, rfl⟩
      rw [ht] at c0 c1 c2
      obtain ⟨B, L, K⟩ := t
      simp only at c0 c1 c2
      have HTK := hide ht
      have HNO : Hid (¬ OkT S (B, L, K) → ∀ w', Below w.heap.size w w' → RightOk xs w (.returned (.bool false)) w') := fun hno w' hb => RightOk.no (i := i) (by omega) (by rw [← HI.out.1, ht]; exact hno) hb
      have HYES : Hid (OkT S (B, L, K) → (S + tl (B, L, K) = sm (xs.take (i + 1)) ∧ RtTo xs (i + 1))) := fun hy => ⟨by rw [tk_take_snoc (by omega), sm_snoc, ← HI.out.1, ht], HI.out.2.1.succ (by rw [← HI.out.1, ht]; exact hy)⟩
      have HSZ : Hid (w.heap.size ≤ wr.heap.size) := HI.out.2.2.size
      have HB : Hid (Below w.heap.size w wr) := HI.out.2.2
      have hsz : w.heap.size ≤ wr.heap.size := HSZ.out
      clear HI HT ht
      by_cases hok : OkT S (B, L, K)
      · have htl := hok.tl
        have hY := HYES.out hok
        rcases hok with ⟨rfl, rfl⟩ | ⟨rfl, h1, h2, h3, h4, h5⟩
        · have hY' := hide hY
          clear HYES HNO hY
          have ht1 : tl (B, 0, 0) = 1 := by simp [tl]
          rw [ht1] at hY' htl
          go_wp2_with (first
            | (go_at_call 21; refine (isByte_yes B _).mono ?_; rintro e w1 ⟨rfl, rfl⟩)
            | (go_at_call 20; refine (told_c B 0 0 _).mono ?_; rw [ht1]; rintro e w2 ⟨rfl, rfl⟩))
          go_roundg g1
          case measure => omega
          case rel => exact ⟨i + 1, S + 1, by omega, rfl, by go_num, by omega, by omega, hY'.out.1, hY'.out.2, ((HB.out.alloc (by first | omega | (simp; omega)) _).alloc (by first | omega | (simp; omega)) _).alloc (by first | omega | (simp; omega)) _⟩
        · simp only at h1 h2 h3 h4 h5
          have hY' := hide hY
          clear HYES HNO hY
          have ht1 : tl (0, L, K) = L := by simp only [tl]; rw [if_neg (by omega)]
          rw [ht1] at hY' htl
          have hnb : ¬ (L = 0 ∧ K = 0) := by omega
          have hL0 : ¬ L = 0 := by omega
          go_wp2_with (first
            | (go_at_call 21; refine (isByte_no 0 L K _ hnb).mono ?_; rintro e w1 ⟨rfl, rfl⟩)
            | (go_at_call 22; refine (isRun_yes L K _ h1 h2 h3 h4).mono ?_; rintro e w1 ⟨rfl, rfl⟩)
            | (go_at_call 20; refine (told_c 0 L K _).mono ?_; rw [ht1]; rintro e w2 ⟨rfl, rfl⟩))
          go_roundg g1
          case measure => omega
          case rel => exact ⟨i + 1, S + L, by omega, rfl, by go_num, by omega, by omega, hY'.out.1, hY'.out.2, (((HB.out.alloc (by first | omega | (simp; omega)) _).alloc (by first | omega | (simp; omega)) _).alloc (by first | omega | (simp; omega)) _).alloc (by first | omega | (simp; omega)) _⟩
      · have hN := hide (HNO.out hok)
        clear HNO HYES
        have hnb : ¬ (L = 0 ∧ K = 0) := fun e => hok (.inl e)
        by_cases hrun : B = 0 ∧ 3 ≤ L ∧ L ≤ 258 ∧ 1 ≤ K ∧ K ≤ 32768
        · obtain ⟨rfl, h1, h2, h3, h4⟩ := hrun
          have h5 : ¬ K ≤ S := fun e => hok (.inr ⟨rfl, h1, h2, h3, h4, e⟩)
          have h5' : decide (K ≤ S) = false := by simpa using h5
          clear hok
          go_wp2_with (first
            | (go_at_call 21; refine (isByte_no 0 L K _ hnb).mono ?_; rintro e w1 ⟨rfl, rfl⟩)
            | (go_at_call 22; refine (isRun_yes L K _ h1 h2 h3 h4).mono ?_; rintro e w1 ⟨rfl, rfl⟩))
          go_ret
          exact hN.out _ (((HB.out.alloc (by first | omega | (simp; omega)) _).alloc (by first | omega | (simp; omega)) _).alloc (by first | omega | (simp; omega)) _)
        · clear hok
          go_wp2_with (first
            | (go_at_call 21; refine (isByte_no B L K _ hnb).mono ?_; rintro e w1 ⟨rfl, rfl⟩)
            | (go_at_call 22; refine (isRun_no B L K _ hrun).mono ?_; rintro e w1 ⟨rfl, rfl⟩))
          go_ret
          exact hN.out _ (((HB.out.alloc (by first | omega | (simp; omega)) _).alloc (by first | omega | (simp; omega)) _).alloc (by first | omega | (simp; omega)) _)
set_option maxHeartbeats 4000000 in
theorem qright_c (a : Option Addr) (cap : Nat) (xs : List Tk) (w : World) (h : Toks w a xs) (hl : xs.length ≤ 1000000000) : Calls Try.prog 11 #[.slice a xs.length cap] w (RightOk xs w) := by
  have HT := hide h
  clear h
  go_enter Try.func11, Try.ntmps11
  go_wp2_with fail
  go_loopg [3, 4] xs.length (fun gk v3 v8 wx => ∃ (i : Nat) (S : Int), i + gk = xs.length ∧ v3 = .int .i64 S ∧ v8 = .int .i64 i ∧ 0 ≤ S ∧ S ≤ 258 * i ∧ Hid (S = sm (xs.take i) ∧ RtTo xs i ∧ Below w.heap.size w wx))
  case atStart => exact ⟨0, 0, by omega, rfl, rfl, by omega, by omega, by simp [sm], RtTo.zero _, Below.refl _ _⟩
  case round =>
    obtain ⟨i, S, hig, rfl, rfl, hS0, hS1, HI⟩ := hrel
    cases gk with
    | zero =>
      have hge : ¬ (i : Int) < (xs.length : Int) := by omega
      go_wp2_with fail
      go_ret
      exact RightOk.yes (by omega) HI.out.2.1 HI.out.2.2
    | succ g1 =>
      have hlt : (i : Int) < (xs.length : Int) := by omega
      obtain ⟨b, off, rfl, hbl, c0, c1, c2⟩ := HT.out.three HI.out.2.2 (i := i) (by omega)
      obtain ⟨t, ht⟩ : ∃ t, tk xs i = t := ⟨_, rfl⟩
      rw [ht] at c0 c1 c2
      obtain ⟨B, L, K⟩ := t
      simp only at c0 c1 c2
      have HNO : Hid (¬ OkT S (B, L, K) → ∀ w', Below w.heap.size w w' → RightOk xs w (.returned (.bool false)) w') := fun hno w' hb => RightOk.no (i := i) (by omega) (by rw [← HI.out.1, ht]; exact hno) hb
      have HYES : Hid (OkT S (B, L, K) → (S + tl (B, L, K) = sm (xs.take (i + 1)) ∧ RtTo xs (i + 1))) := fun hy => ⟨by rw [tk_take_snoc (by omega), sm_snoc, ← HI.out.1, ht], HI.out.2.1.succ (by rw [← HI.out.1, ht]; exact hy)⟩
      have hsz : w.heap.size ≤ wr.heap.size := HI.out.2.2.size
      have HB : Hid (Below w.heap.size w wr) := HI.out.2.2
      clear HI HT ht
      by_cases hok : OkT S (B, L, K)
      · have htl := hok.tl
        have hY := HYES.out hok
        rcases hok with ⟨rfl, rfl⟩ | ⟨rfl, h1, h2, h3, h4, h5⟩
        · have hY' := hide hY
          clear HYES HNO hY
          have ht1 : tl (B, 0, 0) = 1 := by simp [tl]
          rw [ht1] at hY' htl
          go_wp2_with fail
          go_roundg g1
          case measure => omega
          case rel => exact ⟨i + 1, S + 1, by omega, rfl, by go_num, by omega, by omega, hY'.out.1, hY'.out.2, HB.out.alloc (by first | omega | (simp; omega)) _⟩
        · simp only at h1 h2 h3 h4 h5
          have hY' := hide hY
          clear HYES HNO hY
          have ht1 : tl (0, L, K) = L := by simp only [tl]; rw [if_neg (by omega)]
          rw [ht1] at hY' htl
          have hnb : ¬ L = 0 := by omega
          go_wp2_with fail
          go_roundg g1
          case measure => omega
          case rel => exact ⟨i + 1, S + L, by omega, rfl, by go_num, by omega, by omega, hY'.out.1, hY'.out.2, HB.out.alloc (by first | omega | (simp; omega)) _⟩
      · have hN := hide (HNO.out hok)
        have hbel := hide (HB.out.alloc (by first | omega | (simp; omega)) (tO (B, L, K)))
        clear HNO HYES
        have hnb : ¬ (L = 0 ∧ K = 0) := fun e => hok (.inl e)
        have hno : ¬ (B = 0 ∧ 3 ≤ L ∧ L ≤ 258 ∧ 1 ≤ K ∧ K ≤ 32768 ∧ K ≤ S) := fun e => hok (.inr e)
        clear hok
        by_cases hL0 : L = 0
        · subst hL0
          have hK0 : ¬ K = 0 := fun e => hnb ⟨rfl, e⟩
          clear hnb hno
          by_cases hB0 : B = 0
          · subst hB0
            go_wp2_with fail
            go_ret
            exact hN.out _ hbel.out
          · go_wp2_with fail
            go_ret
            exact hN.out _ hbel.out
        · clear hnb
          by_cases hB0 : B = 0
          case neg =>
            clear hno
            go_wp2_with fail
            go_ret
            exact hN.out _ hbel.out
          subst hB0
          by_cases q1 : 3 ≤ L
          case neg =>
            clear hno
            go_wp2_with fail
            go_ret
            exact hN.out _ hbel.out
          by_cases q2 : L ≤ 258
          case neg =>
            clear hno
            go_wp2_with fail
            go_ret
            exact hN.out _ hbel.out
          by_cases q3 : 1 ≤ K
          case neg =>
            clear hno
            go_wp2_with fail
            go_ret
            exact hN.out _ hbel.out
          by_cases q4 : K ≤ 32768
          case neg =>
            clear hno
            go_wp2_with fail
            go_ret
            exact hN.out _ hbel.out
          have q5 : ¬ K ≤ S := fun e => hno ⟨rfl, q1, q2, q3, q4, e⟩
          clear hno
          go_wp2_with fail
          go_ret
          exact hN.out _ hbel.out
theorem right_yes (a : Option Addr) (cap : Nat) (xs : List Tk) (w : World) (h : Toks w a xs) (hl : xs.length ≤ 1000000000) (hr : Rt xs) : Calls Try.prog 12 #[.slice a xs.length cap] w fun e w' => e = .returned (.bool true) ∧ Below w.heap.size w w' :=
  (right_c a cap xs w h hl).mono fun e w' ⟨β, he, hb, k⟩ => ⟨by rw [he, hb.2 hr], k⟩
theorem right_no (a : Option Addr) (cap : Nat) (xs : List Tk) (w : World) (h : Toks w a xs) (hl : xs.length ≤ 1000000000) (hr : ¬ Rt xs) : Calls Try.prog 12 #[.slice a xs.length cap] w fun e w' => e = .returned (.bool false) ∧ Below w.heap.size w w' :=
  (right_c a cap xs w h hl).mono fun e w' ⟨β, he, hb, k⟩ => ⟨by rw [he]; cases β with | false => rfl | true => exact absurd (hb.1 rfl) hr, k⟩
theorem qright_yes (a : Option Addr) (cap : Nat) (xs : List Tk) (w : World) (h : Toks w a xs) (hl : xs.length ≤ 1000000000) (hr : Rt xs) : Calls Try.prog 11 #[.slice a xs.length cap] w fun e w' => e = .returned (.bool true) ∧ Below w.heap.size w w' :=
  (qright_c a cap xs w h hl).mono fun e w' ⟨β, he, hb, k⟩ => ⟨by rw [he, hb.2 hr], k⟩
theorem qright_no (a : Option Addr) (cap : Nat) (xs : List Tk) (w : World) (h : Toks w a xs) (hl : xs.length ≤ 1000000000) (hr : ¬ Rt xs) : Calls Try.prog 11 #[.slice a xs.length cap] w fun e w' => e = .returned (.bool false) ∧ Below w.heap.size w w' :=
  (qright_c a cap xs w h hl).mono fun e w' ⟨β, he, hb, k⟩ => ⟨by rw [he]; cases β with | false => rfl | true => exact absurd (hb.1 rfl) hr, k⟩
end Go.Proofs.Ytofcpnehnpopaaa
