/- The library's stable sort over given functions: blocks of twenty, merged. -/
import Derived.Test.YtlfffpgokemjbaaSSym
namespace Go.Proofs.Ytlfffpgokemjbaa.O
set_option maxRecDepth 100000
open Go Go.RowKit
open Go.Proofs.Ytlfffpgokemjbaa.U (hide)
set_option linter.unusedVariables false
section
variable {k : Int → Int}
/-- Blocks merged two by two, q so far. -/
def Inn (k : Int → Int) (d : List Int) (bs n q : Nat) : Prop := (∀ r, r < q → Srt k d (r * (2 * bs)) ((r + 1) * (2 * bs))) ∧ (∀ r, 2 * q ≤ r → Srt k d (r * bs) (min ((r + 1) * bs) n))
theorem two_mul_bs (q bs : Nat) : 2 * q * bs = q * (2 * bs) := by rw [Nat.mul_comm 2 q, Nat.mul_assoc]
theorem two_mul_bs1 (q bs : Nat) : (2 * q + 1) * bs = q * (2 * bs) + bs := by rw [Nat.succ_mul, two_mul_bs]
theorem two_mul_bs2 (q bs : Nat) : (2 * q + 1 + 1) * bs = q * (2 * bs) + 2 * bs := by rw [Nat.succ_mul, two_mul_bs1]; omega
theorem Inn.start {d : List Int} {bs n : Nat} (h : Blk k d bs n) : Inn k d bs n 0 := ⟨fun r hr => by omega, fun r _ => h r⟩
theorem Inn.halves {d : List Int} {bs n q : Nat} (h : Inn k d bs n q) (hn : q * (2 * bs) + 2 * bs ≤ n) : Srt k d (q * (2 * bs)) (q * (2 * bs) + bs) ∧ Srt k d (q * (2 * bs) + bs) (q * (2 * bs) + 2 * bs) := by
  have h1 := h.2 (2 * q) (Nat.le_refl _)
  have h2 := h.2 (2 * q + 1) (by omega)
  rw [two_mul_bs, two_mul_bs1, Nat.min_eq_left (by omega)] at h1
  rw [two_mul_bs1, two_mul_bs2, Nat.min_eq_left (by omega)] at h2
  exact ⟨h1, h2⟩
theorem Inn.step {d e : List Int} {bs n q : Nat} (h : Inn k d bs n q) (s : Stir (q * (2 * bs)) (q * (2 * bs) + 2 * bs) d e) (hs : Srt k e (q * (2 * bs)) (q * (2 * bs) + 2 * bs)) : Inn k e bs n (q + 1) := by
  refine ⟨fun r hr => ?_, fun r hr => ?_⟩
  · by_cases e' : r = q
    · subst e'; rw [Nat.add_mul r 1, Nat.one_mul]; exact hs
    · have : (r + 1) * (2 * bs) ≤ q * (2 * bs) := Nat.mul_le_mul_right _ (by omega)
      exact (h.1 r (by omega)).stirred s (.inl this)
  · have : (2 * q + 1 + 1) * bs ≤ r * bs := Nat.mul_le_mul_right _ (by omega)
    rw [two_mul_bs2] at this
    exact (h.2 r (by omega)).stirred s (.inr this)
theorem Inn.last {d e : List Int} {bs n q : Nat} (h : Inn k d bs n q) (hn : n < q * (2 * bs) + 2 * bs) (s : Stir (q * (2 * bs)) n d e) (hs : Srt k e (q * (2 * bs)) n) : Blk k e (2 * bs) n := by
  intro r
  by_cases c : r < q
  · have : (r + 1) * (2 * bs) ≤ q * (2 * bs) := Nat.mul_le_mul_right _ (by omega)
    exact ((h.1 r c).stirred s (.inl this)).part (Nat.le_refl _) (Nat.min_le_left _ _)
  · by_cases c' : r = q
    · subst c'
      rw [Nat.add_mul r 1, Nat.one_mul, Nat.min_eq_right (by omega)]; exact hs
    · have : (q + 1) * (2 * bs) ≤ r * (2 * bs) := Nat.mul_le_mul_right _ (by omega)
      rw [Nat.add_mul q 1, Nat.one_mul] at this
      exact Srt.one _ _ _ (by have := Nat.min_le_right ((r + 1) * (2 * bs)) n; omega)
theorem Inn.odd {d : List Int} {bs n q : Nat} (h : Inn k d bs n q) (hn : n ≤ q * (2 * bs) + bs) : Srt k d (q * (2 * bs)) n := by
  have h1 := h.2 (2 * q) (Nat.le_refl _)
  rw [two_mul_bs, two_mul_bs1, Nat.min_eq_right (by omega)] at h1
  exact h1
theorem Inn.both {d : List Int} {bs n q : Nat} (h : Inn k d bs n q) (hn : q * (2 * bs) + bs < n) (hn2 : n < q * (2 * bs) + 2 * bs) : Srt k d (q * (2 * bs)) (q * (2 * bs) + bs) ∧ Srt k d (q * (2 * bs) + bs) n := by
  have h1 := h.2 (2 * q) (Nat.le_refl _)
  have h2 := h.2 (2 * q + 1) (by omega)
  rw [two_mul_bs, two_mul_bs1, Nat.min_eq_left (by omega)] at h1
  rw [two_mul_bs1, two_mul_bs2, Nat.min_eq_right (by omega)] at h2
  exact ⟨h1, h2⟩
/-- Blocks of twenty, so far. -/
def Fst (k : Int → Int) (d : List Int) (q : Nat) : Prop := ∀ r, r < q → Srt k d (r * 20) ((r + 1) * 20)
theorem Fst.step {d e : List Int} {q : Nat} (h : Fst k d q) (s : Stir (q * 20) (q * 20 + 20) d e) (hs : Srt k e (q * 20) (q * 20 + 20)) : Fst k e (q + 1) := by
  intro r hr
  by_cases e' : r = q
  · subst e'; rw [Nat.succ_mul]; exact hs
  · exact (h r (by omega)).stirred s (.inl (by omega))
theorem Fst.last {d e : List Int} {q n : Nat} (h : Fst k d q) (hn : n < q * 20 + 20) (s : Stir (q * 20) n d e) (hs : Srt k e (q * 20) n) : Blk k e 20 n := by
  intro r
  by_cases c : r < q
  · exact ((h r c).stirred s (.inl (by omega))).part (Nat.le_refl _) (Nat.min_le_left _ _)
  · by_cases c' : r = q
    · subst c'
      rw [Nat.min_eq_right (by omega)]; exact hs
    · exact Srt.one _ _ _ (by have := Nat.min_le_right ((r + 1) * 20) n; omega)
end

variable {g : Nat} {lb : Array Value} {sf : Nat} {sb : Array Value} {blk n : Nat} {k : Int → Int} {R : List Int → World → Prop}
/-- What a sort makes, so far. -/
def StOk (g : Nat) (lb : Array Value) (sf : Nat) (sb : Array Value) (blk : Nat) (R : List Int → World → Prop) (B n : Nat) (k : Int → Int) (d dk : List Int) (w w' : World) : Prop := Stirk k 0 n d dk ∧ Gone g lb sf sb blk R B w dk w'
theorem StOk.more {B a b : Nat} {d dk e : List Int} {w w' w2 : World} (h : StOk g lb sf sb blk R B n k d dk w w') (hB : B ≠ blk) (hb : b ≤ n) (s : Stirk k a b dk e) (r : R e w2) (kp : Kept (fun i => i = blk) w' w2) : StOk g lb sf sb blk R B n k d e w w2 :=
  ⟨h.1.trans (s.wide (Nat.zero_le _) hb), h.2.more hB r kp⟩
set_option maxHeartbeats 4000000 in
set_option maxRecDepth 100000 in
theorem stable_c (L : LS g lb sf sb blk n k R) (d : List Int) (w : World) (h : R d w) (hn : n ≤ 1000) :
    Calls Try.prog 47 #[.agg #[.func (.func g) #[] lb, .func (.func sf) #[] sb], .int .i64 n] w fun e w' =>
      e = .returned (.tuple #[]) ∧ ∃ d', Srt k d' 0 n ∧ Stirk k 0 n d d' ∧ R d' w' ∧ Kept (fun i => i = blk) w w' := by
  have HL := hide L
  have hn9 : n ≤ 1000000000 := by omega
  have hbn : w.heap.size ≠ blk := by have := L.lt h; omega
  have HB := hide hbn
  have HN := hide (L.len h)
  have HR : Hid (StOk g lb sf sb blk R w.heap.size n k d d w (w.alloc (.cells #[.func (.func g) #[] lb, .func (.func sf) #[] sb] 65))) := ⟨Stirk.refl _ _ _ _, Gone.start L h 65⟩
  clear h L hbn
  go_enter Try.func47, Try.ntmps47
  go_wp2_with fail
  go_loopg [5, 6] n (fun gk v7 v8 wx => ∃ (q : Nat) (dk : List Int), v7 = .int .i64 ((q * 20 : Nat) : Int) ∧ v8 = .int .i64 ((q * 20 + 20 : Nat) : Int) ∧ n - q ≤ gk ∧ q * 20 ≤ n ∧ Hid (Fst k dk q ∧ StOk g lb sf sb blk R w.heap.size n k d dk w wx))
  case atStart => exact ⟨0, d, rfl, rfl, by omega, by omega, fun r hr => by omega, HR.out⟩
  case round =>
    obtain ⟨q, dk, rfl, rfl, hg, hq, HI⟩ := hrel
    obtain ⟨hc0, hc1⟩ := HI.out.2.2.2.2
    by_cases hlt : q * 20 + 20 ≤ n
    · have hlt' : ((q * 20 + 20 : Nat) : Int) ≤ (n : Int) := by omega
      have HQ := hide (insertion_c HL.out (q * 20) (q * 20 + 20) dk wr HI.out.2.2.1 (by omega) (by omega) hn9)
      obtain ⟨A, hA⟩ : ∃ A, q * 20 = A := ⟨_, rfl⟩
      obtain ⟨B, hB⟩ : ∃ B, q * 20 + 20 = B := ⟨_, rfl⟩
      have HAB : Hid (q * 20 = A ∧ q * 20 + 20 = B) := ⟨hA, hB⟩
      rw [hB] at hlt' ⊢
      rw [hA] at ⊢
      rw [hB, hA] at HQ
      have hB0 : B ≤ 1000 := by omega
      clear hA hB
      go_wp2_with (go_at_call 69; refine HQ.out.mono ?_; rintro e w1 ⟨rfl, K⟩; have HK := hide K; clear K)
      obtain ⟨hA, hB⟩ := HAB.out
      go_roundg (n - (q + 1))
      case measure => omega
      case rel =>
        obtain ⟨d', s1, s2, s3, s4⟩ := HK.out
        rw [← hA, ← hB] at s1 s2
        exact ⟨q + 1, d', by congr 1; omega, by congr 1; omega, Nat.le_refl _, by omega, HI.out.1.step s2.st s1, HI.out.2.more HB.out (by omega) s2 s3 s4⟩
    · have hlt' : ¬ ((q * 20 + 20 : Nat) : Int) ≤ (n : Int) := by omega
      have HQ := hide (insertion_c HL.out (q * 20) n dk wr HI.out.2.2.1 (by omega) (Nat.le_refl _) hn9)
      obtain ⟨A, hA⟩ : ∃ A, q * 20 = A := ⟨_, rfl⟩
      obtain ⟨B, hB⟩ : ∃ B, q * 20 + 20 = B := ⟨_, rfl⟩
      have HAB : Hid (q * 20 = A ∧ q * 20 + 20 = B) := ⟨hA, hB⟩
      rw [hB] at hlt' ⊢
      rw [hA] at ⊢
      rw [hA] at HQ
      clear hA hB
      go_wp2_with (go_at_call 69; refine HQ.out.mono ?_; rintro e w1 ⟨rfl, K⟩; have HK := hide K; clear K)
      have HS2 : Hid (∃ dk, Blk k dk 20 n ∧ StOk g lb sf sb blk R w.heap.size n k d dk w w1) := by
        obtain ⟨d', s1, s2, s3, s4⟩ := HK.out
        have hA := HAB.out.1
        rw [← hA] at s1 s2
        exact ⟨d', HI.out.1.last (by omega) s2.st s1, HI.out.2.more HB.out (Nat.le_refl _) s2 s3 s4⟩
      clear HK HI HQ hc0 hc1
      go_loopg [4] n (fun gk v6 wx => ∃ (bs : Nat), v6 = .int .i64 bs ∧ 0 < bs ∧ bs ≤ 2000 ∧ n - bs ≤ gk ∧ Hid (∃ dk, Blk k dk bs n ∧ StOk g lb sf sb blk R w.heap.size n k d dk w wx))
      case atStart => exact ⟨20, rfl, by omega, by omega, by omega, HS2.out⟩
      case round =>
        obtain ⟨bs, rfl, hb0, hb1, hgb, HI⟩ := hrel
        by_cases hbn : bs < n
        · have hbn' : (bs : Int) < (n : Int) := by omega
          go_wp2_with fail
          go_loopg [5, 6] n (fun g2 v7 v8 wx => ∃ (A B q : Nat), v7 = .int .i64 A ∧ v8 = .int .i64 B ∧ A + 2 * bs ≤ B ∧ B ≤ A + 2 * bs ∧ A ≤ n ∧ n - A ≤ g2 ∧ Hid (A = q * (2 * bs) ∧ ∃ dk, Inn k dk bs n q ∧ StOk g lb sf sb blk R w.heap.size n k d dk w wx))
          case atStart =>
            obtain ⟨dk, k1, k2⟩ := HI.out
            exact ⟨0, 2 * bs, 0, rfl, by go_num, by omega, by omega, by omega, by omega, by omega, dk, Inn.start k1, k2⟩
          case round =>
            obtain ⟨A, B, q, rfl, rfl, hAB1, hAB2, hAd, hg2, HJ⟩ := hrel
            by_cases hBn : B ≤ n
            · have hBn' : (B : Int) ≤ (n : Int) := by omega
              obtain ⟨hA, dk, k1, k2⟩ := HJ.out
              have hh := k1.halves (by omega)
              rw [← hA, show A + 2 * bs = B by omega] at hh
              have hc := sym_any HL.out hn9 (B - A) A (A + bs) B dk wr (Nat.le_refl _) k2.2.1 (by omega) (by omega) hBn hh.1 hh.2
              obtain ⟨hc0, hc1⟩ := k2.2.2.2
              obtain ⟨m, hm⟩ : ∃ m, A + bs = m := ⟨_, rfl⟩
              have hm' : (A : Int) + (bs : Int) = (m : Int) := by omega
              rw [hm] at hc
              have HQ := hide hc
              have HA := hide hA
              have H1 := hide k1
              have H2 := hide k2
              clear hc hA k1 k2 hh hm
              go_wp2_with (go_at_call 70; refine HQ.out.mono ?_; rintro e w1 ⟨rfl, K⟩; have HK := hide K; clear K)
              go_roundg (n - B)
              case measure => omega
              case rel =>
                obtain ⟨d', s1, s2, s3, s4⟩ := HK.out
                have hB : B = q * (2 * bs) + 2 * bs := by have := HA.out; omega
                rw [HA.out, hB] at s1 s2
                refine ⟨B, B + 2 * bs, q + 1, rfl, by go_num, by omega, by omega, hBn, Nat.le_refl _, ?_, d', H1.out.step s2.st s1, H2.out.more HB.out (by omega) s2 s3 s4⟩
                rw [hB, Nat.add_mul q 1, Nat.one_mul]
            · have hBn' : ¬ (B : Int) ≤ (n : Int) := by omega
              obtain ⟨m, hm⟩ : ∃ m, A + bs = m := ⟨_, rfl⟩
              have hm' : (A : Int) + (bs : Int) = (m : Int) := by omega
              have hm1 : m ≤ A + bs := by omega
              have hm2 : A + bs ≤ m := by omega
              clear hm
              by_cases hmn : m < n
              · have hmn' : (m : Int) < (n : Int) := by omega
                obtain ⟨hA, dk, k1, k2⟩ := HJ.out
                have hh := k1.both (by omega) (by omega)
                rw [← hA, show A + bs = m by omega] at hh
                have hc := sym_any HL.out hn9 (n - A) A m n dk wr (Nat.le_refl _) k2.2.1 (by omega) hmn (Nat.le_refl _) hh.1 hh.2
                obtain ⟨hc0, hc1⟩ := k2.2.2.2
                have HQ := hide hc
                have HA := hide hA
                have H1 := hide k1
                have H2 := hide k2
                clear hc hA k1 k2 hh
                go_wp2_with (go_at_call 70; refine HQ.out.mono ?_; rintro e w1 ⟨rfl, K⟩; have HK := hide K; clear K)
                go_roundg (n - 2 * bs)
                case measure => omega
                case rel =>
                  obtain ⟨d', s1, s2, s3, s4⟩ := HK.out
                  rw [HA.out] at s1 s2
                  exact ⟨2 * bs, by go_num, by omega, by omega, Nat.le_refl _, d', H1.out.last (by have := HA.out; omega) s2.st s1, H2.out.more HB.out (Nat.le_refl _) s2 s3 s4⟩
              · have hmn' : ¬ (m : Int) < (n : Int) := by omega
                go_wp2_with fail
                go_roundg (n - 2 * bs)
                case measure => omega
                case rel =>
                  obtain ⟨hA, dk, k1, k2⟩ := HJ.out
                  exact ⟨2 * bs, by go_num, by omega, by omega, Nat.le_refl _, dk, k1.last (by omega) (Stir.refl _ _ _) (k1.odd (by omega)), k2⟩
        · have hbn' : ¬ (bs : Int) < (n : Int) := by omega
          go_wp2_with fail
          go_end0
          obtain ⟨dk, k1, k2⟩ := HI.out
          exact ⟨rfl, dk, k1.all (by omega), k2.1, k2.2.1, k2.2.2.1⟩
end Go.Proofs.Ytlfffpgokemjbaa.O
