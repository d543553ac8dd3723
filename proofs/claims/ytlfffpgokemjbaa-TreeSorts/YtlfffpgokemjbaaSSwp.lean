/- The library's stable sort over given functions, its small functions: two ranges swapped, a row turned. -/
import Derived.Test.YtlfffpgokemjbaaSBas
namespace Go.Proofs.Ytlfffpgokemjbaa.O
set_option maxRecDepth 100000
open Go Go.RowKit
open Go.Proofs.Ytlfffpgokemjbaa.U (hide)
set_option linter.unusedVariables false
variable {g : Nat} {lb : Array Value} {sf : Nat} {sb : Array Value} {blk n : Nat} {k : Int → Int} {R : List Int → World → Prop}
set_option maxRecDepth 100000 in
theorem swapRange_c (L : LS g lb sf sb blk n k R) (a b c : Nat) (d : List Int) (w : World) (h : R d w) (hab : a + c ≤ b) (hb : b + c ≤ n) (hn : n ≤ 1000000000) :
    Calls Try.prog 79 #[.agg #[.func (.func g) #[] lb, .func (.func sf) #[] sb], .int .i64 a, .int .i64 b, .int .i64 c] w fun e w' =>
      e = .returned (.tuple #[]) ∧ ∃ d', SwR d d' a b c ∧ Stir a (b + c) d d' ∧ R d' w' ∧ Kept (fun i => i = blk) w w' := by
  have HL := hide L
  have HR := hide h
  have hbn : w.heap.size ≠ blk := by have := L.lt h; omega
  have HB := hide hbn
  have HN := hide (L.len h)
  have G0 := hide (Gone.start L h 65)
  clear h L hbn
  go_enter Try.func79, Try.ntmps79
  go_wp2_with fail
  go_loopg [8] c (fun gk v8 wx => ∃ (i : Nat) (dk : List Int), i + gk = c ∧ v8 = .int .i64 i ∧ Hid (SwR d dk a b i ∧ Stir a (b + c) d dk ∧ Gone g lb sf sb blk R w.heap.size w dk wx))
  case atStart => exact ⟨0, d, by omega, rfl, SwR.start d a b, Stir.refl _ _ _, G0.out⟩
  case round =>
    obtain ⟨i, dk, hig, rfl, HI⟩ := hrel
    cases gk with
    | zero =>
      obtain rfl : i = c := by omega
      go_wp2_with fail
      go_end0
      exact ⟨rfl, dk, HI.out.1, HI.out.2.1, HI.out.2.2.1, HI.out.2.2.2.1⟩
    | succ gk =>
      have hlt : (i : Int) < (c : Int) := by omega
      obtain ⟨w', hs, hR, hk⟩ := HL.out.swap (a + i) (b + i) HI.out.2.2.1 (by omega) (by omega) (by omega)
      rw [Int.natCast_add, Int.natCast_add] at hs
      have hc1 := HI.out.2.2.2.2.2
      have HHR := hide hR
      have HHK := hide hk
      clear hR hk
      go_wp2_with fail
      go_roundg gk
      case measure => omega
      case rel =>
        obtain ⟨a1, a2, a3⟩ := HI.out
        have hl := a1.len
        exact ⟨i + 1, swp dk (a + i) (b + i), by omega, by go_num, a1.step (by omega) (by rw [HN.out]; omega), a2.trans (Stir.swp (by omega) (by omega) (by omega) (by omega) (by rw [hl, HN.out]; omega)), a3.more HB.out HHR.out HHK.out⟩
/-- What is left to be turned: whatever it is turned to, the whole is turned so. -/
def Left (d dk : List Int) (a m b i j : Nat) : Prop := ∀ f, Rot dk f (m - i) m (m + j) → Rot d f a m b
set_option maxRecDepth 100000 in
theorem rotate_c (L : LS g lb sf sb blk n k R) (a m b : Nat) (d : List Int) (w : World) (h : R d w) (ham : a < m) (hmb : m < b) (hb : b ≤ n) (hn : n ≤ 1000000000) :
    Calls Try.prog 75 #[.agg #[.func (.func g) #[] lb, .func (.func sf) #[] sb], .int .i64 a, .int .i64 m, .int .i64 b] w fun e w' =>
      e = .returned (.tuple #[]) ∧ ∃ d', Rot d d' a m b ∧ Stir a b d d' ∧ R d' w' ∧ Kept (fun i => i = blk) w w' := by
  have HL := hide L
  have hbn : w.heap.size ≠ blk := by have := L.lt h; omega
  have HB := hide hbn
  have HN := hide (L.len h)
  have G0 := hide (Gone.start L h 65)
  clear h L hbn
  go_enter Try.func75, Try.ntmps75
  go_wp2_with fail
  go_loopg [8, 9] (b - a) (fun gk v8 v9 wx => ∃ (i j : Nat) (dk : List Int), i + j ≤ gk ∧ 0 < i ∧ 0 < j ∧ i ≤ m - a ∧ j ≤ b - m ∧ v8 = .int .i64 i ∧ v9 = .int .i64 j ∧ Hid (Left d dk a m b i j ∧ dk.length = d.length ∧ Stir a b d dk ∧ Gone g lb sf sb blk R w.heap.size w dk wx))
  case atStart =>
    refine ⟨m - a, b - m, d, by omega, by omega, by omega, Nat.le_refl _, Nat.le_refl _, by go_num, by go_num, ?_, rfl, Stir.refl _ _ _, G0.out⟩
    intro f hf
    rw [show m - (m - a) = a by omega, show m + (b - m) = b by omega] at hf
    exact hf
  case round =>
    obtain ⟨i, j, dk, hij, hi0, hj0, him, hjb, rfl, rfl, HI⟩ := hrel
    have hmi : ((m : Int) - (i : Int)) = ((m - i : Nat) : Int) := by omega
    obtain ⟨hc0, hc1⟩ := HI.out.2.2.2.2.2
    by_cases hne : i = j
    · subst hne
      have hc := swapRange_c HL.out (m - i) m i dk wr HI.out.2.2.2.1 (by omega) (by omega) hn
      rw [← hmi] at hc
      have HC := hide hc
      clear hmi hc
      go_wp2_with (go_at_call 79; refine HC.out.mono ?_; rintro e w1 ⟨rfl, K⟩; have HK : Hid _ := K; clear K)
      go_end0
      obtain ⟨d', s1, s2, s3, s4⟩ := HK.out
      obtain ⟨l1, l2, l3, l4⟩ := HI.out
      exact ⟨rfl, d', l1 d' (Rot.last (by omega) s1), l3.trans (s2.wide (by omega) (by omega)), s3, l4.2.1.trans s4 (fun _ _ h => h)⟩
    · by_cases hgt : j < i
      · have hc := swapRange_c HL.out (m - i) m j dk wr HI.out.2.2.2.1 (by omega) (by omega) hn
        rw [← hmi] at hc
        have HC := hide hc
        clear hmi hc
        have hne' : ¬ (i : Int) = (j : Int) := by omega
        have hgt' : (j : Int) < (i : Int) := by omega
        go_wp2_with (go_at_call 79; refine HC.out.mono ?_; rintro e w1 ⟨rfl, K⟩; have HK : Hid _ := K; clear K)
        go_roundg (i - j + j)
        case measure => omega
        case rel =>
          obtain ⟨d', s1, s2, s3, s4⟩ := HK.out
          obtain ⟨l1, l2, l3, l4⟩ := HI.out
          refine ⟨i - j, j, d', Nat.le_refl _, by omega, hj0, by omega, hjb, by go_num, rfl, ?_, s1.len.trans l2, l3.trans (s2.wide (by omega) (by omega)), l4.more HB.out s3 s4⟩
          exact fun f hf => l1 f (Rot.more (by omega) hgt s1 hf)
      · have hmj : ((m : Int) + (j : Int) - (i : Int)) = ((m + j - i : Nat) : Int) := by omega
        have hc := swapRange_c HL.out (m - i) (m + j - i) i dk wr HI.out.2.2.2.1 (by omega) (by omega) hn
        rw [← hmi, ← hmj] at hc
        have HC := hide hc
        clear hmi hmj hc
        have hne' : ¬ (i : Int) = (j : Int) := by omega
        have hgt' : ¬ (j : Int) < (i : Int) := by omega
        go_wp2_with (go_at_call 79; refine HC.out.mono ?_; rintro e w1 ⟨rfl, K⟩; have HK : Hid _ := K; clear K)
        go_roundg (i + (j - i))
        case measure => omega
        case rel =>
          obtain ⟨d', s1, s2, s3, s4⟩ := HK.out
          obtain ⟨l1, l2, l3, l4⟩ := HI.out
          refine ⟨i, j - i, d', Nat.le_refl _, hi0, by omega, him, by omega, rfl, by go_num, ?_, s1.len.trans l2, l3.trans (s2.wide (by omega) (by omega)), l4.more HB.out s3 s4⟩
          exact fun f hf => l1 f (Rot.less (by omega) (by omega) s1 hf)
end Go.Proofs.Ytlfffpgokemjbaa.O
