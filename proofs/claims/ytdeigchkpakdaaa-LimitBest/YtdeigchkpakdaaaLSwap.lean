/- The library's stable sort, its small functions: two ranges swapped, a row turned. -/
import Derived.Test.YtdeigchkpakdaaaLMem
namespace Go.Proofs.Ytdeigchkpakdaaa
open Go Go.RowKit

set_option maxRecDepth 100000 in
theorem swapRange_c (g : Nat) (sp : Array Value) (cap a b n : Nat) (d : List Int) (fv : Value) (w : World) (h : Ro g sp d w) (hab : a + n ≤ b) (hb : b + n ≤ d.length) (hl : d.length < 4611686018427387904) :
    Calls Try.prog 34 #[.slice (some ⟨g, 0, none⟩) d.length cap, .int .i64 a, .int .i64 b, .int .i64 n, fv] w fun e w' =>
      e = .returned (.tuple #[]) ∧ ∃ d', SwR d d' a b n ∧ Stir a (b + n) d d' ∧ Ro g sp d' w' ∧ Kept (fun k => k = g) w w' := by
  have HR : Hid (Ro g sp d w) := h
  clear h
  go_enter Try.func34, Try.ntmps34
  go_wp2_with fail
  go_loopg [10] n (fun gk v10 wx => ∃ (i : Nat) (dk : List Int), i + gk = n ∧ v10 = .int .i64 i ∧ Hid (SwR d dk a b i ∧ Stir a (b + n) d dk ∧ Ro g sp dk wx ∧ Kept (fun k => k = g) w wx))
  case atStart => exact ⟨0, d, by omega, rfl, SwR.start d a b, Stir.refl _ _ _, HR.out, Kept.refl _ _⟩
  case round =>
    obtain ⟨i, dk, hig, rfl, HI⟩ := hrel
    cases gk with
    | zero =>
      obtain rfl : i = n := by omega
      go_wp2_with fail
      go_end0
      exact ⟨rfl, dk, HI.out⟩
    | succ gk =>
      have hlt : (i : Int) < (n : Int) := by omega
      have hlen : dk.length = d.length := HI.out.1.len
      have cx := HI.out.2.2.1.cell (i := a + i) (by omega)
      have cy := HI.out.2.2.1.cell (i := b + i) (by omega)
      have fx := HI.out.2.2.1.free (a + i)
      have fy := HI.out.2.2.1.free (b + i)
      have hx0 : (0 : Int) ≤ (a : Int) + (i : Int) := by omega
      have hx1 : (a : Int) + (i : Int) < (d.length : Int) := by omega
      have hx2 : ((a : Int) + (i : Int)).toNat = a + i := by omega
      have hy0 : (0 : Int) ≤ (b : Int) + (i : Int) := by omega
      have hy1 : (b : Int) + (i : Int) < (d.length : Int) := by omega
      have hy2 : ((b : Int) + (i : Int)).toNat = b + i := by omega
      have HL : Hid _ := hlen
      clear hlen
      generalize hX : ln dk (a + i) = X at cx
      generalize hY : ln dk (b + i) = Y at cy
      have EX : Hid _ := hX
      have EY : Hid _ := hY
      clear hX hY
      go_wp2_with fail
      go_region
      go_wp2_with fail
      go_roundg gk
      case measure => omega
      case rel =>
        obtain ⟨a1, a2, a3, a4⟩ := HI.out
        refine ⟨i + 1, swp dk (a + i) (b + i), by omega, by go_num, a1.step (by omega) (by omega), a2.trans (Stir.swp (by omega) (by omega) (by omega) (by omega) (by rw [HL.out]; omega)), ?_, ?_⟩
        · have := a3.swp (i := a + i) (j := b + i) (by rw [HL.out]; omega) (by rw [HL.out]; omega)
          rw [EX.out, EY.out] at this
          exact this
        · exact ((a4.setCell (fun _ => rfl) _).setCell (fun _ => rfl) _).drew

/-- What is left to be turned: whatever it is turned to, the whole is turned so. -/
def Left (d dk : List Int) (a m b i j : Nat) : Prop := ∀ f, Rot dk f (m - i) m (m + j) → Rot d f a m b

set_option maxRecDepth 100000 in
theorem rotate_c (g : Nat) (sp : Array Value) (cap a m b : Nat) (d : List Int) (fv : Value) (w : World) (h : Ro g sp d w) (ham : a < m) (hmb : m < b) (hb : b ≤ d.length) (hl : d.length < 4611686018427387904) :
    Calls Try.prog 33 #[.slice (some ⟨g, 0, none⟩) d.length cap, .int .i64 a, .int .i64 m, .int .i64 b, fv] w fun e w' =>
      e = .returned (.tuple #[]) ∧ ∃ d', Rot d d' a m b ∧ Stir a b d d' ∧ Ro g sp d' w' ∧ Kept (fun k => k = g) w w' := by
  have HR : Hid (Ro g sp d w) := h
  clear h
  go_enter Try.func33, Try.ntmps33
  go_wp2_with fail
  go_loopg [10, 11] (b - a) (fun gk v10 v11 wx => ∃ (i j : Nat) (dk : List Int), i + j ≤ gk ∧ 0 < i ∧ 0 < j ∧ i ≤ m - a ∧ j ≤ b - m ∧ v10 = .int .i64 i ∧ v11 = .int .i64 j ∧ Hid (Left d dk a m b i j ∧ dk.length = d.length ∧ Stir a b d dk ∧ Ro g sp dk wx ∧ Kept (fun k => k = g) w wx))
  case atStart =>
    refine ⟨m - a, b - m, d, by omega, by omega, by omega, Nat.le_refl _, Nat.le_refl _, by go_num, by go_num, ?_, rfl, Stir.refl _ _ _, HR.out, Kept.refl _ _⟩
    intro f hf
    rw [show m - (m - a) = a by omega, show m + (b - m) = b by omega] at hf
    exact hf
  case round =>
    obtain ⟨i, j, dk, hij, hi0, hj0, him, hjb, rfl, rfl, HI⟩ := hrel
    have HL : Hid (dk.length = d.length) := HI.out.2.1
    have hmi : ((m : Int) - (i : Int)) = ((m - i : Nat) : Int) := by omega
    by_cases hne : i = j
    · subst hne
      have hc := swapRange_c g sp cap (m - i) m i dk fv wr HI.out.2.2.2.1 (by omega) (by rw [HL.out]; omega) (by rw [HL.out]; exact hl)
      rw [HL.out, ← hmi] at hc
      clear hmi
      go_wp2_with (go_at_call 34; refine hc.mono ?_; rintro e w1 ⟨rfl, K⟩; have HK : Hid _ := K; clear K)
      go_end0
      obtain ⟨d', s1, s2, s3, s4⟩ := HK.out
      obtain ⟨l1, l2, l3, l4, l5⟩ := HI.out
      exact ⟨rfl, d', l1 d' (Rot.last (by omega) s1), l3.trans (s2.wide (by omega) (by omega)), s3, l5.trans s4 (fun _ _ h => h)⟩
    · by_cases hgt : j < i
      · have hc := swapRange_c g sp cap (m - i) m j dk fv wr HI.out.2.2.2.1 (by omega) (by rw [HL.out]; omega) (by rw [HL.out]; exact hl)
        rw [HL.out, ← hmi] at hc
        clear hmi
        have hne' : ¬ (i : Int) = (j : Int) := by omega
        have hgt' : (j : Int) < (i : Int) := by omega
        go_wp2_with (go_at_call 34; refine hc.mono ?_; rintro e w1 ⟨rfl, K⟩; have HK : Hid _ := K; clear K)
        go_roundg (i - j + j)
        case measure => omega
        case rel =>
          obtain ⟨d', s1, s2, s3, s4⟩ := HK.out
          obtain ⟨l1, l2, l3, l4, l5⟩ := HI.out
          refine ⟨i - j, j, d', Nat.le_refl _, by omega, hj0, by omega, hjb, by go_num, rfl, ?_, s1.len.trans l2, l3.trans (s2.wide (by omega) (by omega)), s3, l5.trans s4 (fun _ _ h => h)⟩
          exact fun f hf => l1 f (Rot.more (by omega) hgt s1 hf)
      · have hmj : ((m : Int) + (j : Int) - (i : Int)) = ((m + j - i : Nat) : Int) := by omega
        have hc := swapRange_c g sp cap (m - i) (m + j - i) i dk fv wr HI.out.2.2.2.1 (by omega) (by rw [HL.out]; omega) (by rw [HL.out]; exact hl)
        rw [HL.out, ← hmi, ← hmj] at hc
        clear hmi hmj
        have hne' : ¬ (i : Int) = (j : Int) := by omega
        have hgt' : ¬ (j : Int) < (i : Int) := by omega
        go_wp2_with (go_at_call 34; refine hc.mono ?_; rintro e w1 ⟨rfl, K⟩; have HK : Hid _ := K; clear K)
        go_roundg (i + (j - i))
        case measure => omega
        case rel =>
          obtain ⟨d', s1, s2, s3, s4⟩ := HK.out
          obtain ⟨l1, l2, l3, l4, l5⟩ := HI.out
          refine ⟨i, j - i, d', Nat.le_refl _, hi0, by omega, him, by omega, rfl, by go_num, ?_, s1.len.trans l2, l3.trans (s2.wide (by omega) (by omega)), s3, l5.trans s4 (fun _ _ h => h)⟩
          exact fun f hf => l1 f (Rot.less (by omega) (by omega) s1 hf)
#print axioms rotate_c
end Go.Proofs.Ytdeigchkpakdaaa
