/- The library's merge of two runs over given functions, where the first has one place. -/
import Derived.Test.YtlfffpgokemjbaaSIns
namespace Go.Proofs.Ytlfffpgokemjbaa.O
set_option maxRecDepth 100000
open Go Go.RowKit
open Go.Proofs.Ytlfffpgokemjbaa.U (hide)
set_option linter.unusedVariables false
variable {g : Nat} {lb : Array Value} {sf : Nat} {sb : Array Value} {blk n : Nat} {k : Int → Int} {R : List Int → World → Prop}
/-- What a merge makes. -/
def MgOk (blk : Nat) (R : List Int → World → Prop) (k : Int → Int) (a b : Nat) (d : List Int) (w w' : World) : Prop :=
  ∃ d', Srt k d' a b ∧ Stirk k a b d d' ∧ R d' w' ∧ Kept (fun i => i = blk) w w'
set_option maxHeartbeats 4000000 in
set_option maxRecDepth 100000 in
theorem sym_left (L : LS g lb sf sb blk n k R) (a b : Nat) (d : List Int) (w : World) (h : R d w) (hab : a + 1 < b) (hb : b ≤ n) (hn : n ≤ 1000000000) (hs : Srt k d (a + 1) b) (m : Nat) (hm : m = a + 1) :
    Calls Try.prog 70 #[.agg #[.func (.func g) #[] lb, .func (.func sf) #[] sb], .int .i64 a, .int .i64 m, .int .i64 b] w fun e w' =>
      e = .returned (.tuple #[]) ∧ MgOk blk R k a b d w w' := by
  have HL := hide L
  have eg := L.eg
  have hbn : w.heap.size ≠ blk := by have := L.lt h; omega
  have HB := hide hbn
  have HN := hide (L.len h)
  have G0 := hide (Gone.start L h 65)
  have HS : Hid (Srt k d (a + 1) b) := hide hs
  clear h L hbn hs
  have hm1 : (m : Int) - (a : Int) = 1 := by omega
  have hma : m ≤ a + 1 := by omega
  have ham : a + 1 ≤ m := by omega
  clear hm
  go_enter Try.func70, Try.ntmps70
  go_wp2_with fail
  clear hm1
  go_loopg [8, 9] (b - m) (fun gk v10 v11 wx => ∃ (i j : Nat), v10 = .int .i64 i ∧ v11 = .int .i64 j ∧ j - i ≤ gk ∧ m ≤ i ∧ i ≤ j ∧ j ≤ b ∧ Hid ((∀ x, m ≤ x → x < i → k (ln d x) < k (ln d a)) ∧ (∀ x, j ≤ x → x < b → k (ln d a) ≤ k (ln d x)) ∧ Gone g lb sf sb blk R w.heap.size w d wx))
  case atStart => exact ⟨m, b, rfl, rfl, Nat.le_refl _, Nat.le_refl _, by omega, Nat.le_refl _, fun x h1 h2 => by omega, fun x h1 h2 => by omega, G0.out⟩
  case round =>
    obtain ⟨i, j, rfl, rfl, hij, hmi, hle, hjb, HI⟩ := hrel
    obtain ⟨hc0, hc1⟩ := HI.out.2.2.2.2
    by_cases hlt : i < j
    · have hlt' : (i : Int) < (j : Int) := by omega
      obtain ⟨H, hH⟩ : ∃ H : Nat, ((i : Int) + (j : Int)) / 2 = (H : Int) := ⟨(i + j) / 2, by omega⟩
      have hiH : i ≤ H := by omega
      have hHj : H < j := by omega
      have hiI : (i : Int) ≤ 1000000000 := by omega
      have hjI : (j : Int) ≤ 1000000000 := by omega
      by_cases hlv : k (ln d H) < k (ln d a)
      · have hc := hide (HL.out.yes HI.out.2.2.1 (i := H) (j := a) (by omega) (by omega) hlv)
        have HLV := hide hlv
        clear hlv
        go_wp2_with (go_at_fn g; refine hc.out.mono ?_; rintro e w' ⟨rfl, q, rfl⟩)
        go_roundg (j - (H + 1))
        case measure => omega
        case rel =>
          obtain ⟨h1, h2, h3⟩ := HI.out
          refine ⟨H + 1, j, by go_num, rfl, Nat.le_refl _, by omega, by omega, hjb, fun x x1 x2 => ?_, h2, h3.drewN HL.out _⟩
          exact Int.lt_of_le_of_lt (HS.out x H (by omega) (by omega) (by omega)) HLV.out
      · have hc := hide (HL.out.no HI.out.2.2.1 (i := H) (j := a) (by omega) (by omega) hlv)
        have HLV := hide (Int.not_lt.1 hlv)
        clear hlv
        go_wp2_with (go_at_fn g; refine hc.out.mono ?_; rintro e w' ⟨rfl, q, rfl⟩)
        go_roundg (H - i)
        case measure => omega
        case rel =>
          obtain ⟨h1, h2, h3⟩ := HI.out
          refine ⟨i, H, rfl, by go_num, Nat.le_refl _, hmi, hiH, by omega, h1, fun x x1 x2 => ?_, h3.drewN HL.out _⟩
          exact Int.le_trans HLV.out (HS.out H x (by omega) x1 x2)
    · obtain rfl : i = j := by omega
      clear hij
      have hi1 : ¬ (i : Int) < (i : Int) := by omega
      go_wp2_with fail
      clear hc0 hc1
      go_loopg [11] (i - 1 - a) (fun gk v13 wx => ∃ (x : Nat) (dk : List Int), v13 = .int .i64 x ∧ x + gk = i - 1 ∧ a ≤ x ∧ Hid (ShL d dk a x ∧ Stir a b d dk ∧ Gone g lb sf sb blk R w.heap.size w dk wx))
      case atStart => exact ⟨a, d, rfl, by omega, Nat.le_refl _, ShL.start d a, Stir.refl _ _ _, HI.out.2.2⟩
      case round =>
        obtain ⟨x, dk, rfl, hxg, hax, HJ⟩ := hrel
        obtain ⟨hc0, hc1⟩ := HJ.out.2.2.2.2
        cases gk with
        | zero =>
          have hge : ¬ (x : Int) < (i : Int) - 1 := by omega
          have hxi : x = i - 1 := by omega
          have HX := hide hxi
          clear hxi
          go_wp2_with fail
          refine bodyPost_ret (results_none rfl _ _ _) rfl ?_
          obtain ⟨s1, s2, s3, s4, s5⟩ := HJ.out
          have e := HX.out
          rw [e] at s1
          exact ⟨rfl, dk, ShL.sorted s1 (by omega) hjb HS.out (fun y y1 y2 => HI.out.1 y (by omega) y2) HI.out.2.1, ⟨s2, fun h => h.shL s1 (by omega) (by have := HN.out; omega) (fun y y1 y2 => HI.out.1 y (by omega) (by omega))⟩, s3, s4⟩
        | succ gk =>
          have hlt2 : (x : Int) < (i : Int) - 1 := by omega
          have HLn : Hid (dk.length = n) := hide (HJ.out.1.len.trans HN.out)
          obtain ⟨w', hs, hR, hk⟩ := HL.out.swap x (x + 1) HJ.out.2.2.1 (by omega) (by omega) (by omega)
          have hs' : (callFunc sf (#[.int .i64 (x : Int), .int .i64 ((x : Int) + 1)] ++ sb)).run Try.prog wr = .ok (.value (.tuple #[])) w' := hs
          clear hs
          have HHR := hide hR
          have HHK := hide hk
          have hxI : (x : Int) ≤ 1000000000 := by omega
          clear hR hk
          go_wp2_with fail
          go_roundg gk
          case measure => omega
          case rel =>
            obtain ⟨s1, s2, s3⟩ := HJ.out
            exact ⟨x + 1, swp dk x (x + 1), by go_num, by omega, by omega, s1.step hax (by have := HN.out; omega), s2.trans (Stir.swp (by omega) (by omega) (by omega) (by omega) (by rw [HLn.out]; omega)), s3.more HB.out HHR.out HHK.out⟩
end Go.Proofs.Ytlfffpgokemjbaa.O
namespace Go.Proofs.Ytlfffpgokemjbaa.O
open Go Go.RowKit
open Go.Proofs.Ytlfffpgokemjbaa.U (hide)
set_option linter.unusedVariables false
variable {g : Nat} {lb : Array Value} {sf : Nat} {sb : Array Value} {blk n : Nat} {k : Int → Int} {R : List Int → World → Prop}
set_option maxHeartbeats 4000000 in
set_option maxRecDepth 100000 in
theorem sym_right (L : LS g lb sf sb blk n k R) (a m b : Nat) (d : List Int) (w : World) (h : R d w) (ham : a + 1 < m) (hm : b = m + 1) (hb : b ≤ n) (hn : n ≤ 1000000000) (hs : Srt k d a m) :
    Calls Try.prog 70 #[.agg #[.func (.func g) #[] lb, .func (.func sf) #[] sb], .int .i64 a, .int .i64 m, .int .i64 b] w fun e w' =>
      e = .returned (.tuple #[]) ∧ MgOk blk R k a b d w w' := by
  have HL := hide L
  have eg := L.eg
  have hbn : w.heap.size ≠ blk := by have := L.lt h; omega
  have HB := hide hbn
  have HN := hide (L.len h)
  have G0 := hide (Gone.start L h 65)
  have HS : Hid (Srt k d a m) := hide hs
  have HM : Hid (b = m + 1) := hm
  clear h L hbn hs
  have hm0 : ¬ (m : Int) - (a : Int) = 1 := by omega
  have hm1 : (b : Int) - (m : Int) = 1 := by omega
  have hb0 : ((m : Int) - (a : Int) == 1) = false := by simp; omega
  have hb1 : ((b : Int) - (m : Int) == 1) = true := by simp; omega
  have hbm : b ≤ m + 1 := by omega
  have hmb : m + 1 ≤ b := by omega
  clear hm
  go_enter Try.func70, Try.ntmps70
  go_wp2_with fail
  clear hm1 hm0 hb0 hb1
  go_loopg [12, 13] (m - a) (fun gk v14 v15 wx => ∃ (i j : Nat), v14 = .int .i64 i ∧ v15 = .int .i64 j ∧ j - i ≤ gk ∧ a ≤ i ∧ i ≤ j ∧ j ≤ m ∧ Hid ((∀ x, a ≤ x → x < i → k (ln d x) ≤ k (ln d m)) ∧ (∀ x, j ≤ x → x < m → k (ln d m) < k (ln d x)) ∧ Gone g lb sf sb blk R w.heap.size w d wx))
  case atStart => exact ⟨a, m, rfl, rfl, Nat.le_refl _, Nat.le_refl _, by omega, Nat.le_refl _, fun x h1 h2 => by omega, fun x h1 h2 => by omega, G0.out⟩
  case round =>
    obtain ⟨i, j, rfl, rfl, hij, hmi, hle, hjb, HI⟩ := hrel
    obtain ⟨hc0, hc1⟩ := HI.out.2.2.2.2
    by_cases hlt : i < j
    · have hlt' : (i : Int) < (j : Int) := by omega
      obtain ⟨H, hH⟩ : ∃ H : Nat, ((i : Int) + (j : Int)) / 2 = (H : Int) := ⟨(i + j) / 2, by omega⟩
      have hiH : i ≤ H := by omega
      have hHj : H < j := by omega
      have hiI : (i : Int) ≤ 1000000000 := by omega
      have hjI : (j : Int) ≤ 1000000000 := by omega
      by_cases hlv : k (ln d m) < k (ln d H)
      · have hc := hide (HL.out.yes HI.out.2.2.1 (i := m) (j := H) (by omega) (by omega) hlv)
        have HLV := hide hlv
        clear hlv
        go_wp2_with (go_at_fn g; refine hc.out.mono ?_; rintro e w' ⟨rfl, q, rfl⟩)
        go_roundg (H - i)
        case measure => omega
        case rel =>
          obtain ⟨h1, h2, h3⟩ := HI.out
          refine ⟨i, H, rfl, by go_num, Nat.le_refl _, hmi, hiH, by omega, h1, fun x x1 x2 => ?_, h3.drewN HL.out _⟩
          exact Int.lt_of_lt_of_le HLV.out (HS.out H x (by omega) x1 x2)
      · have hc := hide (HL.out.no HI.out.2.2.1 (i := m) (j := H) (by omega) (by omega) hlv)
        have HLV := hide (Int.not_lt.1 hlv)
        clear hlv
        go_wp2_with (go_at_fn g; refine hc.out.mono ?_; rintro e w' ⟨rfl, q, rfl⟩)
        go_roundg (j - (H + 1))
        case measure => omega
        case rel =>
          obtain ⟨h1, h2, h3⟩ := HI.out
          refine ⟨H + 1, j, by go_num, rfl, Nat.le_refl _, by omega, by omega, hjb, fun x x1 x2 => ?_, h2, h3.drewN HL.out _⟩
          exact Int.le_trans (HS.out x H (by omega) (by omega) (by omega)) HLV.out
    · obtain rfl : i = j := by omega
      clear hij
      have hi1 : ¬ (i : Int) < (i : Int) := by omega
      go_wp2_with fail
      clear hc0 hc1
      go_loopg [15] (m - i) (fun gk v17 wx => ∃ (x : Nat) (dk : List Int), v17 = .int .i64 x ∧ x = i + gk ∧ x ≤ m ∧ Hid (ShR d dk x m ∧ Stir a b d dk ∧ Gone g lb sf sb blk R w.heap.size w dk wx))
      case atStart => exact ⟨m, d, rfl, by omega, Nat.le_refl _, ShR.start d m, Stir.refl _ _ _, HI.out.2.2⟩
      case round =>
        obtain ⟨x, dk, rfl, hxg, hax, HJ⟩ := hrel
        obtain ⟨hc0, hc1⟩ := HJ.out.2.2.2.2
        cases gk with
        | zero =>
          have hge : ¬ (i : Int) < (x : Int) := by omega
          have HX : Hid (x = i) := hide (show x = i by omega)
          clear hxg
          go_wp2_with fail
          refine bodyPost_ret (results_none rfl _ _ _) rfl ?_
          obtain ⟨s1, s2, s3, s4, s5⟩ := HJ.out
          have e := HX.out
          rw [e] at s1
          have hsr := ShR.sorted s1 hmi hjb HS.out HI.out.1 HI.out.2.1
          rw [← HM.out] at hsr
          exact ⟨rfl, dk, hsr, ⟨s2, fun h => h.shR s1 hjb (by have := HN.out; omega) HI.out.2.1⟩, s3, s4⟩
        | succ gk =>
          obtain ⟨y, rfl⟩ : ∃ y, x = y + 1 := ⟨x - 1, by omega⟩
          have hlt2 : (i : Int) < (y : Int) + 1 := by omega
          have HLn : Hid (dk.length = n) := hide (HJ.out.1.len.trans HN.out)
          obtain ⟨w', hs, hR, hk⟩ := HL.out.swap (y + 1) y HJ.out.2.2.1 (by omega) (by omega) (by omega)
          have hs' : (callFunc sf (#[.int .i64 ((y : Int) + 1), .int .i64 (y : Int)] ++ sb)).run Try.prog wr = .ok (.value (.tuple #[])) w' := hs
          clear hs
          have HHR := hide hR
          have HHK := hide hk
          have hxI : (y : Int) ≤ 1000000000 := by omega
          have HXG := hide hxg
          clear hR hk hxg
          go_wp2_with fail
          go_roundg gk
          case measure => omega
          case rel =>
            have hxg := HXG.out
            obtain ⟨s1, s2, s3⟩ := HJ.out
            have st := s1.step (by omega) hax (by have := HN.out; omega)
            simp only [Nat.add_sub_cancel] at st
            exact ⟨y, swp dk (y + 1) y, by go_num, by omega, by omega, st, s2.trans (Stir.swp (by omega) (by omega) (by omega) (by omega) (by rw [HLn.out]; omega)), s3.more HB.out HHR.out HHK.out⟩
end Go.Proofs.Ytlfffpgokemjbaa.O
