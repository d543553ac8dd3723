/- The library's sort by insertion over given functions. -/
import Derived.Test.YtlfffpgokemjbaaSSwp
import Derived.Shelf.Abstract
namespace Go.Proofs.Ytlfffpgokemjbaa.O
set_option maxRecDepth 100000
open Go Go.RowKit
open Go.Proofs.Ytlfffpgokemjbaa.U (hide)
set_option linter.unusedVariables false
variable {g : Nat} {lb : Array Value} {sf : Nat} {sb : Array Value} {blk n : Nat} {k : Int → Int} {R : List Int → World → Prop}
theorem LS.yes (L : LS g lb sf sb blk n k R) {d : List Int} {w : World} {i j : Nat} (h : R d w) (hi : i < n) (hj : j < n) (hk : k (ln d i) < k (ln d j)) : Calls Try.prog g (#[.int .i64 i, .int .i64 j] ++ lb) w fun e w' => e = .returned (.bool true) ∧ ∃ q, w' = w.drewN q := by
  have := L.less i j h hi hj
  rw [decide_eq_true hk] at this
  exact this
theorem LS.no (L : LS g lb sf sb blk n k R) {d : List Int} {w : World} {i j : Nat} (h : R d w) (hi : i < n) (hj : j < n) (hk : ¬ k (ln d i) < k (ln d j)) : Calls Try.prog g (#[.int .i64 i, .int .i64 j] ++ lb) w fun e w' => e = .returned (.bool false) ∧ ∃ q, w' = w.drewN q := by
  have := L.less i j h hi hj
  rw [decide_eq_false hk] at this
  exact this
set_option maxRecDepth 100000 in
set_option maxHeartbeats 4000000 in
theorem insertion_c (L : LS g lb sf sb blk n k R) (a b : Nat) (d : List Int) (w : World) (h : R d w) (hab : a ≤ b) (hb : b ≤ n) (hn : n ≤ 1000000000) :
    Calls Try.prog 69 #[.agg #[.func (.func g) #[] lb, .func (.func sf) #[] sb], .int .i64 a, .int .i64 b] w fun e w' =>
      e = .returned (.tuple #[]) ∧ ∃ d', Srt k d' a b ∧ Stirk k a b d d' ∧ R d' w' ∧ Kept (fun i => i = blk) w w' := by
  have HL := hide L
  have eg := L.eg
  have hbn : w.heap.size ≠ blk := by have := L.lt h; omega
  have HB := hide hbn
  have HN := hide (L.len h)
  have G0 := hide (Gone.start L h 65)
  clear h L hbn
  go_enter Try.func69, Try.ntmps69
  go_wp2_with fail
  go_loopg [6] (b - a) (fun gk v8 wx => ∃ (i : Nat) (dk : List Int), v8 = .int .i64 i ∧ a < i ∧ b + 1 - i ≤ gk + 1 ∧ Hid (Srt k dk a i ∧ (i ≤ b ∨ b ≤ a + 1 ∧ i = a + 1) ∧ Stirk k a b d dk ∧ Gone g lb sf sb blk R w.heap.size w dk wx))
  case atStart => exact ⟨a + 1, d, by go_num, by omega, by omega, Srt.one _ _ _ (by omega), by omega, Stirk.refl _ _ _ _, G0.out⟩
  case round =>
    obtain ⟨i, dk, rfl, hai, hg1, HI⟩ := hrel
    by_cases hib : i < b
    · have hib' : (i : Int) < (b : Int) := by omega
      go_wp2_with fail
      go_loopg [7] i (fun g2 v9 wx => ∃ (j : Nat) (dj : List Int), v9 = .int .i64 j ∧ a ≤ j ∧ j ≤ i ∧ j ≤ g2 ∧ Hid (Ins k dj a i j ∧ Stirk k a b d dj ∧ Gone g lb sf sb blk R w.heap.size w dj wx))
      case atStart => exact ⟨i, dk, rfl, by omega, Nat.le_refl _, Nat.le_refl _, Ins.start HI.out.1, HI.out.2.2⟩
      case round =>
        obtain ⟨j, dj, rfl, haj, hji, hg2, HJ⟩ := hrel
        have HLn : Hid (dj.length = n) := HJ.out.2.1.len.trans HN.out
        obtain ⟨hc0, hc1⟩ := HJ.out.2.2.2.2
        by_cases hja : a < j
        · obtain ⟨jp, rfl⟩ : ∃ jp, j = jp + 1 := ⟨j - 1, by omega⟩
          have hja' : (a : Int) < (jp : Int) + 1 := by omega
          have hwp : (jp : Int) + 1 - 1 = (jp : Int) := by omega
          by_cases hlv : k (ln dj (jp + 1)) < k (ln dj jp)
          · have hc := hide (HL.out.yes HJ.out.2.2.1 (i := jp + 1) (j := jp) (by omega) (by omega) hlv)
            have HCI := hide (show Calls Try.prog g (#[.int .i64 ((jp : Int) + 1), .int .i64 (jp : Int)] ++ lb) wr _ from hc.out)
            clear hc
            have HLV := hide hlv
            have HSW : Hid (∀ q, ∃ w', (callFunc sf (#[.int .i64 ((jp : Int) + 1), .int .i64 (jp : Int)] ++ sb)).run Try.prog (wr.drewN q) = .ok (.value (.tuple #[])) w' ∧ R (swp dj (jp + 1) jp) w' ∧ Kept (fun i => i = blk) (wr.drewN q) w') := fun q => HL.out.swap (jp + 1) jp (HL.out.drew q HJ.out.2.2.1) (by omega) (by omega) (by omega)
            clear hlv
            go_wp2_with (go_at_fn g; refine HCI.out.mono ?_; rintro e w' ⟨rfl, q, rfl⟩; obtain ⟨w2, hs, hR, hk⟩ := HSW.out q; have R2 := hide hR; have K2 := hide hk; clear hR hk)
            go_roundg jp
            case measure => omega
            case rel =>
              have hs := HJ.out.1.step (by omega) hji (by rw [HLn.out]; omega) HLV.out
              simp only [Nat.add_sub_cancel] at hs
              exact ⟨jp, swp dj (jp + 1) jp, by go_num, by omega, by omega, Nat.le_refl _, hs, HJ.out.2.1.trans ⟨Stir.swp (by omega) (by omega) (by omega) (by omega) (by rw [HLn.out]; omega), fun h => h.swp (by rw [HLn.out]; omega) HLV.out⟩, (HJ.out.2.2.drewN HL.out _).more HB.out R2.out K2.out⟩
          · have hc := hide (HL.out.no HJ.out.2.2.1 (i := jp + 1) (j := jp) (by omega) (by omega) hlv)
            have HCI := hide (show Calls Try.prog g (#[.int .i64 ((jp : Int) + 1), .int .i64 (jp : Int)] ++ lb) wr _ from hc.out)
            clear hc
            have HLV := hide (Int.not_lt.1 hlv)
            clear hlv
            go_wp2_with (go_at_fn g; refine HCI.out.mono ?_; rintro e w' ⟨rfl, q, rfl⟩)
            go_roundg (b - (i + 1))
            case measure => omega
            case rel =>
              obtain ⟨r1, r2, r3⟩ := HJ.out
              exact ⟨i + 1, dj, by go_num, by omega, by omega, r1.done hji (.inr (by simp only [Nat.add_sub_cancel]; exact HLV.out)), by omega, r2, r3.drewN HL.out _⟩
        · obtain rfl : j = a := by omega
          go_wp2_with fail
          go_roundg (b - (i + 1))
          case measure => omega
          case rel =>
            obtain ⟨r1, r2, r3⟩ := HJ.out
            exact ⟨i + 1, dj, by go_num, by omega, by omega, r1.done hji (.inl (Nat.le_refl _)), by omega, r2, r3⟩
    · have hib' : ¬ (i : Int) < (b : Int) := by omega
      go_wp2_with fail
      go_end0
      obtain ⟨h1, h2, h3, h4⟩ := HI.out
      exact ⟨rfl, dk, h1.part (Nat.le_refl _) (by omega), h3, h4.1, h4.2.1⟩
end Go.Proofs.Ytlfffpgokemjbaa.O
