/- What a stable sort over two given functions asks of them; two ranges swapped, a row turned. -/
import Derived.Test.YtlfffpgokemjbaaOSort
import Derived.Test.YtlfffpgokemjbaaUWq
import Derived.Shelf.Abstract
namespace Go.Proofs.Ytlfffpgokemjbaa.O
set_option maxRecDepth 100000
open Go Go.RowKit
open Go.Proofs.Ytlfffpgokemjbaa.U (hide)
set_option linter.unusedVariables false
/-- 'less' (function g, bound to lb) and 'swap' (function sf, bound to sb) over a row of n in block blk: R d w: in w the row is d; k is the key. -/
structure LS (g : Nat) (lb : Array Value) (sf : Nat) (sb : Array Value) (blk n : Nat) (k : Int → Int) (R : List Int → World → Prop) : Prop where
  eg : ∀ args w, (callFunc g args).run Try.prog w = .ok (.enter g args) w
  drew : ∀ {d w} q, R d w → R d (w.drewN q)
  alloc : ∀ {d w} o, R d w → R d (w.alloc o)
  len : ∀ {d w}, R d w → d.length = n
  lt : ∀ {d w}, R d w → blk < w.heap.size
  less : ∀ {d w} (i j : Nat), R d w → i < n → j < n → Calls Try.prog g (#[.int .i64 i, .int .i64 j] ++ lb) w fun e w' => e = .returned (.bool (decide (k (ln d i) < k (ln d j)))) ∧ ∃ q, w' = w.drewN q
  swap : ∀ {d w} (i j : Nat), R d w → i < n → j < n → i ≠ j → ∃ w', (callFunc sf (#[.int .i64 i, .int .i64 j] ++ sb)).run Try.prog w = .ok (.value (.tuple #[])) w' ∧ R (swp d i j) w' ∧ Kept (fun i => i = blk) w w'
/-- The two given functions, as they lie in a block of their own. -/
def Box (b g : Nat) (lb : Array Value) (sf : Nat) (sb : Array Value) (w : World) : Prop := w.cell? ⟨b, 0, none⟩ = some (.func (.func g) #[] lb) ∧ w.cell? ⟨b, 1, none⟩ = some (.func (.func sf) #[] sb)
theorem Box.kept {b g : Nat} {lb : Array Value} {sf : Nat} {sb : Array Value} {w w' : World} {blk : Nat} (h : Box b g lb sf sb w) (k : Kept (fun i => i = blk) w w') (hn : b ≠ blk) : Box b g lb sf sb w' :=
  ⟨(k.cell (lt_of_cell h.1) hn).trans h.1, (k.cell (lt_of_cell h.2) hn).trans h.2⟩
theorem Box.new (g : Nat) (lb : Array Value) (sf : Nat) (sb : Array Value) (w : World) (t : TypeId) : Box w.heap.size g lb sf sb (w.alloc (.cells #[.func (.func g) #[] lb, .func (.func sf) #[] sb] t)) :=
  ⟨by rw [cells_of (heap_new w _)]; rfl, by rw [cells_of (heap_new w _)]; rfl⟩
theorem Box.drewN {b g : Nat} {lb : Array Value} {sf : Nat} {sb : Array Value} {w : World} (h : Box b g lb sf sb w) (q : Nat) : Box b g lb sf sb (w.drewN q) := h
variable {g : Nat} {lb : Array Value} {sf : Nat} {sb : Array Value} {blk n : Nat} {k : Int → Int} {R : List Int → World → Prop}
/-- From the world w a call has made e of d, and is on its way in its own block b. -/
def Gone (g : Nat) (lb : Array Value) (sf : Nat) (sb : Array Value) (blk : Nat) (R : List Int → World → Prop) (b : Nat) (w : World) (e : List Int) (w' : World) : Prop := R e w' ∧ Kept (fun i => i = blk) w w' ∧ Box b g lb sf sb w'
theorem Gone.start (L : LS g lb sf sb blk n k R) {d : List Int} {w : World} (h : R d w) (t : TypeId) : Gone g lb sf sb blk R w.heap.size w d (w.alloc (.cells #[.func (.func g) #[] lb, .func (.func sf) #[] sb] t)) :=
  ⟨L.alloc _ h, (Kept.refl _ w).alloc _ _, Box.new _ _ _ _ _ _⟩
theorem Gone.more {b : Nat} {w w1 w2 : World} {e f : List Int} (h : Gone g lb sf sb blk R b w e w1) (hb : b ≠ blk) (hR : R f w2) (hk : Kept (fun i => i = blk) w1 w2) : Gone g lb sf sb blk R b w f w2 :=
  ⟨hR, h.2.1.trans hk (fun _ _ h => h), h.2.2.kept hk hb⟩
theorem Gone.drewN (L : LS g lb sf sb blk n k R) {b : Nat} {w w1 : World} {e : List Int} (h : Gone g lb sf sb blk R b w e w1) (q : Nat) : Gone g lb sf sb blk R b w e (w1.drewN q) :=
  ⟨L.drew q h.1, h.2.1.drewN q, h.2.2⟩
end Go.Proofs.Ytlfffpgokemjbaa.O
namespace Go.Proofs.Ytlfffpgokemjbaa.O
open Go Go.RowKit
open Go.Proofs.Ytlfffpgokemjbaa.U (hide)
set_option linter.unusedVariables false
variable {g : Nat} {lb : Array Value} {sf : Nat} {sb : Array Value} {blk n : Nat} {k : Int → Int} {R : List Int → World → Prop}
set_option maxRecDepth 100000 in
theorem swapRange_c (L : LS g lb sf sb blk n k R) (a b c : Nat) (d : List Int) (w : World) (h : R d w) (hab : a + c ≤ b) (hb : b + c ≤ n) (hn : n ≤ 1000000000) :
    Calls Try.prog 79 #[.agg #[.func (.func g) #[] lb, .func (.func sf) #[] sb], .int .i64 a, .int .i64 b, .int .i64 c] w fun e w' =>
      e = .returned (.tuple #[]) ∧ ∃ d', SwR d d' a b c ∧ Stir a (b + c) d d' ∧ R d' w' ∧ Kept (fun i => i = blk) w w' := by
  have HL := hide L
  have HR := hide h
  have hbn : w.heap.size ≠ blk := by have := L.lt h; omega
  have HB := hide hbn
  have HN := hide (L.len h)
  have G0 := hide (Gone.start L h 65)
  clear h L hbn
  go_enter Try.func79, Try.ntmps79
  go_wp2_with fail
  go_loopg [8] c (fun gk v8 wx => ∃ (i : Nat) (dk : List Int), i + gk = c ∧ v8 = .int .i64 i ∧ Hid (SwR d dk a b i ∧ Stir a (b + c) d dk ∧ Gone g lb sf sb blk R w.heap.size w dk wx))
  case atStart => exact ⟨0, d, by omega, rfl, SwR.start d a b, Stir.refl _ _ _, G0.out⟩
  case round =>
    obtain ⟨i, dk, hig, rfl, HI⟩ := hrel
    cases gk with
    | zero =>
      obtain rfl : i = c := by omega
      go_wp2_with fail
      go_end0
      exact ⟨rfl, dk, HI.out.1, HI.out.2.1, HI.out.2.2.1, HI.out.2.2.2.1⟩
    | succ gk =>
      have hlt : (i : Int) < (c : Int) := by omega
      obtain ⟨w', hs, hR, hk⟩ := HL.out.swap (a + i) (b + i) HI.out.2.2.1 (by omega) (by omega) (by omega)
      rw [Int.natCast_add, Int.natCast_add] at hs
      have hc1 := HI.out.2.2.2.2.2
      have HHR := hide hR
      have HHK := hide hk
      clear hR hk
      go_wp2_with fail
      go_roundg gk
      case measure => omega
      case rel =>
        obtain ⟨a1, a2, a3⟩ := HI.out
        have hl := a1.len
        exact ⟨i + 1, swp dk (a + i) (b + i), by omega, by go_num, a1.step (by omega) (by rw [HN.out]; omega), a2.trans (Stir.swp (by omega) (by omega) (by omega) (by omega) (by rw [hl, HN.out]; omega)), a3.more HB.out HHR.out HHK.out⟩
/-- What is left to be turned: whatever it is turned to, the whole is turned so. -/
def Left (d dk : List Int) (a m b i j : Nat) : Prop := ∀ f, Rot dk f (m - i) m (m + j) → Rot d f a m b
set_option maxRecDepth 100000 in
theorem rotate_c (L : LS g lb sf sb blk n k R) (a m b : Nat) (d : List Int) (w : World) (h : R d w) (ham : a < m) (hmb : m < b) (hb : b ≤ n) (hn : n ≤ 1000000000) :
    Calls Try.prog 75 #[.agg #[.func (.func g) #[] lb, .func (.func sf) #[] sb], .int .i64 a, .int .i64 m, .int .i64 b] w fun e w' =>
      e = .returned (.tuple #[]) ∧ ∃ d', Rot d d' a m b ∧ Stir a b d d' ∧ R d' w' ∧ Kept (fun i => i = blk) w w' := by
  have HL := hide L
  have hbn : w.heap.size ≠ blk := by have := L.lt h; omega
  have HB := hide hbn
  have HN := hide (L.len h)
  have G0 := hide (Gone.start L h 65)
  clear h L hbn
  go_enter Try.func75, Try.ntmps75
  go_wp2_with fail
  go_loopg [8, 9] (b - a) (fun gk v8 v9 wx => ∃ (i j : Nat) (dk : List Int), i + j ≤ gk ∧ 0 < i ∧ 0 < j ∧ i ≤ m - a ∧ j ≤ b - m ∧ v8 = .int .i64 i ∧ v9 = .int .i64 j ∧ Hid (Left d dk a m b i j ∧ dk.length = d.length ∧ Stir a b d dk ∧ Gone g lb sf sb blk R w.heap.size w dk wx))
  case atStart =>
    refine ⟨m - a, b - m, d, by omega, by omega, by omega, Nat.le_refl _, Nat.le_refl _, by go_num, by go_num, ?_, rfl, Stir.refl _ _ _, G0.out⟩
    intro f hf
    rw [show m - (m - a) = a by omega, show m + (b - m) = b by omega] at hf
    exact hf
  case round =>
    obtain ⟨i, j, dk, hij, hi0, hj0, him, hjb, rfl, rfl, HI⟩ := hrel
    have hmi : ((m : Int) - (i : Int)) = ((m - i : Nat) : Int) := by omega
    obtain ⟨hc0, hc1⟩ := HI.out.2.2.2.2.2
    by_cases hne : i = j
    · subst hne
      have hc := swapRange_c HL.out (m - i) m i dk wr HI.out.2.2.2.1 (by omega) (by omega) hn
      rw [← hmi] at hc
      have HC := hide hc
      clear hmi hc
      go_wp2_with (go_at_call 79; refine HC.out.mono ?_; rintro e w1 ⟨rfl, K⟩; have HK : Hid _ := K; clear K)
      go_end0
      obtain ⟨d', s1, s2, s3, s4⟩ := HK.out
      obtain ⟨l1, l2, l3, l4⟩ := HI.out
      exact ⟨rfl, d', l1 d' (Rot.last (by omega) s1), l3.trans (s2.wide (by omega) (by omega)), s3, l4.2.1.trans s4 (fun _ _ h => h)⟩
    · by_cases hgt : j < i
      · have hc := swapRange_c HL.out (m - i) m j dk wr HI.out.2.2.2.1 (by omega) (by omega) hn
        rw [← hmi] at hc
        have HC := hide hc
        clear hmi hc
        have hne' : ¬ (i : Int) = (j : Int) := by omega
        have hgt' : (j : Int) < (i : Int) := by omega
        go_wp2_with (go_at_call 79; refine HC.out.mono ?_; rintro e w1 ⟨rfl, K⟩; have HK : Hid _ := K; clear K)
        go_roundg (i - j + j)
        case measure => omega
        case rel =>
          obtain ⟨d', s1, s2, s3, s4⟩ := HK.out
          obtain ⟨l1, l2, l3, l4⟩ := HI.out
          refine ⟨i - j, j, d', Nat.le_refl _, by omega, hj0, by omega, hjb, by go_num, rfl, ?_, s1.len.trans l2, l3.trans (s2.wide (by omega) (by omega)), l4.more HB.out s3 s4⟩
          exact fun f hf => l1 f (Rot.more (by omega) hgt s1 hf)
      · have hmj : ((m : Int) + (j : Int) - (i : Int)) = ((m + j - i : Nat) : Int) := by omega
        have hc := swapRange_c HL.out (m - i) (m + j - i) i dk wr HI.out.2.2.2.1 (by omega) (by omega) hn
        rw [← hmi, ← hmj] at hc
        have HC := hide hc
        clear hmi hmj hc
        have hne' : ¬ (i : Int) = (j : Int) := by omega
        have hgt' : ¬ (j : Int) < (i : Int) := by omega
        go_wp2_with (go_at_call 79; refine HC.out.mono ?_; rintro e w1 ⟨rfl, K⟩; have HK : Hid _ := K; clear K)
        go_roundg (i + (j - i))
        case measure => omega
        case rel =>
          obtain ⟨d', s1, s2, s3, s4⟩ := HK.out
          obtain ⟨l1, l2, l3, l4⟩ := HI.out
          refine ⟨i, j - i, d', Nat.le_refl _, hi0, by omega, him, by omega, rfl, by go_num, ?_, s1.len.trans l2, l3.trans (s2.wide (by omega) (by omega)), l4.more HB.out s3 s4⟩
          exact fun f hf => l1 f (Rot.less (by omega) (by omega) s1 hf)
end Go.Proofs.Ytlfffpgokemjbaa.O
namespace Go.Proofs.Ytlfffpgokemjbaa.O
open Go Go.RowKit
open Go.Proofs.Ytlfffpgokemjbaa.U (hide)
set_option linter.unusedVariables false
variable {g : Nat} {lb : Array Value} {sf : Nat} {sb : Array Value} {blk n : Nat} {k : Int → Int} {R : List Int → World → Prop}
theorem LS.yes (L : LS g lb sf sb blk n k R) {d : List Int} {w : World} {i j : Nat} (h : R d w) (hi : i < n) (hj : j < n) (hk : k (ln d i) < k (ln d j)) : Calls Try.prog g (#[.int .i64 i, .int .i64 j] ++ lb) w fun e w' => e = .returned (.bool true) ∧ ∃ q, w' = w.drewN q := by
  have := L.less i j h hi hj
  rw [decide_eq_true hk] at this
  exact this
theorem LS.no (L : LS g lb sf sb blk n k R) {d : List Int} {w : World} {i j : Nat} (h : R d w) (hi : i < n) (hj : j < n) (hk : ¬ k (ln d i) < k (ln d j)) : Calls Try.prog g (#[.int .i64 i, .int .i64 j] ++ lb) w fun e w' => e = .returned (.bool false) ∧ ∃ q, w' = w.drewN q := by
  have := L.less i j h hi hj
  rw [decide_eq_false hk] at this
  exact this
set_option maxRecDepth 100000 in
set_option maxHeartbeats 4000000 in
theorem insertion_c (L : LS g lb sf sb blk n k R) (a b : Nat) (d : List Int) (w : World) (h : R d w) (hab : a ≤ b) (hb : b ≤ n) (hn : n ≤ 1000000000) :
    Calls Try.prog 69 #[.agg #[.func (.func g) #[] lb, .func (.func sf) #[] sb], .int .i64 a, .int .i64 b] w fun e w' =>
      e = .returned (.tuple #[]) ∧ ∃ d', Srt k d' a b ∧ Stirk k a b d d' ∧ R d' w' ∧ Kept (fun i => i = blk) w w' := by
  have HL := hide L
  have eg := L.eg
  have hbn : w.heap.size ≠ blk := by have := L.lt h; omega
  have HB := hide hbn
  have HN := hide (L.len h)
  have G0 := hide (Gone.start L h 65)
  clear h L hbn
  go_enter Try.func69, Try.ntmps69
  go_wp2_with fail
  go_loopg [6] (b - a) (fun gk v8 wx => ∃ (i : Nat) (dk : List Int), v8 = .int .i64 i ∧ a < i ∧ b + 1 - i ≤ gk + 1 ∧ Hid (Srt k dk a i ∧ (i ≤ b ∨ b ≤ a + 1 ∧ i = a + 1) ∧ Stirk k a b d dk ∧ Gone g lb sf sb blk R w.heap.size w dk wx))
  case atStart => exact ⟨a + 1, d, by go_num, by omega, by omega, Srt.one _ _ _ (by omega), by omega, Stirk.refl _ _ _ _, G0.out⟩
  case round =>
    obtain ⟨i, dk, rfl, hai, hg1, HI⟩ := hrel
    by_cases hib : i < b
    · have hib' : (i : Int) < (b : Int) := by omega
      go_wp2_with fail
      go_loopg [7] i (fun g2 v9 wx => ∃ (j : Nat) (dj : List Int), v9 = .int .i64 j ∧ a ≤ j ∧ j ≤ i ∧ j ≤ g2 ∧ Hid (Ins k dj a i j ∧ Stirk k a b d dj ∧ Gone g lb sf sb blk R w.heap.size w dj wx))
      case atStart => exact ⟨i, dk, rfl, by omega, Nat.le_refl _, Nat.le_refl _, Ins.start HI.out.1, HI.out.2.2⟩
      case round =>
        obtain ⟨j, dj, rfl, haj, hji, hg2, HJ⟩ := hrel
        have HLn : Hid (dj.length = n) := HJ.out.2.1.len.trans HN.out
        obtain ⟨hc0, hc1⟩ := HJ.out.2.2.2.2
        by_cases hja : a < j
        · obtain ⟨jp, rfl⟩ : ∃ jp, j = jp + 1 := ⟨j - 1, by omega⟩
          have hja' : (a : Int) < (jp : Int) + 1 := by omega
          have hwp : (jp : Int) + 1 - 1 = (jp : Int) := by omega
          by_cases hlv : k (ln dj (jp + 1)) < k (ln dj jp)
          · have hc := hide (HL.out.yes HJ.out.2.2.1 (i := jp + 1) (j := jp) (by omega) (by omega) hlv)
            have HCI := hide (show Calls Try.prog g (#[.int .i64 ((jp : Int) + 1), .int .i64 (jp : Int)] ++ lb) wr _ from hc.out)
            clear hc
            have HLV := hide hlv
            have HSW : Hid (∀ q, ∃ w', (callFunc sf (#[.int .i64 ((jp : Int) + 1), .int .i64 (jp : Int)] ++ sb)).run Try.prog (wr.drewN q) = .ok (.value (.tuple #[])) w' ∧ R (swp dj (jp + 1) jp) w' ∧ Kept (fun i => i = blk) (wr.drewN q) w') := fun q => HL.out.swap (jp + 1) jp (HL.out.drew q HJ.out.2.2.1) (by omega) (by omega) (by omega)
            clear hlv
            go_wp2_with (go_at_fn g; refine HCI.out.mono ?_; rintro e w' ⟨rfl, q, rfl⟩; obtain ⟨w2, hs, hR, hk⟩ := HSW.out q; have R2 := hide hR; have K2 := hide hk; clear hR hk)
            go_roundg jp
            case measure => omega
            case rel =>
              have hs := HJ.out.1.step (by omega) hji (by rw [HLn.out]; omega) HLV.out
              simp only [Nat.add_sub_cancel] at hs
              exact ⟨jp, swp dj (jp + 1) jp, by go_num, by omega, by omega, Nat.le_refl _, hs, HJ.out.2.1.trans ⟨Stir.swp (by omega) (by omega) (by omega) (by omega) (by rw [HLn.out]; omega), fun h => h.swp (by rw [HLn.out]; omega) HLV.out⟩, (HJ.out.2.2.drewN HL.out _).more HB.out R2.out K2.out⟩
          · have hc := hide (HL.out.no HJ.out.2.2.1 (i := jp + 1) (j := jp) (by omega) (by omega) hlv)
            have HCI := hide (show Calls Try.prog g (#[.int .i64 ((jp : Int) + 1), .int .i64 (jp : Int)] ++ lb) wr _ from hc.out)
            clear hc
            have HLV := hide (Int.not_lt.1 hlv)
            clear hlv
            go_wp2_with (go_at_fn g; refine HCI.out.mono ?_; rintro e w' ⟨rfl, q, rfl⟩)
            go_roundg (b - (i + 1))
            case measure => omega
            case rel =>
              obtain ⟨r1, r2, r3⟩ := HJ.out
              exact ⟨i + 1, dj, by go_num, by omega, by omega, r1.done hji (.inr (by simp only [Nat.add_sub_cancel]; exact HLV.out)), by omega, r2, r3.drewN HL.out _⟩
        · obtain rfl : j = a := by omega
          go_wp2_with fail
          go_roundg (b - (i + 1))
          case measure => omega
          case rel =>
            obtain ⟨r1, r2, r3⟩ := HJ.out
            exact ⟨i + 1, dj, by go_num, by omega, by omega, r1.done hji (.inl (Nat.le_refl _)), by omega, r2, r3⟩
    · have hib' : ¬ (i : Int) < (b : Int) := by omega
      go_wp2_with fail
      go_end0
      obtain ⟨h1, h2, h3, h4⟩ := HI.out
      exact ⟨rfl, dk, h1.part (Nat.le_refl _) (by omega), h3, h4.1, h4.2.1⟩
end Go.Proofs.Ytlfffpgokemjbaa.O
