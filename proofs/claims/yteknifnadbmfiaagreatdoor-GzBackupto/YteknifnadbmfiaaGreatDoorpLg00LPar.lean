/- Several texts, laid together: LSort, LMem, LOwn, LPar. -/
import Derived.Test.YteknifnadbmfiaaGreatDoorRows
import Derived.Test.YteknifnadbmfiaaGreatDoorpAg00Row
import Derived.Deep.WholeRow
import Derived.Laws.ResultCell
import Derived.Deep.LoopGhost
import Derived.BigRegion
import Derived.Laws.AppendOwnNone
import Derived.Deep.MidRow
/- Rows of numbers that are sorted by a key: swaps, ranges swapped, rows turned, runs merged: what the library's stable sort does, as plain lists. No Go text in sight. -/
namespace Go.Proofs.YteknifnadbmfiaaGreatDoor.L
set_option maxRecDepth 100000

def ln (ls : List Int) (s : Nat) : Int := ls.getD s 0
theorem ln_out {d : List Int} {i : Nat} (h : d.length <= i) : ln d i = 0 := by simp [ln, List.getD, List.getElem?_eq_none h]
theorem ln_in {d : List Int} {i : Nat} (h : i < d.length) : ln d i = d[i] := by simp [ln, List.getD, h]
theorem ln_set (d : List Int) (i : Nat) (v : Int) (h : i < d.length) (x : Nat) : ln (d.set i v) x = if x = i then v else ln d x := by
 unfold ln List.getD
 rw [List.getElem?_set]
 by_cases e : i = x
 ·subst e; simp [h]
 ·have : ¬ x = i := fun e' => e e'.symm
  simp [e, this]
def swp (d : List Int) (i j : Nat) : List Int := (d.set i (ln d j)).set j (ln d i)
theorem swp_length (d : List Int) (i j : Nat) : (swp d i j).length = d.length := by simp [swp]
theorem swp_at {d : List Int} {i j : Nat} (hi : i < d.length) (hj : j < d.length) (x : Nat) : ln (swp d i j) x = if x = j then ln d i else if x = i then ln d j else ln d x := by
 unfold swp
 rw [ln_set _ _ _ (by simpa using hj), ln_set _ _ _ hi]
theorem swp_perm {d : List Int} {i j : Nat} (hi : i < d.length) (hj : j < d.length) : (swp d i j).Perm d := by
 unfold swp
 rw [ln_in hi, ln_in hj]
 exact List.set_set_perm hi hj

structure Stir (a b : Nat) (d d' : List Int) : Prop where
 len : d'.length = d.length
 perm : d'.Perm d
 out : ∀ i, i < a \/ b <= i -> ln d' i = ln d i
 ins : ∀ i, a <= i -> i < b -> ∃ j, a <= j /\ j < b /\ ln d' i = ln d j
theorem Stir.refl (a b : Nat) (d : List Int) : Stir a b d d := ⟨rfl, List.Perm.refl _, fun _ _ => rfl, fun i h1 h2 => ⟨i, h1, h2, rfl⟩⟩
theorem Stir.trans {a b : Nat} {d e f : List Int} (h : Stir a b d e) (g : Stir a b e f) : Stir a b d f := by
 refine ⟨g.len.trans h.len, g.perm.trans h.perm, fun i hi => (g.out i hi).trans (h.out i hi), fun i h1 h2 => ?_⟩
 obtain ⟨j, j1, j2, j3⟩ := g.ins i h1 h2
 obtain ⟨x, x1, x2, x3⟩ := h.ins j j1 j2
 exact ⟨x, x1, x2, j3.trans x3⟩
theorem Stir.wide {a b a' b' : Nat} {d e : List Int} (h : Stir a b d e) (ha : a' <= a) (hb : b <= b') : Stir a' b' d e := by
 refine ⟨h.len, h.perm, fun i hi => h.out i (by omega), fun i h1 h2 => ?_⟩
 by_cases hi : a <= i /\ i < b
 ·obtain ⟨j, j1, j2, j3⟩ := h.ins i hi.1 hi.2
  exact ⟨j, by omega, by omega, j3⟩
 ·exact ⟨i, h1, h2, h.out i (by omega)⟩
theorem Stir.swp {a b : Nat} {d : List Int} {i j : Nat} (hi : a <= i) (hi' : i < b) (hj : a <= j) (hj' : j < b) (hb : b <= d.length) : Stir a b d (swp d i j) := by
 refine ⟨swp_length d i j, swp_perm (by omega) (by omega), fun x hx => ?_, fun x h1 h2 => ?_⟩
 ·rw [swp_at (by omega) (by omega), if_neg (by omega), if_neg (by omega)]
 ·rw [swp_at (by omega) (by omega)]
  by_cases e : x = j
  ·exact ⟨i, hi, hi', by rw [if_pos e]⟩
  ·by_cases e' : x = i
   ·exact ⟨j, hj, hj', by rw [if_neg e, if_pos e']⟩
   ·exact ⟨x, h1, h2, by rw [if_neg e, if_neg e']⟩

section
variable (k : Int -> Int)
def Srt (d : List Int) (a b : Nat) : Prop := ∀ i j, a <= i -> i <= j -> j < b -> k (ln d i) <= k (ln d j)
variable {k}
theorem Srt.same {d e : List Int} {a b : Nat} (h : Srt k d a b) (he : ∀ i, a <= i -> i < b -> ln e i = ln d i) : Srt k e a b := by
 intro i j h1 h2 h3
 rw [he i h1 (by omega), he j (by omega) h3]
 exact h i j h1 h2 h3
theorem Srt.part {d : List Int} {a b a' b' : Nat} (h : Srt k d a b) (ha : a <= a') (hb : b' <= b) : Srt k d a' b' := fun i j h1 h2 h3 => h i j (by omega) h2 (by omega)
theorem Srt.one (d : List Int) (a b : Nat) (h : b <= a + 1) : Srt k d a b := by
 intro i j h1 h2 h3
 have : i = j := by omega
 subst this; exact Int.le_refl _
theorem Srt.join {d : List Int} {a m b : Nat} (h : Srt k d a m) (g : Srt k d m b) (hx : ∀ i j, a <= i -> i < m -> m <= j -> j < b -> k (ln d i) <= k (ln d j)) : Srt k d a b := by
 intro i j h1 h2 h3
 by_cases c : j < m
 ·exact h i j h1 h2 c
 ·by_cases c' : i < m
  ·exact hx i j h1 c' (by omega) h3
  ·exact g i j (by omega) h2 h3

structure Ins (k : Int -> Int) (d : List Int) (a i j : Nat) : Prop where
 rest : ∀ x y, a <= x -> x <= y -> y <= i -> x ≠ j -> y ≠ j -> k (ln d x) <= k (ln d y)
 low : ∀ y, j < y -> y <= i -> k (ln d j) <= k (ln d y)
theorem Ins.start {d : List Int} {a i : Nat} (h : Srt k d a i) : Ins k d a i i := ⟨fun x y h1 h2 h3 _ h5 => h x y h1 h2 (by omega), fun y h1 h2 => by omega⟩
theorem Ins.step {d : List Int} {a i j : Nat} (h : Ins k d a i j) (ha : a < j) (hj : j <= i) (hi : i < d.length) (hk : k (ln d j) < k (ln d (j - 1))) : Ins k (Go.Proofs.YteknifnadbmfiaaGreatDoor.L.swp d j (j - 1)) a i (j - 1) := by
 have at' := fun x => swp_at (d := d) (i := j) (j := j - 1) (by omega) (by omega) x
 refine ⟨fun x y h1 h2 h3 h4 h5 => ?_, fun y h1 h2 => ?_⟩
 ·rw [at', at', if_neg h4, if_neg h5]
  by_cases ex : x = j
  ·rw [if_pos ex]
   by_cases ey : y = j
   ·rw [if_pos ey]; exact Int.le_refl _
   ·rw [if_neg ey]; exact h.rest (j - 1) y (by omega) (by omega) h3 (by omega) ey
  ·rw [if_neg ex]
   by_cases ey : y = j
   ·rw [if_pos ey]; exact h.rest x (j - 1) h1 (by omega) (by omega) ex (by omega)
   ·rw [if_neg ey]; exact h.rest x y h1 h2 h3 ex ey
 ·rw [at', at', if_pos rfl, if_neg (by omega)]
  by_cases ey : y = j
  ·rw [if_pos ey]; omega
  ·rw [if_neg ey]; exact h.low y (by omega) h2
theorem Ins.done {d : List Int} {a i j : Nat} (h : Ins k d a i j) (hj : j <= i) (hk : j <= a \/ k (ln d (j - 1)) <= k (ln d j)) : Srt k d a (i + 1) := by
 intro x y h1 h2 h3
 by_cases ex : x = j
 ·subst ex
  by_cases ey : y = x
  ·subst ey; exact Int.le_refl _
  ·exact h.low y (by omega) (by omega)
 ·by_cases ey : y = j
  ·subst ey
   rcases hk with hk | hk
   ·omega
   ·exact Int.le_trans (h.rest x (y - 1) h1 (by omega) (by omega) ex (by omega)) hk
  ·exact h.rest x y h1 h2 (by omega) ex ey

structure ShL (d e : List Int) (a q : Nat) : Prop where
 len : e.length = d.length
 low : ∀ x, a <= x -> x < q -> ln e x = ln d (x + 1)
 at_ : ln e q = ln d a
 out : ∀ x, x < a \/ q < x -> ln e x = ln d x
theorem ShL.start (d : List Int) (a : Nat) : ShL d d a a := ⟨rfl, fun x h1 h2 => by omega, rfl, fun _ _ => rfl⟩
theorem ShL.step {d e : List Int} {a q : Nat} (h : ShL d e a q) (ha : a <= q) (hq : q + 1 < d.length) : ShL d (Go.Proofs.YteknifnadbmfiaaGreatDoor.L.swp e q (q + 1)) a (q + 1) := by
 have at' := fun x => swp_at (d := e) (i := q) (j := q + 1) (by rw [h.len]; omega) (by rw [h.len]; omega) x
 refine ⟨(swp_length _ _ _).trans h.len, fun x h1 h2 => ?_, ?_, fun x hx => ?_⟩
 ·rw [at', if_neg (by omega)]
  by_cases e' : x = q
  ·rw [if_pos e', h.out (q + 1) (by omega), e']
  ·rw [if_neg e', h.low x h1 (by omega)]
 ·rw [at', if_pos rfl, h.at_]
 ·rw [at', if_neg (by omega), if_neg (by omega), h.out x (by omega)]
theorem ShL.sorted {d e : List Int} {a b i : Nat} (h : ShL d e a (i - 1)) (hi : a + 1 <= i) (hib : i <= b) (hs : Srt k d (a + 1) b) (h1 : ∀ x, a + 1 <= x -> x < i -> k (ln d x) < k (ln d a)) (h2 : ∀ x, i <= x -> x < b -> k (ln d a) <= k (ln d x)) : Srt k e a b := by
 intro x y g1 g2 g3
 by_cases c : x < i - 1
 ·rw [h.low x g1 c]
  by_cases c' : y < i - 1
  ·rw [h.low y (by omega) c']; exact hs _ _ (by omega) (by omega) (by omega)
  ·have u := h1 (x + 1) (by omega) (by omega)
   by_cases c2 : y = i - 1
   ·rw [c2, h.at_]; omega
   ·rw [h.out y (by omega)]
    have := h2 y (by omega) g3
    omega
 ·by_cases c1 : x = i - 1
  ·rw [c1, h.at_]
   by_cases c2 : y = i - 1
   ·rw [c2, h.at_]; exact Int.le_refl _
   ·rw [h.out y (by omega)]; exact h2 y (by omega) g3
  ·rw [h.out x (by omega), h.out y (by omega)]; exact hs x y (by omega) g2 g3

structure ShR (d e : List Int) (q m : Nat) : Prop where
 len : e.length = d.length
 low : ∀ x, q < x -> x <= m -> ln e x = ln d (x - 1)
 at_ : ln e q = ln d m
 out : ∀ x, x < q \/ m < x -> ln e x = ln d x
theorem ShR.start (d : List Int) (m : Nat) : ShR d d m m := ⟨rfl, fun x h1 h2 => by omega, rfl, fun _ _ => rfl⟩
theorem ShR.step {d e : List Int} {q m : Nat} (h : ShR d e q m) (hq : 0 < q) (hm : q <= m) (hl : m < d.length) : ShR d (Go.Proofs.YteknifnadbmfiaaGreatDoor.L.swp e q (q - 1)) (q - 1) m := by
 have at' := fun x => swp_at (d := e) (i := q) (j := q - 1) (by rw [h.len]; omega) (by rw [h.len]; omega) x
 refine ⟨(swp_length _ _ _).trans h.len, fun x h1 h2 => ?_, ?_, fun x hx => ?_⟩
 ·rw [at', if_neg (by omega)]
  by_cases e' : x = q
  ·rw [if_pos e', h.out (q - 1) (by omega), e']
  ·rw [if_neg e', h.low x (by omega) h2]
 ·rw [at', if_pos rfl, h.at_]
 ·rw [at', if_neg (by omega), if_neg (by omega), h.out x (by omega)]
theorem ShR.sorted {d e : List Int} {a m i : Nat} (h : ShR d e i m) (hi : a <= i) (him : i <= m) (hs : Srt k d a m) (h1 : ∀ x, a <= x -> x < i -> k (ln d x) <= k (ln d m)) (h2 : ∀ x, i <= x -> x < m -> k (ln d m) < k (ln d x)) : Srt k e a (m + 1) := by
 intro x y g1 g2 g3
 by_cases c : x < i
 ·rw [h.out x (by omega)]
  by_cases c' : y < i
  ·rw [h.out y (by omega)]; exact hs _ _ g1 g2 (by omega)
  ·by_cases c2 : y = i
   ·rw [c2, h.at_]; exact h1 x g1 c
   ·rw [h.low y (by omega) (by omega)]; exact hs _ _ g1 (by omega) (by omega)
 ·by_cases c1 : x = i
  ·rw [c1, h.at_]
   by_cases c2 : y = i
   ·rw [c2, h.at_]; exact Int.le_refl _
   ·rw [h.low y (by omega) (by omega)]
    have := h2 (y - 1) (by omega) (by omega)
    omega
  ·rw [h.low x (by omega) (by omega), h.low y (by omega) (by omega)]; exact hs _ _ (by omega) (by omega) (by omega)

structure SwR (d e : List Int) (a b n : Nat) : Prop where
 len : e.length = d.length
 fst : ∀ x, a <= x -> x < a + n -> ln e x = ln d (x - a + b)
 snd : ∀ x, b <= x -> x < b + n -> ln e x = ln d (x - b + a)
 out : ∀ x, (x < a \/ a + n <= x) -> (x < b \/ b + n <= x) -> ln e x = ln d x
theorem SwR.start (d : List Int) (a b : Nat) : SwR d d a b 0 := ⟨rfl, fun x h1 h2 => by omega, fun x h1 h2 => by omega, fun _ _ _ => rfl⟩
theorem SwR.step {d e : List Int} {a b n : Nat} (h : SwR d e a b n) (hab : a + n < b) (hb : b + n < d.length) : SwR d (Go.Proofs.YteknifnadbmfiaaGreatDoor.L.swp e (a + n) (b + n)) a b (n + 1) := by
 have at' := fun x => swp_at (d := e) (i := a + n) (j := b + n) (by rw [h.len]; omega) (by rw [h.len]; omega) x
 refine ⟨(swp_length _ _ _).trans h.len, fun x h1 h2 => ?_, fun x h1 h2 => ?_, fun x h1 h2 => ?_⟩
 ·rw [at', if_neg (by omega)]
  by_cases e' : x = a + n
  ·rw [if_pos e', h.out (b + n) (by omega) (by omega), e', show a + n - a + b = b + n by omega]
  ·rw [if_neg e', h.fst x h1 (by omega)]
 ·rw [at']
  by_cases e' : x = b + n
  ·rw [if_pos e', h.out (a + n) (by omega) (by omega), e', show b + n - b + a = a + n by omega]
  ·rw [if_neg e', if_neg (by omega), h.snd x h1 (by omega)]
 ·rw [at', if_neg (by omega), if_neg (by omega), h.out x (by omega) (by omega)]

structure Rot (d f : List Int) (s m e : Nat) : Prop where
 len : f.length = d.length
 fst : ∀ x, s <= x -> x < s + (e - m) -> ln f x = ln d (x + (m - s))
 snd : ∀ x, s + (e - m) <= x -> x < e -> ln f x = ln d (x - (e - m))
 out : ∀ x, x < s \/ e <= x -> ln f x = ln d x
theorem Rot.more {d e f : List Int} {m i j : Nat} (him : i <= m) (hij : j < i) (h : SwR d e (m - i) m j) (r : Rot e f (m - (i - j)) m (m + j)) : Rot d f (m - i) m (m + j) := by
 refine ⟨r.len.trans h.len, fun x h1 h2 => ?_, fun x h1 h2 => ?_, fun x hx => ?_⟩
 ·rw [r.out x (by omega), h.fst x h1 (by omega), show x - (m - i) + m = x + (m - (m - i)) by omega]
 ·by_cases c : x < m - (i - j) + j
  ·rw [r.fst x (by omega) (by omega), h.snd _ (by omega) (by omega), show x + (m - (m - (i - j))) - m + (m - i) = x - (m + j - m) by omega]
  ·rw [r.snd x (by omega) h2, h.out _ (by omega) (by omega)]
 ·rw [r.out x (by omega), h.out x (by omega) (by omega)]
theorem Rot.less {d e f : List Int} {m i j : Nat} (him : i <= m) (hij : i < j) (h : SwR d e (m - i) (m + j - i) i) (r : Rot e f (m - i) m (m + (j - i))) : Rot d f (m - i) m (m + j) := by
 refine ⟨r.len.trans h.len, fun x h1 h2 => ?_, fun x h1 h2 => ?_, fun x hx => ?_⟩
 ·by_cases c : x < m - i + (j - i)
  ·rw [r.fst x h1 (by omega), h.out _ (by omega) (by omega)]
  ·rw [r.snd x (by omega) (by omega), h.fst _ (by omega) (by omega), show x - (m + (j - i) - m) - (m - i) + (m + j - i) = x + (m - (m - i)) by omega]
 ·by_cases c : x < m + (j - i)
  ·exfalso; omega
  ·rw [r.out x (by omega), h.snd x (by omega) (by omega), show x - (m + j - i) + (m - i) = x - (m + j - m) by omega]
 ·rw [r.out x (by omega), h.out x (by omega) (by omega)]
theorem Rot.last {d e : List Int} {m i : Nat} (him : i <= m) (h : SwR d e (m - i) m i) : Rot d e (m - i) m (m + i) := by
 refine ⟨h.len, fun x h1 h2 => ?_, fun x h1 h2 => ?_, fun x hx => ?_⟩
 ·rw [h.fst x h1 (by omega), show x - (m - i) + m = x + (m - (m - i)) by omega]
 ·rw [h.snd x (by omega) (by omega), show x - m + (m - i) = x - (m + i - m) by omega]
 ·rw [h.out x (by omega) (by omega)]
theorem Rot.none (d : List Int) {s m e : Nat} (hs : s <= m) (he : m <= e) (h : s = m \/ m = e) : Rot d d s m e := by
 refine ⟨rfl, fun x h1 h2 => ?_, fun x h1 h2 => ?_, fun _ _ => rfl⟩
 ·rw [show x + (m - s) = x by omega]
 ·rw [show x - (e - m) = x by omega]

structure Cutp (k : Int -> Int) (d : List Int) (m mid lo hi s : Nat) : Prop where
 ge : lo <= s
 le : s <= hi
 yes : lo < s -> k (ln d (s - 1)) <= k (ln d (mid + m - s))
 no : s < hi -> k (ln d (mid + m - 1 - s)) < k (ln d s)
theorem merge_parts {d f : List Int} {a m b mid lo hi s : Nat} (ham : a <= m) (hmb : m <= b) (hmid : mid = (a + b) / 2) (hlh : (m > mid /\ lo = mid + m - b /\ hi = mid) \/ (m <= mid /\ lo = a /\ hi = m)) (c : Cutp k d m mid lo hi s)
  (h1 : Srt k d a m) (h2 : Srt k d m b) (r : Rot d f s m (mid + m - s)) :
  a <= s /\ s <= mid /\ s <= m /\ m <= mid + m - s /\ mid <= mid + m - s /\ mid + m - s <= b /\ Srt k f a s /\ Srt k f s mid /\ Srt k f mid (mid + m - s) /\ Srt k f (mid + m - s) b /\ (∀ i j, a <= i -> i < mid -> mid <= j -> j < b -> k (ln f i) <= k (ln f j)) := by
 have c1 := c.ge
 have c2 := c.le
 have e0 : a <= s /\ s <= mid /\ s <= m /\ m <= mid + m - s /\ mid <= mid + m - s /\ mid + m - s <= b := by omega
 obtain ⟨e1, e2, e3, e4, e5, e6⟩ := e0
 have emid : s + (mid + m - s - m) = mid := by omega
 refine ⟨e1, e2, e3, e4, e5, e6, ?_, ?_, ?_, ?_, ?_⟩
 ·exact (h1.part (Nat.le_refl _) e3).same fun i _ hi => r.out i (.inl hi)
 ·intro i j g1 g2 g3
  rw [r.fst i g1 (by omega), r.fst j (by omega) (by omega)]
  exact h2 _ _ (by omega) (by omega) (by omega)
 ·intro i j g1 g2 g3
  rw [r.snd i (by omega) (by omega), r.snd j (by omega) (by omega)]
  exact h1 _ _ (by omega) (by omega) (by omega)
 ·exact (h2.part e4 (Nat.le_refl _)).same fun i hi _ => r.out i (.inr hi)
 ·intro i j g1 g2 g3 g4
  by_cases ci : i < s
  ·rw [r.out i (.inl ci)]
   by_cases cj : j < mid + m - s
   ·rw [r.snd j (by omega) cj]; exact h1 _ _ g1 (by omega) (by omega)
   ·rw [r.out j (.inr (by omega))]
    have y := c.yes (by omega)
    have u1 := h1 i (s - 1) g1 (by omega) (by omega)
    have u2 := h2 (mid + m - s) j (by omega) (by omega) g4
    omega
  ·rw [r.fst i (by omega) (by omega)]
   by_cases cj : j < mid + m - s
   ·rw [r.snd j (by omega) cj]
    have y := c.no (by omega)
    have u1 := h2 (i + (m - s)) (mid + m - 1 - s) (by omega) (by omega) (by omega)
    have u2 := h1 s (j - (mid + m - s - m)) (by omega) (by omega) (by omega)
    omega
   ·rw [r.out j (.inr (by omega))]; exact h2 _ _ (by omega) (by omega) (by omega)
def Blk (k : Int -> Int) (d : List Int) (bs n : Nat) : Prop := ∀ q, Srt k d (q * bs) (min ((q + 1) * bs) n)
theorem Blk.all {d : List Int} {bs n : Nat} (h : Blk k d bs n) (hn : n <= bs) : Srt k d 0 n := by
 have := h 0
 rw [Nat.zero_mul, Nat.zero_add, Nat.one_mul, Nat.min_eq_right hn] at this
 exact this
theorem Srt.stirred {d e : List Int} {a b x y : Nat} (h : Srt k d x y) (s : Stir a b d e) (hd : y <= a \/ b <= x) : Srt k e x y := h.same fun i h1 h2 => s.out i (by omega)
theorem low_stir {d e : List Int} {a m b x y : Nat} (h : ∀ i j, a <= i -> i < m -> m <= j -> j < b -> k (ln d i) <= k (ln d j)) (s : Stir x y d e) (hxy : (a <= x /\ y <= m) \/ (m <= x /\ y <= b)) : ∀ i j, a <= i -> i < m -> m <= j -> j < b -> k (ln e i) <= k (ln e j) := by
 intro i j g1 g2 g3 g4
 have fi : ∃ i', a <= i' /\ i' < m /\ ln e i = ln d i' := by
  by_cases c : x <= i /\ i < y
  ·obtain ⟨i', j1, j2, j3⟩ := s.ins i c.1 c.2
   exact ⟨i', by omega, by omega, j3⟩
  ·exact ⟨i, g1, g2, s.out i (by omega)⟩
 have fj : ∃ j', m <= j' /\ j' < b /\ ln e j = ln d j' := by
  by_cases c : x <= j /\ j < y
  ·obtain ⟨i', j1, j2, j3⟩ := s.ins j c.1 c.2
   exact ⟨i', by omega, by omega, j3⟩
  ·exact ⟨j, g3, g4, s.out j (by omega)⟩
 obtain ⟨i', a1, a2, a3⟩ := fi
 obtain ⟨j', b1, b2, b3⟩ := fj
 rw [a3, b3]; exact h i' j' a1 a2 b1 b2
def St (k : Int -> Int) (d : List Int) : Prop := ∀ i j, i < j -> j < d.length -> k (ln d i) = k (ln d j) -> ln d i < ln d j
theorem St.of {d e : List Int} (h : St k d) (hl : e.length = d.length) (hm : ∀ i j, i < j -> j < d.length -> ∃ i' j', ln e i = ln d i' /\ ln e j = ln d j' /\ j' < d.length /\ (i' < j' \/ ¬ k (ln d i') = k (ln d j'))) : St k e := by
 intro i j h1 h2 h3
 obtain ⟨i', j', a, b, c, o⟩ := hm i j h1 (by omega)
 rw [a, b] at h3 ⊢
 rcases o with o | o
 ·exact h i' j' o c h3
 ·exact absurd h3 o
theorem St.swp {d : List Int} {j : Nat} (h : St k d) (hj : j + 1 < d.length) (hk : k (ln d (j + 1)) < k (ln d j)) : St k (Go.Proofs.YteknifnadbmfiaaGreatDoor.L.swp d (j + 1) j) := by
 have at' := fun x => swp_at (d := d) (i := j + 1) (j := j) (by omega) (by omega) x
 refine h.of (swp_length _ _ _) fun x y hxy hy => ?_
 by_cases c : x = j /\ y = j + 1
 ·exact ⟨j + 1, j, by rw [at', if_pos c.1], by rw [at', if_neg (by omega), if_pos c.2], by omega, .inr (by omega)⟩
 ·by_cases ex : x = j
  ·exact ⟨j + 1, y, by rw [at', if_pos ex], by rw [at', if_neg (by omega), if_neg (by omega)], hy, .inl (by omega)⟩
  ·by_cases ex' : x = j + 1
   ·exact ⟨j, y, by rw [at', if_neg ex, if_pos ex'], by rw [at', if_neg (by omega), if_neg (by omega)], hy, .inl (by omega)⟩
   ·by_cases ey : y = j
    ·exact ⟨x, j + 1, by rw [at', if_neg ex, if_neg ex'], by rw [at', if_pos ey], by omega, .inl (by omega)⟩
    ·by_cases ey' : y = j + 1
     ·exact ⟨x, j, by rw [at', if_neg ex, if_neg ex'], by rw [at', if_neg ey, if_pos ey'], by omega, .inl (by omega)⟩
     ·exact ⟨x, y, by rw [at', if_neg ex, if_neg ex'], by rw [at', if_neg ey, if_neg ey'], hy, .inl hxy⟩
theorem St.shL {d e : List Int} {a q : Nat} (h : St k d) (s : ShL d e a q) (haq : a <= q) (hq : q < d.length) (hk : ∀ x, a < x -> x <= q -> k (ln d x) < k (ln d a)) : St k e := by
 refine h.of s.len fun x y hxy hy => ?_
 by_cases cx : x < a \/ q < x
 ·by_cases cy : y < a \/ q < y
  ·exact ⟨x, y, s.out x cx, s.out y cy, hy, .inl hxy⟩
  ·by_cases ey : y = q
   ·exact ⟨x, a, s.out x cx, by rw [ey]; exact s.at_, by omega, .inl (by omega)⟩
   ·exact ⟨x, y + 1, s.out x cx, s.low y (by omega) (by omega), by omega, .inl (by omega)⟩
 ·by_cases ex : x = q
  ·exact ⟨a, y, by rw [ex]; exact s.at_, s.out y (by omega), hy, .inl (by omega)⟩
  ·by_cases cy : y < a \/ q < y
   ·exact ⟨x + 1, y, s.low x (by omega) (by omega), s.out y cy, hy, .inl (by omega)⟩
   ·by_cases ey : y = q
    ·exact ⟨x + 1, a, s.low x (by omega) (by omega), by rw [ey]; exact s.at_, by omega, .inr (by have := hk (x + 1) (by omega) (by omega); omega)⟩
    ·exact ⟨x + 1, y + 1, s.low x (by omega) (by omega), s.low y (by omega) (by omega), by omega, .inl (by omega)⟩
theorem St.shR {d e : List Int} {q m : Nat} (h : St k d) (s : ShR d e q m) (hqm : q <= m) (hm : m < d.length) (hk : ∀ x, q <= x -> x < m -> k (ln d m) < k (ln d x)) : St k e := by
 refine h.of s.len fun x y hxy hy => ?_
 by_cases cx : x < q \/ m < x
 ·by_cases cy : y < q \/ m < y
  ·exact ⟨x, y, s.out x cx, s.out y cy, hy, .inl hxy⟩
  ·by_cases ey : y = q
   ·exact ⟨x, m, s.out x cx, by rw [ey]; exact s.at_, by omega, .inl (by omega)⟩
   ·exact ⟨x, y - 1, s.out x cx, s.low y (by omega) (by omega), by omega, .inl (by omega)⟩
 ·by_cases ex : x = q
  ·by_cases cy : m < y
   ·exact ⟨m, y, by rw [ex]; exact s.at_, s.out y (.inr cy), hy, .inl (by omega)⟩
   ·exact ⟨m, y - 1, by rw [ex]; exact s.at_, s.low y (by omega) (by omega), by omega, .inr (by have := hk (y - 1) (by omega) (by omega); omega)⟩
  ·by_cases cy : m < y
   ·exact ⟨x - 1, y, s.low x (by omega) (by omega), s.out y (.inr cy), hy, .inl (by omega)⟩
   ·exact ⟨x - 1, y - 1, s.low x (by omega) (by omega), s.low y (by omega) (by omega), by omega, .inl (by omega)⟩
theorem St.rot {d f : List Int} {s m e : Nat} (h : St k d) (r : Rot d f s m e) (h1 : s <= m) (h2 : m <= e) (he : e <= d.length) (hk : ∀ x y, s <= x -> x < m -> m <= y -> y < e -> k (ln d y) < k (ln d x)) : St k f := by
 refine h.of r.len fun x y hxy hy => ?_
 by_cases cx : x < s \/ e <= x
 ·by_cases cy : y < s \/ e <= y
  ·exact ⟨x, y, r.out x cx, r.out y cy, hy, .inl hxy⟩
  ·by_cases c : y < s + (e - m)
   ·exact ⟨x, y + (m - s), r.out x cx, r.fst y (by omega) c, by omega, .inl (by omega)⟩
   ·exact ⟨x, y - (e - m), r.out x cx, r.snd y (by omega) (by omega), by omega, .inl (by omega)⟩
 ·by_cases c : x < s + (e - m)
  ·by_cases cy : e <= y
   ·exact ⟨x + (m - s), y, r.fst x (by omega) c, r.out y (.inr cy), hy, .inl (by omega)⟩
   ·by_cases c' : y < s + (e - m)
    ·exact ⟨x + (m - s), y + (m - s), r.fst x (by omega) c, r.fst y (by omega) c', by omega, .inl (by omega)⟩
    ·exact ⟨x + (m - s), y - (e - m), r.fst x (by omega) c, r.snd y (by omega) (by omega), by omega, .inr (by have := hk (y - (e - m)) (x + (m - s)) (by omega) (by omega) (by omega) (by omega); omega)⟩
  ·by_cases cy : e <= y
   ·exact ⟨x - (e - m), y, r.snd x (by omega) (by omega), r.out y (.inr cy), hy, .inl (by omega)⟩
   ·exact ⟨x - (e - m), y - (e - m), r.snd x (by omega) (by omega), r.snd y (by omega) (by omega), by omega, .inl (by omega)⟩
theorem rot_strict {d : List Int} {a m b mid lo hi s : Nat} (hmid : mid = (a + b) / 2) (hlh : (m > mid /\ lo = mid + m - b /\ hi = mid) \/ (m <= mid /\ lo = a /\ hi = m)) (c : Cutp k d m mid lo hi s)
  (h1 : Srt k d a m) (h2 : Srt k d m b) : ∀ x y, s <= x -> x < m -> m <= y -> y < mid + m - s -> k (ln d y) < k (ln d x) := by
 intro x y g1 g2 g3 g4
 have c1 := c.ge
 have c2 := c.le
 have y0 := c.no (by omega)
 have u1 := h2 y (mid + m - 1 - s) (by omega) (by omega) (by omega)
 have u2 := h1 s x (by omega) (by omega) (by omega)
 omega
structure Stirk (k : Int -> Int) (a b : Nat) (d d' : List Int) : Prop where
 st : Stir a b d d'
 up : St k d -> St k d'
theorem Stirk.refl (k : Int -> Int) (a b : Nat) (d : List Int) : Stirk k a b d d := ⟨Stir.refl _ _ _, id⟩
theorem Stirk.trans {a b : Nat} {d e f : List Int} (h : Stirk k a b d e) (g : Stirk k a b e f) : Stirk k a b d f := ⟨h.st.trans g.st, fun x => g.up (h.up x)⟩
theorem Stirk.wide {a b a' b' : Nat} {d e : List Int} (h : Stirk k a b d e) (ha : a' <= a) (hb : b <= b') : Stirk k a' b' d e := ⟨h.st.wide ha hb, h.up⟩
theorem Stirk.len {a b : Nat} {d e : List Int} (h : Stirk k a b d e) : e.length = d.length := h.st.len
theorem Stirk.perm {a b : Nat} {d e : List Int} (h : Stirk k a b d e) : e.Perm d := h.st.perm
theorem St.pair {d : List Int} (h : St k d) (hs : Srt k d 0 d.length) : d.Pairwise fun x y => k x < k y \/ (k x = k y /\ x < y) := by
 rw [List.pairwise_iff_getElem]
 intro i j hi hj hij
 have h1 := hs i j (Nat.zero_le _) (by omega) hj
 have h2 := h i j hij hj
 rw [ln_in hi, ln_in hj] at h1 h2
 by_cases e : k d[i] = k d[j]
 ·exact .inr ⟨e, h2 e⟩
 ·exact .inl (by omega)
theorem pair_one (k : Int -> Int) : ∀ (d e : List Int), d.Perm e -> (d.Pairwise fun x y => k x < k y \/ (k x = k y /\ x < y)) -> (e.Pairwise fun x y => k x < k y \/ (k x = k y /\ x < y)) -> d = e := by
 intro d
 induction d with
 | nil => intro e h _ _; exact (h.symm.eq_nil).symm
 | cons x d ih =>
  intro e h h1 h2
  cases e with
  | nil => exact absurd h.length_eq (by simp)
  | cons y e =>
   rw [List.pairwise_cons] at h1 h2
   have hxy : x = y := by
    rcases List.mem_cons.1 (h.mem_iff.1 (List.mem_cons_self)) with e1 | e1
    ·exact e1
    ·rcases List.mem_cons.1 (h.mem_iff.2 (List.mem_cons_self)) with e2 | e2
     ·exact e2.symm
     ·have a := h2.1 x e1
      have b := h1.1 y e2
      omega
   subst hxy
   rw [ih e h.cons_inv h1.2 h2.2]
theorem St.one {d e : List Int} (h : d.Perm e) (h1 : Srt k d 0 d.length) (h2 : St k d) (h3 : Srt k e 0 e.length) (h4 : St k e) : d = e := pair_one k d e h (h2.pair h1) (h4.pair h3)
end
end Go.Proofs.YteknifnadbmfiaaGreatDoor.L

/- Rows of numbers in memory: where a slice leads, what a swap makes of them. -/
namespace Go.Proofs.YteknifnadbmfiaaGreatDoor.L
set_option maxRecDepth 100000
open Go Go.RowKit

theorem hide {p : Prop} (h : p) : Hid p := h

def Ints (lo hi : Nat) (w : World) (a : Option Addr) (ls : List Int) : Prop :=
 ls.length = 0 \/ ∃ b off, lo <= b /\ b < hi /\ b < w.heap.size /\ a = some ⟨b, off, none⟩ /\ ∀ i, i < ls.length -> w.cell? ⟨b, off + i, none⟩ = some (.int .i64 (ln ls i))

theorem Ints.kept {lo hi : Nat} {M : Nat -> Prop} {w w' : World} {a : Option Addr} {ls : List Int} (h : Ints lo hi w a ls) (k : Kept M w w') (hn : ∀ b, lo <= b -> b < hi -> ¬ M b) : Ints lo hi w' a ls := by
 rcases h with h | ⟨b, off, h1, h2, h3, ha, hc⟩
 ·exact .inl h
 ·exact .inr ⟨b, off, h1, h2, Nat.lt_of_lt_of_le h3 k.size, ha, fun i hi => (k.cell h3 (hn b h1 h2)).trans (hc i hi)⟩
theorem Ints.below {lo hi B : Nat} {w w' : World} {a : Option Addr} {ls : List Int} (h : Ints lo hi w a ls) (k : Below B w w') (hB : hi <= B) : Ints lo hi w' a ls :=
 h.kept (Kept.of_below k) (fun b _ h2 h3 => by omega)
theorem Ints.wide {lo hi lo' hi' : Nat} {w : World} {a : Option Addr} {ls : List Int} (h : Ints lo hi w a ls) (h1 : lo' <= lo) (h2 : hi <= hi') : Ints lo' hi' w a ls := by
 rcases h with h | ⟨b, off, k1, k2, r⟩
 ·exact .inl h
 ·exact .inr ⟨b, off, by omega, by omega, r⟩

theorem Ints.stay {lo hi : Nat} {w w' : World} {a : Option Addr} {ls : List Int} (h : Ints lo hi w a ls) (k : Below w.heap.size w w') : Ints lo hi w' a ls := by
 rcases h with h | ⟨b, off, h1, h2, h3, ha, hc⟩
 ·exact .inl h
 ·exact .inr ⟨b, off, h1, h2, Nat.lt_of_lt_of_le h3 k.size, ha, fun i hi => (k.cell (p := ⟨b, off + i, none⟩) h3).trans (hc i hi)⟩
theorem Ints.src {lo hi : Nat} {w : World} {a : Option Addr} {ls : List Int} (h : Ints lo hi w a ls) (h0 : 0 < ls.length) : ∃ ad, a = some ad /\ ∀ j u, (ls.map (Value.int .i64))[j]? = some u -> w.cell? (ad.add j) = some u := by
 obtain ⟨b, off, _, _, _, rfl, hc⟩ := h.resolve_left (by omega)
 refine ⟨_, rfl, fun j u hj => ?_⟩
 have hjl : j < ls.length := by
  rcases Nat.lt_or_ge j ls.length with h' | h'
  ·exact h'
  ·simp [List.getElem?_eq_none (show (ls.map (Value.int .i64)).length <= j by simpa using h')] at hj
 have e : ((⟨b, off, none⟩ : Addr).add j) = ⟨b, off + j, none⟩ := by unfold Addr.add; split <;> simp_all
 rw [e, hc j hjl]
 simp [hjl] at hj
 rw [<- hj]
 simp [ln, List.getD, hjl]

theorem lt_of_block' {w : World} {b : Nat} {o : Obj} (h : w.heap[b]? = some o) : b < w.heap.size := by
 rcases Nat.lt_or_ge b w.heap.size with h' | h'
 ·exact h'
 ·rw [Array.getElem?_eq_none h'] at h; simp at h
theorem heap_old {w : World} {o : Obj} {b : Nat} {p : Obj} (h : w.heap[b]? = some p) : (w.alloc o).heap[b]? = some p := by
 rw [Below.heap_alloc _ _ _ (lt_of_block' h)]; exact h
theorem setRow_alloc_old (w : World) (o : Obj) (g : Nat) (c : Array Value) (h : g < w.heap.size) : (w.alloc o).setRow g c = (w.setRow g c).alloc o := by
 simp only [World.setRow, World.alloc]
 congr 1
 apply Array.ext_getElem?
 intro i
 rw [Array.getElem?_modify, Array.getElem?_push, Array.getElem?_push, Array.getElem?_modify, Array.size_modify]
 by_cases h1 : i = w.heap.size
 ·have : ¬ g = i := by omega
  simp [h1]
  intro; omega
 ·simp [h1]
theorem wpList_load_row {P : Program} {ops : Array Oper} {rest : List Oper} {op : Oper} {a : Act} {w : World} {Q : Exit -> Act -> World -> Prop} (hgd : op.guard = none) (ty : TypeId) (x : Operand) (ho : op.op = .load ty x)
  (g : Nat) (hx : a.eval x = .pointer (some ⟨g, 0, none⟩)) (cs : Array Value) (t : TypeId) (fr : Nat × Nat) (hg : w.heap[g]? = some (.cells cs t fr)) (d : TypeDesc)
  (hu : P.underlying ty = some d) (hd : (match d with | .struct _ | .array _ _ => true | _ => false) = true) (hi : (P.info? ty).map (·.size) = some cs.size)
  (h : wpList P ops Q rest (a.put op.dst (.agg cs)) w) : wpList P ops Q (op :: rest) a w :=
 wpList_plain hgd fun _ hK => by
  unfold Oper.wp execOp
  simp only [ho, hx, Instr.loadAt, Instr.sureAddr, Sem.run_bind, Sem.run_pure, Result.andThen_ok, run_loadVar_row w g t ty cs fr d hg hu hd hi]
  exact hK _ _ h
theorem wpList_store_row {P : Program} {ops : Array Oper} {rest : List Oper} {op : Oper} {a : Act} {w : World} {Q : Exit -> Act -> World -> Prop} (hgd : op.guard = none) (ty : TypeId) (x y : Operand) (ho : op.op = .store ty x y)
  (g : Nat) (cells : Array Value) (hx : a.eval x = .pointer (some ⟨g, 0, none⟩)) (hy : a.eval y = .agg cells) (old : Array Value) (t : TypeId) (hg : w.heap[g]? = some (.cells old t (0, 0)))
  (hi : (P.info? ty).map (·.size) = some cells.size) (hs : old.size = cells.size) (h1 : cells.all (·.oneCell') = true) (w2 : World) (hw : w.setRow g cells = w2)
  (h : wpList P ops Q rest (a.put op.dst undef) w2) : wpList P ops Q (op :: rest) a w :=
 wpList_plain hgd fun _ hK => by
  unfold Oper.wp execOp
  simp only [ho, hx, hy, Instr.storeAt, Instr.sureAddr, Sem.run_bind, Sem.run_pure, Result.andThen_ok, run_storeVar_row w g t ty old cells hg hi hs h1]
  rw [hw]
  exact hK _ _ h

theorem wpList_load_row_if {P : Program} {ops : Array Oper} {rest : List Oper} {op : Oper} {a : Act} {w : World} {Q : Exit -> Act -> World -> Prop} (ty : TypeId) (x : Operand) (ho : op.op = .load ty x) (hw : Region.wanted op (yielded ops a.tmps) = true)
  (g : Nat) (hx : a.eval x = .pointer (some ⟨g, 0, none⟩)) (cs : Array Value) (t : TypeId) (fr : Nat × Nat) (hg : w.heap[g]? = some (.cells cs t fr)) (d : TypeDesc)
  (hu : P.underlying ty = some d) (hd : (match d with | .struct _ | .array _ _ => true | _ => false) = true) (hi : (P.info? ty).map (·.size) = some cs.size)
  (h : wpList P ops Q rest (a.put op.dst (.agg cs)) w) : wpList P ops Q (op :: rest) a w :=
 wpList_step fun _ hK => by
  rw [if_pos hw]
  unfold Oper.wp execOp
  simp only [ho, hx, Instr.loadAt, Instr.sureAddr, Sem.run_bind, Sem.run_pure, Result.andThen_ok, run_loadVar_row w g t ty cs fr d hg hu hd hi]
  exact hK _ _ h


def rowA (d : List Int) (sp : Array Value) : Array Value := (d.map (Value.int .i64)).toArray ++ sp
def Ro (g : Nat) (sp : Array Value) (d : List Int) (w : World) : Prop := w.heap[g]? = some (.cells (rowA d sp) 3 (0, 0))
theorem rowA_at (d : List Int) (sp : Array Value) {i : Nat} (h : i < d.length) : (rowA d sp)[i]? = some (.int .i64 (ln d i)) := by
 unfold rowA
 rw [Array.getElem?_append_left (by simpa using h)]
 simp [ln_in h, h]
theorem rowA_set (d : List Int) (sp : Array Value) (i : Nat) (v : Int) (h : i < d.length) : (rowA d sp).setIfInBounds i (.int .i64 v) = rowA (d.set i v) sp := by
 unfold rowA
 apply Array.ext_getElem?
 intro k
 rw [Array.getElem?_setIfInBounds]
 by_cases hk : k < d.length
 ·rw [Array.getElem?_append_left (by simpa using hk), Array.getElem?_append_left (by simpa using hk)]
  by_cases e : i = k
  ·subst e; simp [h]; omega
  ·simp [e]
 ·have e : ¬ i = k := by omega
  rw [if_neg e, Array.getElem?_append_right (by simpa using hk), Array.getElem?_append_right (by simpa using hk)]
  simp
theorem Ro.lt {g : Nat} {sp : Array Value} {d : List Int} {w : World} (h : Ro g sp d w) : g < w.heap.size := lt_of_block h
theorem Ro.cell {g : Nat} {sp : Array Value} {d : List Int} {w : World} (h : Ro g sp d w) {i : Nat} (hi : i < d.length) : w.cell? ⟨g, i, none⟩ = some (.int .i64 (ln d i)) := by
 rw [cells_of h, rowA_at d sp hi]
theorem Ro.free {g : Nat} {sp : Array Value} {d : List Int} {w : World} (h : Ro g sp d w) (i : Nat) : w.frozen? ⟨g, i, none⟩ = false := free_of h i
theorem Ro.set {g : Nat} {sp : Array Value} {d : List Int} {w : World} (h : Ro g sp d w) {i : Nat} (hi : i < d.length) (v : Int) : Ro g sp (d.set i v) (w.setCell ⟨g, i, none⟩ (.int .i64 v)) := by
 unfold Ro at h ⊢
 rw [set_of h, rowA_set d sp i v hi]
theorem Ro.swp {g : Nat} {sp : Array Value} {d : List Int} {w : World} (h : Ro g sp d w) {i j : Nat} (hi : i < d.length) (hj : j < d.length) : Ro g sp (swp d i j) ((w.setCell ⟨g, i, none⟩ (.int .i64 (ln d j))).setCell ⟨g, j, none⟩ (.int .i64 (ln d i))) := (h.set hi _).set (by simpa using hj) _
theorem Ro.kept {M : Nat -> Prop} {g : Nat} {sp : Array Value} {d : List Int} {w w' : World} (h : Ro g sp d w) (k : Kept M w w') (hn : ¬ M g) : Ro g sp d w' := k.heap h hn
theorem Ro.drewN {g : Nat} {sp : Array Value} {d : List Int} {w : World} (h : Ro g sp d w) (n : Nat) : Ro g sp d (w.drewN n) := h
end Go.Proofs.YteknifnadbmfiaaGreatDoor.L

/- Rows of numbers that are a call's own: appended to, made. -/
namespace Go.Proofs.YteknifnadbmfiaaGreatDoor.L
set_option maxRecDepth 100000
open Go Go.RowKit

theorem Tryz.info3 : (Tryz.prog.info? 3).map (fun i => (i.zero, i.size, i.bytes)) = some (some (.int .i64 0), 1, 8) := by kernel_rfl
def Owns (w : World) (base : Nat) (v : Value) (L : List Int) : Prop := w.ownsRow base 3 1 v L.length (L.map (Value.int .i64))

theorem Owns.nil (w : World) (base : Nat) : Owns w base (.slice none 0 0) [] := World.ownsRow_nil _ _ _ _
theorem Owns.kept {M : Nat -> Prop} {w w' : World} {base : Nat} {v : Value} {L : List Int} (h : Owns w base v L) (k : Kept M w w') (hn : ∀ g, v.ownBlock = some g -> ¬ M g) : Owns w' base v L := ownsRow_kept h k hn
theorem Owns.low {w : World} {base base' : Nat} {v : Value} {L : List Int} (h : Owns w base v L) (hb : base' <= base) : Owns w base' v L := by
 obtain ⟨h1, h2⟩ := h
 refine ⟨h1, ?_⟩
 rcases h2 with h2 | ⟨g, cap, cur, hv, hg, r⟩
 ·exact .inl h2
 ·exact .inr ⟨g, cap, cur, hv, by omega, r⟩
theorem Owns.form {w : World} {base : Nat} {v : Value} {L : List Int} (h : Owns w base v L) : ∃ a cap, v = .slice a L.length cap /\ (0 < L.length -> ∃ g, v.ownBlock = some g /\ base <= g /\ g < w.heap.size /\ a = some ⟨g, 0, none⟩ /\ ∀ j, j < L.length -> w.cell? ⟨g, j, none⟩ = some (.int .i64 (L.getD j 0))) := by
 rcases h.2 with ⟨rfl, h2⟩ | ⟨g, cap, cur, rfl, hg, hh, hr⟩
 ·exact ⟨none, 0, by rw [h2], fun h => by omega⟩
 ·refine ⟨_, _, rfl, fun _ => ⟨g, rfl, hg, lt_of_block hh, rfl, fun j hj => ?_⟩⟩
  have := World.ownsRow.cellAt h j (by omega)
  rw [this]
  simp [List.getD, hj]
theorem Owns.push {w : World} {base : Nat} {v : Value} {L : List Int} {x : Int} (h : w.ownsRow base 3 1 v (L.length + 1) (L.map (Value.int .i64) ++ [.int .i64 x])) : Owns w base v (L ++ [x]) := by
 unfold Owns
 simpa using h

theorem one_int (w : World) (x : Value) : ∀ j u, [x][j]? = some u -> (w.alloc (.cells #[x] 3)).cell? ((⟨w.heap.size, 0, none⟩ : Addr).add j) = some u := World.news_of_block (heap_new w (.cells #[x] 3))

theorem own_form {w : World} {base e : Nat} {v : Value} {n : Nat} {xs : List Value} (h : w.ownsRow base e 1 v n xs) : ∃ a cap, v = .slice a n cap := by
 rcases h.2 with ⟨rfl, h2⟩ | ⟨g, cap, cur, rfl, _⟩
 ·exact ⟨none, 0, by rw [h2]⟩
 ·exact ⟨_, _, rfl⟩

theorem one_int' (w : World) (x : Value) (n : Nat) (h : w.heap.size = n) : ∀ j u, [x][j]? = some u -> (w.alloc (.cells #[x] 3)).cell? ((⟨n, 0, none⟩ : Addr).add j) = some u := by
 subst h; exact one_int w x

theorem Owns.ints {w : World} {base : Nat} {v : Value} {L : List Int} (h : Owns w base v L) : ∃ a cap, v = .slice a L.length cap /\ Ints base w.heap.size w a L := by
 obtain ⟨a, cap, hv, hf⟩ := h.form
 refine ⟨a, cap, hv, ?_⟩
 by_cases h0 : L.length = 0
 ·exact .inl h0
 ·obtain ⟨g, _, h2, h3, ha, hc⟩ := hf (by omega)
  exact .inr ⟨g, 0, h2, h3, h3, ha, fun i hi => by rw [Nat.zero_add]; exact hc i hi⟩


theorem Owns.ro {w : World} {base : Nat} {v : Value} {L : List Int} (h : Owns w base v L) (h0 : L ≠ []) : ∃ g sp cap, v = .slice (some ⟨g, 0, none⟩) L.length cap /\ base <= g /\ L.length <= cap /\ cap <= maxLen /\ sp.size = cap - L.length /\ Ro g sp L w := by
 rcases h.2 with ⟨_, h2⟩ | ⟨g, cap, cur, rfl, hg, hh, hc1, hc2, hc3, hc4⟩
 ·exact absurd (List.eq_nil_of_length_eq_zero h2) h0
 ·rw [Nat.mul_one] at hc3 hc4
  refine ⟨g, (cur.toList.drop L.length).toArray, cap, rfl, hg, hc1, hc2, by simp [hc3], ?_⟩
  unfold Ro rowA
  rw [hh, <- hc4]
  simp
theorem Owns.of_ro {w : World} {base g cap : Nat} {sp : Array Value} {L : List Int} (h : Ro g sp L w) (hg : base <= g) (hc : L.length <= cap) (hm : cap <= maxLen) (hs : sp.size = cap - L.length) : Owns w base (.slice (some ⟨g, 0, none⟩) L.length cap) L := by
 refine ⟨by simp, .inr ⟨g, cap, rowA L sp, rfl, hg, h, hc, hm, ?_, ?_⟩⟩
 ·simp [rowA, hs]; omega
 ·simp [rowA]
theorem made_ints (n : Nat) (i : TypeInfo) (hi : Tryz.prog.info? 3 = some i) (hz : i.zero = some (.int .i64 0)) (hs : i.size = 1) (hb : i.bytes = 8) (hn : n <= 1000000000) (W : World) :
  (Instr.makeSlice 97 (.int .i64 (n : Int)) (.int .i64 (n : Int))).run Tryz.prog W = .ok (.slice (some ⟨W.heap.size, 0, none⟩) n n) (W.alloc (.cells (rowA (List.replicate n 0) #[]) 3)) := by
 have := run_make (P := Tryz.prog) W 97 3 i (.int .i64 0) Tryz.underlying97 hi hz .i64 .i64 n n (by omega) (by omega) (by rw [hb]; omega) (by omega)
 rw [this, hs]
 have e2 : madeCells (Value.int .i64 0).cells n = rowA (List.replicate n 0) #[] := by
  have := toList_madeCells_one (Value.int .i64 0) n
  rw [<- Array.toList_inj]
  simpa [Value.cells, rowA] using this
 rw [Int.toNat_natCast, Nat.mul_one, e2]
theorem Ro.ints {g : Nat} {sp : Array Value} {d : List Int} {w : World} (h : Ro g sp d w) {lo hi : Nat} (h1 : lo <= g) (h2 : g < hi) : Ints lo hi w (some ⟨g, 0, none⟩) d :=
 .inr ⟨g, 0, h1, h2, h.lt, rfl, fun i hi => by rw [Nat.zero_add]; exact h.cell hi⟩
end Go.Proofs.YteknifnadbmfiaaGreatDoor.L

/- Rows of parcels in memory: two cells each. -/
namespace Go.Proofs.YteknifnadbmfiaaGreatDoor.L
set_option maxRecDepth 100000
open Go Go.RowKit

def px (xs : List (Int × Bool)) (i : Nat) : Int × Bool := xs.getD i (0, false)
theorem px_in {xs : List (Int × Bool)} {i : Nat} (h : i < xs.length) : px xs i = xs[i] := by simp [px, List.getD, h]
theorem px_set (xs : List (Int × Bool)) (i : Nat) (v : Int × Bool) (h : i < xs.length) (x : Nat) : px (xs.set i v) x = if x = i then v else px xs x := by
 unfold px List.getD
 rw [List.getElem?_set]
 by_cases e : i = x
 ·subst e; simp [h]
 ·have : ¬ x = i := fun e' => e e'.symm
  simp [e, this]
def pc (xs : List (Int × Bool)) (j : Nat) : Value := if j % 2 = 0 then .int .i64 (px xs (j / 2)).1 else .bool (px xs (j / 2)).2
def parA (xs : List (Int × Bool)) : Array Value := ((List.range (2 * xs.length)).map (pc xs)).toArray
theorem parA_size (xs : List (Int × Bool)) : (parA xs).size = 2 * xs.length := by simp [parA]
theorem parA_at (xs : List (Int × Bool)) {j : Nat} (h : j < 2 * xs.length) : (parA xs)[j]? = some (pc xs j) := by simp [parA, h]
theorem pc_even (xs : List (Int × Bool)) (i : Nat) : pc xs (2 * i) = .int .i64 (px xs i).1 := by
 unfold pc; rw [if_pos (by omega), show 2 * i / 2 = i by omega]
theorem pc_odd (xs : List (Int × Bool)) (i : Nat) : pc xs (2 * i + 1) = .bool (px xs i).2 := by
 unfold pc; rw [if_neg (by omega), show (2 * i + 1) / 2 = i by omega]
theorem parA_set (xs : List (Int × Bool)) (i : Nat) (v : Int × Bool) (h : i < xs.length) : ((parA xs).setIfInBounds (2 * i) (.int .i64 v.1)).setIfInBounds (2 * i + 1) (.bool v.2) = parA (xs.set i v) := by
 apply Array.ext_getElem?
 intro j
 rw [Array.getElem?_setIfInBounds, Array.getElem?_setIfInBounds]
 by_cases hj : j < 2 * xs.length
 ·rw [parA_at xs hj, parA_at (xs.set i v) (by simpa using hj)]
  by_cases e1 : 2 * i + 1 = j
  ·subst e1
   rw [if_pos rfl, if_pos (by simp [parA_size]; omega), pc_odd, px_set xs i v h, if_pos rfl]
  ·rw [if_neg e1]
   by_cases e2 : 2 * i = j
   ·subst e2
    rw [if_pos rfl, if_pos (by simp [parA_size]; omega), pc_even, px_set xs i v h, if_pos rfl]
   ·rw [if_neg e2]
    have hne : ¬ j / 2 = i := by omega
    simp only [pc, px_set xs i v h, if_neg hne]
 ·rw [if_neg (by omega), if_neg (by omega)]
  simp [parA, hj]
theorem parA_set0 (xs : List (Int × Bool)) (i : Nat) (x : Int) (h : i < xs.length) : (parA xs).setIfInBounds (2 * i) (.int .i64 x) = parA (xs.set i (x, (px xs i).2)) := by
 have := parA_set xs i (x, (px xs i).2) h
 rw [<- this]
 apply Array.ext_getElem?
 intro j
 rw [Array.getElem?_setIfInBounds (i := 2 * i + 1)]
 by_cases e : 2 * i + 1 = j
 ·subst e
  rw [if_pos rfl, if_pos (by simp [parA_size]; omega), Array.getElem?_setIfInBounds, if_neg (by omega), parA_at xs (by omega), pc_odd]
 ·rw [if_neg e]
def PRo (g : Nat) (xs : List (Int × Bool)) (w : World) : Prop := w.heap[g]? = some (.cells (parA xs) 220 (0, 0))
theorem PRo.lt {g : Nat} {xs : List (Int × Bool)} {w : World} (h : PRo g xs w) : g < w.heap.size := lt_of_block h
theorem PRo.kept {M : Nat -> Prop} {g : Nat} {xs : List (Int × Bool)} {w w' : World} (h : PRo g xs w) (k : Kept M w w') (hn : ¬ M g) : PRo g xs w' := k.heap h hn
theorem PRo.c0 {g : Nat} {xs : List (Int × Bool)} {w : World} (h : PRo g xs w) {i : Nat} (hi : i < xs.length) : w.cell? ⟨g, 2 * i, none⟩ = some (.int .i64 (px xs i).1) := by
 rw [cells_of h, parA_at xs (by omega), pc_even]
theorem PRo.c1 {g : Nat} {xs : List (Int × Bool)} {w : World} (h : PRo g xs w) {i : Nat} (hi : i < xs.length) : w.cell? ⟨g, 2 * i + 1, none⟩ = some (.bool (px xs i).2) := by
 rw [cells_of h, parA_at xs (by omega), pc_odd]
theorem PRo.free {g : Nat} {xs : List (Int × Bool)} {w : World} (h : PRo g xs w) (i : Nat) : w.frozen? ⟨g, i, none⟩ = false := free_of h i
theorem PRo.set {g : Nat} {xs : List (Int × Bool)} {w : World} (h : PRo g xs w) {i : Nat} (hi : i < xs.length) (v : Int × Bool) : PRo g (xs.set i v) ((w.setCell ⟨g, 2 * i, none⟩ (.int .i64 v.1)).setCell ⟨g, 2 * i + 1, none⟩ (.bool v.2)) := by
 unfold PRo at h ⊢
 rw [set_of (set_of h (2 * i) _), parA_set xs i v hi]
theorem PRo.set0 {g : Nat} {xs : List (Int × Bool)} {w : World} (h : PRo g xs w) {i : Nat} (hi : i < xs.length) (x : Int) : PRo g (xs.set i (x, (px xs i).2)) (w.setCell ⟨g, 2 * i, none⟩ (.int .i64 x)) := by
 unfold PRo at h ⊢
 rw [set_of h (2 * i) _, parA_set0 xs i x hi]
theorem PRo.range {g : Nat} {xs : List (Int × Bool)} {w : World} (h : PRo g xs w) {i : Nat} (hi : i < xs.length) : w.rangeAt g (2 * i) [.int .i64 (px xs i).1, .bool (px xs i).2] := by
 intro j v hv
 match j, hv with
 | 0, hv => simp at hv; subst hv; exact h.c0 hi
 | 1, hv => simp at hv; subst hv; exact h.c1 hi
def Par (lo hi : Nat) (w : World) (a : Option Addr) (xs : List (Int × Bool)) : Prop :=
 xs.length = 0 \/ ∃ b s ys, lo <= b /\ b < hi /\ PRo b ys w /\ a = some ⟨b, 2 * s, none⟩ /\ s + xs.length <= ys.length /\ ∀ i, i < xs.length -> px ys (s + i) = px xs i
theorem Par.kept {lo hi : Nat} {M : Nat -> Prop} {w w' : World} {a : Option Addr} {xs : List (Int × Bool)} (h : Par lo hi w a xs) (k : Kept M w w') (hn : ∀ b, lo <= b -> b < hi -> ¬ M b) : Par lo hi w' a xs := by
 rcases h with h | ⟨b, s, ys, h1, h2, h3, r⟩
 ·exact .inl h
 ·exact .inr ⟨b, s, ys, h1, h2, h3.kept k (hn b h1 h2), r⟩
theorem Par.of_ro {g lo hi : Nat} {xs : List (Int × Bool)} {w : World} (h : PRo g xs w) (h1 : lo <= g) (h2 : g < hi) : Par lo hi w (some ⟨g, 0, none⟩) xs :=
 .inr ⟨g, 0, xs, h1, h2, h, rfl, by omega, fun i _ => by rw [Nat.zero_add]⟩
theorem Par.wide {lo hi lo' hi' : Nat} {w : World} {a : Option Addr} {xs : List (Int × Bool)} (h : Par lo hi w a xs) (h1 : lo' <= lo) (h2 : hi <= hi') : Par lo' hi' w a xs := by
 rcases h with h | ⟨b, s, ys, k1, k2, r⟩
 ·exact .inl h
 ·exact .inr ⟨b, s, ys, by omega, by omega, r⟩
def filP (ys : List (Int × Bool)) (i : Nat) : List (Int × Bool) := (List.range ys.length).map fun j => if j < i then px ys j else (0, false)
theorem filP_length (ys : List (Int × Bool)) (i : Nat) : (filP ys i).length = ys.length := by simp [filP]
theorem filP_zero (ys : List (Int × Bool)) : filP ys 0 = List.replicate ys.length (0, false) := by
 apply List.ext_getElem?
 intro k
 by_cases h : k < ys.length
 ·simp [filP, h]
 ·simp [filP, h]
theorem filP_all (ys : List (Int × Bool)) : filP ys ys.length = ys := by
 apply List.ext_getElem?
 intro k
 by_cases h : k < ys.length
 ·simp [filP, h, px_in h]
 ·simp [filP, h]
theorem filP_set (ys : List (Int × Bool)) (i : Nat) (h : i < ys.length) : (filP ys i).set i (px ys i) = filP ys (i + 1) := by
 apply List.ext_getElem?
 intro k
 rw [List.getElem?_set, filP_length]
 by_cases e : i = k
 ·subst e
  simp [filP, h]
 ·rw [if_neg e]
  by_cases hk : k < ys.length
  ·have : k < i ↔ k < i + 1 := by omega
   simp [filP, hk, this]
  ·simp [filP, hk]
theorem Tryz.infoPar : (Tryz.prog.info? 220).map (fun i => (i.zero, i.size, i.bytes)) = some (some (.agg #[.int .i64 0, .bool false]), 2, 16) := by kernel_rfl
theorem parA_zero (n : Nat) : madeCells (Value.agg #[.int .i64 0, .bool false]).cells (n * 2) = parA (List.replicate n (0, false)) := by
 apply Array.ext_getElem?
 intro j
 by_cases h : j < 2 * n
 ·rw [parA_at _ (by simpa using h)]
  have hp : px (List.replicate n ((0 : Int), false)) (j / 2) = (0, false) := by
   rw [px_in (by simp; omega)]; simp
  unfold pc
  rw [hp]
  have hj : j < n * 2 := by omega
  by_cases e : j % 2 = 0
  ·simp [madeCells, Value.cells, hj, e]
  ·have e1 : j % 2 = 1 := by omega
   simp [madeCells, Value.cells, hj, e1]
 ·have hj : ¬ j < n * 2 := by omega
  rw [Array.getElem?_eq_none (by rw [size_madeCells]; omega), Array.getElem?_eq_none (by rw [parA_size]; simp; omega)]
theorem made_pars (n : Nat) (i : TypeInfo) (hi : Tryz.prog.info? 220 = some i) (hz : i.zero = some (.agg #[.int .i64 0, .bool false])) (hs : i.size = 2) (hb : i.bytes = 16) (hn : n <= 100000000) (W : World) :
  (Instr.makeSlice 218 (.int .i64 (n : Int)) (.int .i64 (n : Int))).run Tryz.prog W = .ok (.slice (some ⟨W.heap.size, 0, none⟩) n n) (W.alloc (.cells (parA (List.replicate n (0, false))) 220)) := by
 have := run_make (P := Tryz.prog) W 218 220 i (.agg #[.int .i64 0, .bool false]) Tryz.underlying218 hi hz .i64 .i64 n n (by omega) (by omega) (by rw [hb]; omega) (by omega)
 rw [this, hs, Int.toNat_natCast, parA_zero]
end Go.Proofs.YteknifnadbmfiaaGreatDoor.L
