/- Rows of numbers that are sorted by a key: swaps, ranges swapped, rows turned, runs merged: what the library's stable sort does, as plain lists. No Go text in sight. -/
import Derived.Test.YtlfffpgokemjbaaRows
namespace Go.Proofs.Ytlfffpgokemjbaa.O
set_option maxRecDepth 100000

def ln (ls : List Int) (s : Nat) : Int := ls.getD s 0
theorem ln_out {d : List Int} {i : Nat} (h : d.length ≤ i) : ln d i = 0 := by simp [ln, List.getD, List.getElem?_eq_none h]
theorem ln_in {d : List Int} {i : Nat} (h : i < d.length) : ln d i = d[i] := by simp [ln, List.getD, h]
theorem ln_set (d : List Int) (i : Nat) (v : Int) (h : i < d.length) (x : Nat) : ln (d.set i v) x = if x = i then v else ln d x := by
  unfold ln List.getD
  rw [List.getElem?_set]
  by_cases e : i = x
  · subst e; simp [h]
  · have : ¬ x = i := fun e' => e e'.symm
    simp [e, this]
/-- Two places swapped. -/
def swp (d : List Int) (i j : Nat) : List Int := (d.set i (ln d j)).set j (ln d i)
theorem swp_length (d : List Int) (i j : Nat) : (swp d i j).length = d.length := by simp [swp]
theorem swp_at {d : List Int} {i j : Nat} (hi : i < d.length) (hj : j < d.length) (x : Nat) : ln (swp d i j) x = if x = j then ln d i else if x = i then ln d j else ln d x := by
  unfold swp
  rw [ln_set _ _ _ (by simpa using hj), ln_set _ _ _ hi]
theorem swp_perm {d : List Int} {i j : Nat} (hi : i < d.length) (hj : j < d.length) : (swp d i j).Perm d := by
  unfold swp
  rw [ln_in hi, ln_in hj]
  exact List.set_set_perm hi hj

/-- From d to d' nothing is turned but the order within a to b. -/
structure Stir (a b : Nat) (d d' : List Int) : Prop where
  len : d'.length = d.length
  perm : d'.Perm d
  out : ∀ i, i < a ∨ b ≤ i → ln d' i = ln d i
  ins : ∀ i, a ≤ i → i < b → ∃ j, a ≤ j ∧ j < b ∧ ln d' i = ln d j
theorem Stir.refl (a b : Nat) (d : List Int) : Stir a b d d := ⟨rfl, List.Perm.refl _, fun _ _ => rfl, fun i h1 h2 => ⟨i, h1, h2, rfl⟩⟩
theorem Stir.trans {a b : Nat} {d e f : List Int} (h : Stir a b d e) (g : Stir a b e f) : Stir a b d f := by
  refine ⟨g.len.trans h.len, g.perm.trans h.perm, fun i hi => (g.out i hi).trans (h.out i hi), fun i h1 h2 => ?_⟩
  obtain ⟨j, j1, j2, j3⟩ := g.ins i h1 h2
  obtain ⟨x, x1, x2, x3⟩ := h.ins j j1 j2
  exact ⟨x, x1, x2, j3.trans x3⟩
theorem Stir.wide {a b a' b' : Nat} {d e : List Int} (h : Stir a b d e) (ha : a' ≤ a) (hb : b ≤ b') : Stir a' b' d e := by
  refine ⟨h.len, h.perm, fun i hi => h.out i (by omega), fun i h1 h2 => ?_⟩
  by_cases hi : a ≤ i ∧ i < b
  · obtain ⟨j, j1, j2, j3⟩ := h.ins i hi.1 hi.2
    exact ⟨j, by omega, by omega, j3⟩
  · exact ⟨i, h1, h2, h.out i (by omega)⟩
theorem Stir.swp {a b : Nat} {d : List Int} {i j : Nat} (hi : a ≤ i) (hi' : i < b) (hj : a ≤ j) (hj' : j < b) (hb : b ≤ d.length) : Stir a b d (swp d i j) := by
  refine ⟨swp_length d i j, swp_perm (by omega) (by omega), fun x hx => ?_, fun x h1 h2 => ?_⟩
  · rw [swp_at (by omega) (by omega), if_neg (by omega), if_neg (by omega)]
  · rw [swp_at (by omega) (by omega)]
    by_cases e : x = j
    · exact ⟨i, hi, hi', by rw [if_pos e]⟩
    · by_cases e' : x = i
      · exact ⟨j, hj, hj', by rw [if_neg e, if_pos e']⟩
      · exact ⟨x, h1, h2, by rw [if_neg e, if_neg e']⟩

section
variable (k : Int → Int)
/-- Rising by the key, from a to b. -/
def Srt (d : List Int) (a b : Nat) : Prop := ∀ i j, a ≤ i → i ≤ j → j < b → k (ln d i) ≤ k (ln d j)
variable {k}
theorem Srt.same {d e : List Int} {a b : Nat} (h : Srt k d a b) (he : ∀ i, a ≤ i → i < b → ln e i = ln d i) : Srt k e a b := by
  intro i j h1 h2 h3
  rw [he i h1 (by omega), he j (by omega) h3]
  exact h i j h1 h2 h3
theorem Srt.part {d : List Int} {a b a' b' : Nat} (h : Srt k d a b) (ha : a ≤ a') (hb : b' ≤ b) : Srt k d a' b' := fun i j h1 h2 h3 => h i j (by omega) h2 (by omega)
theorem Srt.one (d : List Int) (a b : Nat) (h : b ≤ a + 1) : Srt k d a b := by
  intro i j h1 h2 h3
  have : i = j := by omega
  subst this; exact Int.le_refl _
/-- Two rising runs of which none of the first is above one of the second. -/
theorem Srt.join {d : List Int} {a m b : Nat} (h : Srt k d a m) (g : Srt k d m b) (hx : ∀ i j, a ≤ i → i < m → m ≤ j → j < b → k (ln d i) ≤ k (ln d j)) : Srt k d a b := by
  intro i j h1 h2 h3
  by_cases c : j < m
  · exact h i j h1 h2 c
  · by_cases c' : i < m
    · exact hx i j h1 c' (by omega) h3
    · exact g i j (by omega) h2 h3

/-- While one is moved ahead to its place. -/
structure Ins (k : Int → Int) (d : List Int) (a i j : Nat) : Prop where
  rest : ∀ x y, a ≤ x → x ≤ y → y ≤ i → x ≠ j → y ≠ j → k (ln d x) ≤ k (ln d y)
  low : ∀ y, j < y → y ≤ i → k (ln d j) ≤ k (ln d y)
theorem Ins.start {d : List Int} {a i : Nat} (h : Srt k d a i) : Ins k d a i i := ⟨fun x y h1 h2 h3 _ h5 => h x y h1 h2 (by omega), fun y h1 h2 => by omega⟩
theorem Ins.step {d : List Int} {a i j : Nat} (h : Ins k d a i j) (ha : a < j) (hj : j ≤ i) (hi : i < d.length) (hk : k (ln d j) < k (ln d (j - 1))) : Ins k (Go.Proofs.Ytlfffpgokemjbaa.O.swp d j (j - 1)) a i (j - 1) := by
  have at' := fun x => swp_at (d := d) (i := j) (j := j - 1) (by omega) (by omega) x
  refine ⟨fun x y h1 h2 h3 h4 h5 => ?_, fun y h1 h2 => ?_⟩
  · rw [at', at', if_neg h4, if_neg h5]
    by_cases ex : x = j
    · rw [if_pos ex]
      by_cases ey : y = j
      · rw [if_pos ey]; exact Int.le_refl _
      · rw [if_neg ey]; exact h.rest (j - 1) y (by omega) (by omega) h3 (by omega) ey
    · rw [if_neg ex]
      by_cases ey : y = j
      · rw [if_pos ey]; exact h.rest x (j - 1) h1 (by omega) (by omega) ex (by omega)
      · rw [if_neg ey]; exact h.rest x y h1 h2 h3 ex ey
  · rw [at', at', if_pos rfl, if_neg (by omega)]
    by_cases ey : y = j
    · rw [if_pos ey]; omega
    · rw [if_neg ey]; exact h.low y (by omega) h2
theorem Ins.done {d : List Int} {a i j : Nat} (h : Ins k d a i j) (hj : j ≤ i) (hk : j ≤ a ∨ k (ln d (j - 1)) ≤ k (ln d j)) : Srt k d a (i + 1) := by
  intro x y h1 h2 h3
  by_cases ex : x = j
  · subst ex
    by_cases ey : y = x
    · subst ey; exact Int.le_refl _
    · exact h.low y (by omega) (by omega)
  · by_cases ey : y = j
    · subst ey
      rcases hk with hk | hk
      · omega
      · exact Int.le_trans (h.rest x (y - 1) h1 (by omega) (by omega) ex (by omega)) hk
    · exact h.rest x y h1 h2 (by omega) ex ey

/-- One moved back: what stood at a stands at q, those between one place ahead. -/
structure ShL (d e : List Int) (a q : Nat) : Prop where
  len : e.length = d.length
  low : ∀ x, a ≤ x → x < q → ln e x = ln d (x + 1)
  at_ : ln e q = ln d a
  out : ∀ x, x < a ∨ q < x → ln e x = ln d x
theorem ShL.start (d : List Int) (a : Nat) : ShL d d a a := ⟨rfl, fun x h1 h2 => by omega, rfl, fun _ _ => rfl⟩
theorem ShL.step {d e : List Int} {a q : Nat} (h : ShL d e a q) (ha : a ≤ q) (hq : q + 1 < d.length) : ShL d (Go.Proofs.Ytlfffpgokemjbaa.O.swp e q (q + 1)) a (q + 1) := by
  have at' := fun x => swp_at (d := e) (i := q) (j := q + 1) (by rw [h.len]; omega) (by rw [h.len]; omega) x
  refine ⟨(swp_length _ _ _).trans h.len, fun x h1 h2 => ?_, ?_, fun x hx => ?_⟩
  · rw [at', if_neg (by omega)]
    by_cases e' : x = q
    · rw [if_pos e', h.out (q + 1) (by omega), e']
    · rw [if_neg e', h.low x h1 (by omega)]
  · rw [at', if_pos rfl, h.at_]
  · rw [at', if_neg (by omega), if_neg (by omega), h.out x (by omega)]
theorem ShL.sorted {d e : List Int} {a b i : Nat} (h : ShL d e a (i - 1)) (hi : a + 1 ≤ i) (hib : i ≤ b) (hs : Srt k d (a + 1) b) (h1 : ∀ x, a + 1 ≤ x → x < i → k (ln d x) < k (ln d a)) (h2 : ∀ x, i ≤ x → x < b → k (ln d a) ≤ k (ln d x)) : Srt k e a b := by
  intro x y g1 g2 g3
  by_cases c : x < i - 1
  · rw [h.low x g1 c]
    by_cases c' : y < i - 1
    · rw [h.low y (by omega) c']; exact hs _ _ (by omega) (by omega) (by omega)
    · have u := h1 (x + 1) (by omega) (by omega)
      by_cases c2 : y = i - 1
      · rw [c2, h.at_]; omega
      · rw [h.out y (by omega)]
        have := h2 y (by omega) g3
        omega
  · by_cases c1 : x = i - 1
    · rw [c1, h.at_]
      by_cases c2 : y = i - 1
      · rw [c2, h.at_]; exact Int.le_refl _
      · rw [h.out y (by omega)]; exact h2 y (by omega) g3
    · rw [h.out x (by omega), h.out y (by omega)]; exact hs x y (by omega) g2 g3

/-- One moved ahead: what stood at m stands at q, those between one place back. -/
structure ShR (d e : List Int) (q m : Nat) : Prop where
  len : e.length = d.length
  low : ∀ x, q < x → x ≤ m → ln e x = ln d (x - 1)
  at_ : ln e q = ln d m
  out : ∀ x, x < q ∨ m < x → ln e x = ln d x
theorem ShR.start (d : List Int) (m : Nat) : ShR d d m m := ⟨rfl, fun x h1 h2 => by omega, rfl, fun _ _ => rfl⟩
theorem ShR.step {d e : List Int} {q m : Nat} (h : ShR d e q m) (hq : 0 < q) (hm : q ≤ m) (hl : m < d.length) : ShR d (Go.Proofs.Ytlfffpgokemjbaa.O.swp e q (q - 1)) (q - 1) m := by
  have at' := fun x => swp_at (d := e) (i := q) (j := q - 1) (by rw [h.len]; omega) (by rw [h.len]; omega) x
  refine ⟨(swp_length _ _ _).trans h.len, fun x h1 h2 => ?_, ?_, fun x hx => ?_⟩
  · rw [at', if_neg (by omega)]
    by_cases e' : x = q
    · rw [if_pos e', h.out (q - 1) (by omega), e']
    · rw [if_neg e', h.low x (by omega) h2]
  · rw [at', if_pos rfl, h.at_]
  · rw [at', if_neg (by omega), if_neg (by omega), h.out x (by omega)]
theorem ShR.sorted {d e : List Int} {a m i : Nat} (h : ShR d e i m) (hi : a ≤ i) (him : i ≤ m) (hs : Srt k d a m) (h1 : ∀ x, a ≤ x → x < i → k (ln d x) ≤ k (ln d m)) (h2 : ∀ x, i ≤ x → x < m → k (ln d m) < k (ln d x)) : Srt k e a (m + 1) := by
  intro x y g1 g2 g3
  by_cases c : x < i
  · rw [h.out x (by omega)]
    by_cases c' : y < i
    · rw [h.out y (by omega)]; exact hs _ _ g1 g2 (by omega)
    · by_cases c2 : y = i
      · rw [c2, h.at_]; exact h1 x g1 c
      · rw [h.low y (by omega) (by omega)]; exact hs _ _ g1 (by omega) (by omega)
  · by_cases c1 : x = i
    · rw [c1, h.at_]
      by_cases c2 : y = i
      · rw [c2, h.at_]; exact Int.le_refl _
      · rw [h.low y (by omega) (by omega)]
        have := h2 (y - 1) (by omega) (by omega)
        omega
    · rw [h.low x (by omega) (by omega), h.low y (by omega) (by omega)]; exact hs _ _ (by omega) (by omega) (by omega)

/-- Two ranges swapped, so far. -/
structure SwR (d e : List Int) (a b n : Nat) : Prop where
  len : e.length = d.length
  fst : ∀ x, a ≤ x → x < a + n → ln e x = ln d (x - a + b)
  snd : ∀ x, b ≤ x → x < b + n → ln e x = ln d (x - b + a)
  out : ∀ x, (x < a ∨ a + n ≤ x) → (x < b ∨ b + n ≤ x) → ln e x = ln d x
theorem SwR.start (d : List Int) (a b : Nat) : SwR d d a b 0 := ⟨rfl, fun x h1 h2 => by omega, fun x h1 h2 => by omega, fun _ _ _ => rfl⟩
theorem SwR.step {d e : List Int} {a b n : Nat} (h : SwR d e a b n) (hab : a + n < b) (hb : b + n < d.length) : SwR d (Go.Proofs.Ytlfffpgokemjbaa.O.swp e (a + n) (b + n)) a b (n + 1) := by
  have at' := fun x => swp_at (d := e) (i := a + n) (j := b + n) (by rw [h.len]; omega) (by rw [h.len]; omega) x
  refine ⟨(swp_length _ _ _).trans h.len, fun x h1 h2 => ?_, fun x h1 h2 => ?_, fun x h1 h2 => ?_⟩
  · rw [at', if_neg (by omega)]
    by_cases e' : x = a + n
    · rw [if_pos e', h.out (b + n) (by omega) (by omega), e', show a + n - a + b = b + n by omega]
    · rw [if_neg e', h.fst x h1 (by omega)]
  · rw [at']
    by_cases e' : x = b + n
    · rw [if_pos e', h.out (a + n) (by omega) (by omega), e', show b + n - b + a = a + n by omega]
    · rw [if_neg e', if_neg (by omega), h.snd x h1 (by omega)]
  · rw [at', if_neg (by omega), if_neg (by omega), h.out x (by omega) (by omega)]

/-- A row turned: what stood from m to e stands ahead of what stood from s to m. -/
structure Rot (d f : List Int) (s m e : Nat) : Prop where
  len : f.length = d.length
  fst : ∀ x, s ≤ x → x < s + (e - m) → ln f x = ln d (x + (m - s))
  snd : ∀ x, s + (e - m) ≤ x → x < e → ln f x = ln d (x - (e - m))
  out : ∀ x, x < s ∨ e ≤ x → ln f x = ln d x
theorem Rot.more {d e f : List Int} {m i j : Nat} (him : i ≤ m) (hij : j < i) (h : SwR d e (m - i) m j) (r : Rot e f (m - (i - j)) m (m + j)) : Rot d f (m - i) m (m + j) := by
  refine ⟨r.len.trans h.len, fun x h1 h2 => ?_, fun x h1 h2 => ?_, fun x hx => ?_⟩
  · rw [r.out x (by omega), h.fst x h1 (by omega), show x - (m - i) + m = x + (m - (m - i)) by omega]
  · by_cases c : x < m - (i - j) + j
    · rw [r.fst x (by omega) (by omega), h.snd _ (by omega) (by omega), show x + (m - (m - (i - j))) - m + (m - i) = x - (m + j - m) by omega]
    · rw [r.snd x (by omega) h2, h.out _ (by omega) (by omega)]
  · rw [r.out x (by omega), h.out x (by omega) (by omega)]
theorem Rot.less {d e f : List Int} {m i j : Nat} (him : i ≤ m) (hij : i < j) (h : SwR d e (m - i) (m + j - i) i) (r : Rot e f (m - i) m (m + (j - i))) : Rot d f (m - i) m (m + j) := by
  refine ⟨r.len.trans h.len, fun x h1 h2 => ?_, fun x h1 h2 => ?_, fun x hx => ?_⟩
  · by_cases c : x < m - i + (j - i)
    · rw [r.fst x h1 (by omega), h.out _ (by omega) (by omega)]
    · rw [r.snd x (by omega) (by omega), h.fst _ (by omega) (by omega), show x - (m + (j - i) - m) - (m - i) + (m + j - i) = x + (m - (m - i)) by omega]
  · by_cases c : x < m + (j - i)
    · exfalso; omega
    · rw [r.out x (by omega), h.snd x (by omega) (by omega), show x - (m + j - i) + (m - i) = x - (m + j - m) by omega]
  · rw [r.out x (by omega), h.out x (by omega) (by omega)]
theorem Rot.last {d e : List Int} {m i : Nat} (him : i ≤ m) (h : SwR d e (m - i) m i) : Rot d e (m - i) m (m + i) := by
  refine ⟨h.len, fun x h1 h2 => ?_, fun x h1 h2 => ?_, fun x hx => ?_⟩
  · rw [h.fst x h1 (by omega), show x - (m - i) + m = x + (m - (m - i)) by omega]
  · rw [h.snd x (by omega) (by omega), show x - m + (m - i) = x - (m + i - m) by omega]
  · rw [h.out x (by omega) (by omega)]
/-- Where one of both is empty nothing is turned. -/
theorem Rot.none (d : List Int) {s m e : Nat} (hs : s ≤ m) (he : m ≤ e) (h : s = m ∨ m = e) : Rot d d s m e := by
  refine ⟨rfl, fun x h1 h2 => ?_, fun x h1 h2 => ?_, fun _ _ => rfl⟩
  · rw [show x + (m - s) = x by omega]
  · rw [show x - (e - m) = x by omega]

/-- Where two runs are parted: what is ahead of the place is not above what comes of the other run. -/
structure Cutp (k : Int → Int) (d : List Int) (m mid lo hi s : Nat) : Prop where
  ge : lo ≤ s
  le : s ≤ hi
  yes : lo < s → k (ln d (s - 1)) ≤ k (ln d (mid + m - s))
  no : s < hi → k (ln d (mid + m - 1 - s)) < k (ln d s)
theorem merge_parts {d f : List Int} {a m b mid lo hi s : Nat} (ham : a ≤ m) (hmb : m ≤ b) (hmid : mid = (a + b) / 2) (hlh : (m > mid ∧ lo = mid + m - b ∧ hi = mid) ∨ (m ≤ mid ∧ lo = a ∧ hi = m)) (c : Cutp k d m mid lo hi s)
    (h1 : Srt k d a m) (h2 : Srt k d m b) (r : Rot d f s m (mid + m - s)) :
    a ≤ s ∧ s ≤ mid ∧ s ≤ m ∧ m ≤ mid + m - s ∧ mid ≤ mid + m - s ∧ mid + m - s ≤ b ∧ Srt k f a s ∧ Srt k f s mid ∧ Srt k f mid (mid + m - s) ∧ Srt k f (mid + m - s) b ∧ (∀ i j, a ≤ i → i < mid → mid ≤ j → j < b → k (ln f i) ≤ k (ln f j)) := by
  have c1 := c.ge
  have c2 := c.le
  have e0 : a ≤ s ∧ s ≤ mid ∧ s ≤ m ∧ m ≤ mid + m - s ∧ mid ≤ mid + m - s ∧ mid + m - s ≤ b := by omega
  obtain ⟨e1, e2, e3, e4, e5, e6⟩ := e0
  have emid : s + (mid + m - s - m) = mid := by omega
  refine ⟨e1, e2, e3, e4, e5, e6, ?_, ?_, ?_, ?_, ?_⟩
  · exact (h1.part (Nat.le_refl _) e3).same fun i _ hi => r.out i (.inl hi)
  · intro i j g1 g2 g3
    rw [r.fst i g1 (by omega), r.fst j (by omega) (by omega)]
    exact h2 _ _ (by omega) (by omega) (by omega)
  · intro i j g1 g2 g3
    rw [r.snd i (by omega) (by omega), r.snd j (by omega) (by omega)]
    exact h1 _ _ (by omega) (by omega) (by omega)
  · exact (h2.part e4 (Nat.le_refl _)).same fun i hi _ => r.out i (.inr hi)
  · intro i j g1 g2 g3 g4
    by_cases ci : i < s
    · rw [r.out i (.inl ci)]
      by_cases cj : j < mid + m - s
      · rw [r.snd j (by omega) cj]; exact h1 _ _ g1 (by omega) (by omega)
      · rw [r.out j (.inr (by omega))]
        have y := c.yes (by omega)
        have u1 := h1 i (s - 1) g1 (by omega) (by omega)
        have u2 := h2 (mid + m - s) j (by omega) (by omega) g4
        omega
    · rw [r.fst i (by omega) (by omega)]
      by_cases cj : j < mid + m - s
      · rw [r.snd j (by omega) cj]
        have y := c.no (by omega)
        have u1 := h2 (i + (m - s)) (mid + m - 1 - s) (by omega) (by omega) (by omega)
        have u2 := h1 s (j - (mid + m - s - m)) (by omega) (by omega) (by omega)
        omega
      · rw [r.out j (.inr (by omega))]; exact h2 _ _ (by omega) (by omega) (by omega)
/-- Each block of so many is rising. -/
def Blk (k : Int → Int) (d : List Int) (bs n : Nat) : Prop := ∀ q, Srt k d (q * bs) (min ((q + 1) * bs) n)
theorem Blk.all {d : List Int} {bs n : Nat} (h : Blk k d bs n) (hn : n ≤ bs) : Srt k d 0 n := by
  have := h 0
  rw [Nat.zero_mul, Nat.zero_add, Nat.one_mul, Nat.min_eq_right hn] at this
  exact this
/-- What was merged keeps what lies ahead of it and behind it. -/
theorem Srt.stirred {d e : List Int} {a b x y : Nat} (h : Srt k d x y) (s : Stir a b d e) (hd : y ≤ a ∨ b ≤ x) : Srt k e x y := h.same fun i h1 h2 => s.out i (by omega)
/-- Both halves rising, and none of the first above one of the second: kept by what is stirred in each. -/
theorem low_stir {d e : List Int} {a m b x y : Nat} (h : ∀ i j, a ≤ i → i < m → m ≤ j → j < b → k (ln d i) ≤ k (ln d j)) (s : Stir x y d e) (hxy : (a ≤ x ∧ y ≤ m) ∨ (m ≤ x ∧ y ≤ b)) : ∀ i j, a ≤ i → i < m → m ≤ j → j < b → k (ln e i) ≤ k (ln e j) := by
  intro i j g1 g2 g3 g4
  have fi : ∃ i', a ≤ i' ∧ i' < m ∧ ln e i = ln d i' := by
    by_cases c : x ≤ i ∧ i < y
    · obtain ⟨i', j1, j2, j3⟩ := s.ins i c.1 c.2
      exact ⟨i', by omega, by omega, j3⟩
    · exact ⟨i, g1, g2, s.out i (by omega)⟩
  have fj : ∃ j', m ≤ j' ∧ j' < b ∧ ln e j = ln d j' := by
    by_cases c : x ≤ j ∧ j < y
    · obtain ⟨i', j1, j2, j3⟩ := s.ins j c.1 c.2
      exact ⟨i', by omega, by omega, j3⟩
    · exact ⟨j, g3, g4, s.out j (by omega)⟩
  obtain ⟨i', a1, a2, a3⟩ := fi
  obtain ⟨j', b1, b2, b3⟩ := fj
  rw [a3, b3]; exact h i' j' a1 a2 b1 b2
/-- Like keys rise. -/
def St (k : Int → Int) (d : List Int) : Prop := ∀ i j, i < j → j < d.length → k (ln d i) = k (ln d j) → ln d i < ln d j
theorem St.of {d e : List Int} (h : St k d) (hl : e.length = d.length) (hm : ∀ i j, i < j → j < d.length → ∃ i' j', ln e i = ln d i' ∧ ln e j = ln d j' ∧ j' < d.length ∧ (i' < j' ∨ ¬ k (ln d i') = k (ln d j'))) : St k e := by
  intro i j h1 h2 h3
  obtain ⟨i', j', a, b, c, o⟩ := hm i j h1 (by omega)
  rw [a, b] at h3 ⊢
  rcases o with o | o
  · exact h i' j' o c h3
  · exact absurd h3 o
theorem St.swp {d : List Int} {j : Nat} (h : St k d) (hj : j + 1 < d.length) (hk : k (ln d (j + 1)) < k (ln d j)) : St k (Go.Proofs.Ytlfffpgokemjbaa.O.swp d (j + 1) j) := by
  have at' := fun x => swp_at (d := d) (i := j + 1) (j := j) (by omega) (by omega) x
  refine h.of (swp_length _ _ _) fun x y hxy hy => ?_
  by_cases c : x = j ∧ y = j + 1
  · exact ⟨j + 1, j, by rw [at', if_pos c.1], by rw [at', if_neg (by omega), if_pos c.2], by omega, .inr (by omega)⟩
  · by_cases ex : x = j
    · exact ⟨j + 1, y, by rw [at', if_pos ex], by rw [at', if_neg (by omega), if_neg (by omega)], hy, .inl (by omega)⟩
    · by_cases ex' : x = j + 1
      · exact ⟨j, y, by rw [at', if_neg ex, if_pos ex'], by rw [at', if_neg (by omega), if_neg (by omega)], hy, .inl (by omega)⟩
      · by_cases ey : y = j
        · exact ⟨x, j + 1, by rw [at', if_neg ex, if_neg ex'], by rw [at', if_pos ey], by omega, .inl (by omega)⟩
        · by_cases ey' : y = j + 1
          · exact ⟨x, j, by rw [at', if_neg ex, if_neg ex'], by rw [at', if_neg ey, if_pos ey'], by omega, .inl (by omega)⟩
          · exact ⟨x, y, by rw [at', if_neg ex, if_neg ex'], by rw [at', if_neg ey, if_neg ey'], hy, .inl hxy⟩
theorem St.shL {d e : List Int} {a q : Nat} (h : St k d) (s : ShL d e a q) (haq : a ≤ q) (hq : q < d.length) (hk : ∀ x, a < x → x ≤ q → k (ln d x) < k (ln d a)) : St k e := by
  refine h.of s.len fun x y hxy hy => ?_
  by_cases cx : x < a ∨ q < x
  · by_cases cy : y < a ∨ q < y
    · exact ⟨x, y, s.out x cx, s.out y cy, hy, .inl hxy⟩
    · by_cases ey : y = q
      · exact ⟨x, a, s.out x cx, by rw [ey]; exact s.at_, by omega, .inl (by omega)⟩
      · exact ⟨x, y + 1, s.out x cx, s.low y (by omega) (by omega), by omega, .inl (by omega)⟩
  · by_cases ex : x = q
    · exact ⟨a, y, by rw [ex]; exact s.at_, s.out y (by omega), hy, .inl (by omega)⟩
    · by_cases cy : y < a ∨ q < y
      · exact ⟨x + 1, y, s.low x (by omega) (by omega), s.out y cy, hy, .inl (by omega)⟩
      · by_cases ey : y = q
        · exact ⟨x + 1, a, s.low x (by omega) (by omega), by rw [ey]; exact s.at_, by omega, .inr (by have := hk (x + 1) (by omega) (by omega); omega)⟩
        · exact ⟨x + 1, y + 1, s.low x (by omega) (by omega), s.low y (by omega) (by omega), by omega, .inl (by omega)⟩
theorem St.shR {d e : List Int} {q m : Nat} (h : St k d) (s : ShR d e q m) (hqm : q ≤ m) (hm : m < d.length) (hk : ∀ x, q ≤ x → x < m → k (ln d m) < k (ln d x)) : St k e := by
  refine h.of s.len fun x y hxy hy => ?_
  by_cases cx : x < q ∨ m < x
  · by_cases cy : y < q ∨ m < y
    · exact ⟨x, y, s.out x cx, s.out y cy, hy, .inl hxy⟩
    · by_cases ey : y = q
      · exact ⟨x, m, s.out x cx, by rw [ey]; exact s.at_, by omega, .inl (by omega)⟩
      · exact ⟨x, y - 1, s.out x cx, s.low y (by omega) (by omega), by omega, .inl (by omega)⟩
  · by_cases ex : x = q
    · by_cases cy : m < y
      · exact ⟨m, y, by rw [ex]; exact s.at_, s.out y (.inr cy), hy, .inl (by omega)⟩
      · exact ⟨m, y - 1, by rw [ex]; exact s.at_, s.low y (by omega) (by omega), by omega, .inr (by have := hk (y - 1) (by omega) (by omega); omega)⟩
    · by_cases cy : m < y
      · exact ⟨x - 1, y, s.low x (by omega) (by omega), s.out y (.inr cy), hy, .inl (by omega)⟩
      · exact ⟨x - 1, y - 1, s.low x (by omega) (by omega), s.low y (by omega) (by omega), by omega, .inl (by omega)⟩
theorem St.rot {d f : List Int} {s m e : Nat} (h : St k d) (r : Rot d f s m e) (h1 : s ≤ m) (h2 : m ≤ e) (he : e ≤ d.length) (hk : ∀ x y, s ≤ x → x < m → m ≤ y → y < e → k (ln d y) < k (ln d x)) : St k f := by
  refine h.of r.len fun x y hxy hy => ?_
  by_cases cx : x < s ∨ e ≤ x
  · by_cases cy : y < s ∨ e ≤ y
    · exact ⟨x, y, r.out x cx, r.out y cy, hy, .inl hxy⟩
    · by_cases c : y < s + (e - m)
      · exact ⟨x, y + (m - s), r.out x cx, r.fst y (by omega) c, by omega, .inl (by omega)⟩
      · exact ⟨x, y - (e - m), r.out x cx, r.snd y (by omega) (by omega), by omega, .inl (by omega)⟩
  · by_cases c : x < s + (e - m)
    · by_cases cy : e ≤ y
      · exact ⟨x + (m - s), y, r.fst x (by omega) c, r.out y (.inr cy), hy, .inl (by omega)⟩
      · by_cases c' : y < s + (e - m)
        · exact ⟨x + (m - s), y + (m - s), r.fst x (by omega) c, r.fst y (by omega) c', by omega, .inl (by omega)⟩
        · exact ⟨x + (m - s), y - (e - m), r.fst x (by omega) c, r.snd y (by omega) (by omega), by omega, .inr (by have := hk (y - (e - m)) (x + (m - s)) (by omega) (by omega) (by omega) (by omega); omega)⟩
    · by_cases cy : e ≤ y
      · exact ⟨x - (e - m), y, r.snd x (by omega) (by omega), r.out y (.inr cy), hy, .inl (by omega)⟩
      · exact ⟨x - (e - m), y - (e - m), r.snd x (by omega) (by omega), r.snd y (by omega) (by omega), by omega, .inl (by omega)⟩
/-- What goes behind in a turn is above what comes ahead. -/
theorem rot_strict {d : List Int} {a m b mid lo hi s : Nat} (hmid : mid = (a + b) / 2) (hlh : (m > mid ∧ lo = mid + m - b ∧ hi = mid) ∨ (m ≤ mid ∧ lo = a ∧ hi = m)) (c : Cutp k d m mid lo hi s)
    (h1 : Srt k d a m) (h2 : Srt k d m b) : ∀ x y, s ≤ x → x < m → m ≤ y → y < mid + m - s → k (ln d y) < k (ln d x) := by
  intro x y g1 g2 g3 g4
  have c1 := c.ge
  have c2 := c.le
  have y0 := c.no (by omega)
  have u1 := h2 y (mid + m - 1 - s) (by omega) (by omega) (by omega)
  have u2 := h1 s x (by omega) (by omega) (by omega)
  omega
/-- Stirred, and like keys that rose still rise. -/
structure Stirk (k : Int → Int) (a b : Nat) (d d' : List Int) : Prop where
  st : Stir a b d d'
  up : St k d → St k d'
theorem Stirk.refl (k : Int → Int) (a b : Nat) (d : List Int) : Stirk k a b d d := ⟨Stir.refl _ _ _, id⟩
theorem Stirk.trans {a b : Nat} {d e f : List Int} (h : Stirk k a b d e) (g : Stirk k a b e f) : Stirk k a b d f := ⟨h.st.trans g.st, fun x => g.up (h.up x)⟩
theorem Stirk.wide {a b a' b' : Nat} {d e : List Int} (h : Stirk k a b d e) (ha : a' ≤ a) (hb : b ≤ b') : Stirk k a' b' d e := ⟨h.st.wide ha hb, h.up⟩
theorem Stirk.len {a b : Nat} {d e : List Int} (h : Stirk k a b d e) : e.length = d.length := h.st.len
theorem Stirk.perm {a b : Nat} {d e : List Int} (h : Stirk k a b d e) : e.Perm d := h.st.perm
/-- Rising, like keys rising, and of the same: one row. -/
theorem St.pair {d : List Int} (h : St k d) (hs : Srt k d 0 d.length) : d.Pairwise fun x y => k x < k y ∨ (k x = k y ∧ x < y) := by
  rw [List.pairwise_iff_getElem]
  intro i j hi hj hij
  have h1 := hs i j (Nat.zero_le _) (by omega) hj
  have h2 := h i j hij hj
  rw [ln_in hi, ln_in hj] at h1 h2
  by_cases e : k d[i] = k d[j]
  · exact .inr ⟨e, h2 e⟩
  · exact .inl (by omega)
theorem pair_one (k : Int → Int) : ∀ (d e : List Int), d.Perm e → (d.Pairwise fun x y => k x < k y ∨ (k x = k y ∧ x < y)) → (e.Pairwise fun x y => k x < k y ∨ (k x = k y ∧ x < y)) → d = e := by
  intro d
  induction d with
  | nil => intro e h _ _; exact (h.symm.eq_nil).symm
  | cons x d ih =>
    intro e h h1 h2
    cases e with
    | nil => exact absurd h.length_eq (by simp)
    | cons y e =>
      rw [List.pairwise_cons] at h1 h2
      have hxy : x = y := by
        rcases List.mem_cons.1 (h.mem_iff.1 (List.mem_cons_self)) with e1 | e1
        · exact e1
        · rcases List.mem_cons.1 (h.mem_iff.2 (List.mem_cons_self)) with e2 | e2
          · exact e2.symm
          · have a := h2.1 x e1
            have b := h1.1 y e2
            omega
      subst hxy
      rw [ih e h.cons_inv h1.2 h2.2]
theorem St.one {d e : List Int} (h : d.Perm e) (h1 : Srt k d 0 d.length) (h2 : St k d) (h3 : Srt k e 0 e.length) (h4 : St k e) : d = e := pair_one k d e h (h2.pair h1) (h4.pair h3)
end
end Go.Proofs.Ytlfffpgokemjbaa.O
