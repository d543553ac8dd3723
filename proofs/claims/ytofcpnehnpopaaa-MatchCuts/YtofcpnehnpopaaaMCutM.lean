/- Rows of tokens: of no program; how they lie in memory. -/
import Derived.Test.YtofcpnehnpopaaaMAppT
namespace Go.Proofs.Ytofcpnehnpopaaa
set_option maxRecDepth 100000
open Go Go.RowKit

/-- Tokens cut in rows of k. -/
def cutF (k : Nat) : Nat → List Tk → List (List Tk)
  | 0, _ => []
  | n + 1, xs => if xs = [] then [] else xs.take k :: cutF k n (xs.drop k)
def cutR (k : Nat) (xs : List Tk) : List (List Tk) := cutF k xs.length xs
theorem cutF_ge (k : Nat) (hk : 1 ≤ k) : ∀ (n : Nat) (xs : List Tk), xs.length ≤ n → cutF k n xs = cutR k xs := by
  intro n
  induction n using Nat.strongRecOn with
  | _ n ih =>
    intro xs hx
    unfold cutR
    cases n with
    | zero =>
      have : xs = [] := List.eq_nil_of_length_eq_zero (by omega)
      subst this; rfl
    | succ n =>
      cases xs with
      | nil => rfl
      | cons x xs =>
        rw [List.length_cons, cutF, cutF, if_neg (by simp), if_neg (by simp)]
        congr 1
        have hl : ((x :: xs).drop k).length ≤ xs.length := by rw [List.length_drop, List.length_cons]; omega
        have h1 := ih n (by omega) ((x :: xs).drop k) (by simp only [List.length_cons] at hx; omega)
        rw [h1]
        simp only [List.length_cons] at hx
        rcases Nat.lt_or_ge xs.length (n + 1) with h' | h'
        · exact (ih xs.length h' ((x :: xs).drop k) hl).symm
        · omega
theorem cutR_nil (k : Nat) : cutR k [] = [] := rfl
theorem cutR_cons {k : Nat} (hk : 1 ≤ k) {xs : List Tk} (h : xs ≠ []) : cutR k xs = xs.take k :: cutR k (xs.drop k) := by
  cases xs with
  | nil => exact absurd rfl h
  | cons x xs =>
    have hl : ((x :: xs).drop k).length ≤ xs.length := by rw [List.length_drop, List.length_cons]; omega
    show cutF k (xs.length + 1) (x :: xs) = _
    rw [cutF, if_neg (by simp), cutF_ge k hk _ _ hl]
theorem cutR_small {k : Nat} (hk : 1 ≤ k) {xs : List Tk} (h : xs ≠ []) (hl : xs.length ≤ k) : cutR k xs = [xs] := by
  rw [cutR_cons hk h, List.take_of_length_le hl, List.drop_eq_nil_of_le hl, cutR_nil]
theorem cutR_flat {k : Nat} (hk : 1 ≤ k) : ∀ (n : Nat) (xs : List Tk), xs.length ≤ n → (cutR k xs).flatten = xs := by
  intro n
  induction n with
  | zero => intro xs h; have : xs = [] := List.eq_nil_of_length_eq_zero (by omega); subst this; rfl
  | succ n ih =>
    intro xs h
    by_cases h0 : xs = []
    · subst h0; rfl
    · rw [cutR_cons hk h0, List.flatten_cons, ih _ (by have := List.length_pos_iff.2 h0; rw [List.length_drop]; omega), List.take_append_drop]
/-- One token more. -/
theorem cutR_snoc {k : Nat} (hk : 1 ≤ k) (t : Tk) : ∀ (n : Nat) (ys : List Tk), ys.length ≤ n →
    (ys.length % k = 0 → cutR k (ys ++ [t]) = cutR k ys ++ [[t]]) ∧ (ys.length % k ≠ 0 → ∃ A B, cutR k ys = A ++ [B] ∧ cutR k (ys ++ [t]) = A ++ [B ++ [t]]) := by
  intro n
  induction n with
  | zero =>
    intro ys h
    have : ys = [] := List.eq_nil_of_length_eq_zero (by omega)
    subst this
    refine ⟨fun _ => ?_, fun h => by simp at h⟩
    rw [cutR_nil, List.nil_append, List.nil_append, cutR_small hk (by simp) (by simpa using hk)]
  | succ n ih =>
    intro ys h
    by_cases h0 : ys = []
    · subst h0
      refine ⟨fun _ => ?_, fun h => by simp at h⟩
      rw [cutR_nil, List.nil_append, List.nil_append, cutR_small hk (by simp) (by simpa using hk)]
    · have hpos := List.length_pos_iff.2 h0
      by_cases hlt : ys.length < k
      · have hm : ys.length % k = ys.length := Nat.mod_eq_of_lt hlt
        refine ⟨fun e => by omega, fun _ => ⟨[], ys, ?_, ?_⟩⟩
        · rw [cutR_small hk h0 (by omega)]; rfl
        · rw [cutR_small hk (by simp) (by simp; omega)]; rfl
      · obtain ⟨i1, i2⟩ := ih (ys.drop k) (by rw [List.length_drop]; omega)
        have hm : (ys.drop k).length % k = ys.length % k := by
          rw [List.length_drop]
          conv => rhs; rw [show ys.length = ys.length - k + k by omega, Nat.add_mod_right]
        have e1 : cutR k (ys ++ [t]) = ys.take k :: cutR k (ys.drop k ++ [t]) := by
          rw [cutR_cons hk (by simp), List.take_append_of_le_length (by omega), List.drop_append_of_le_length (by omega)]
        rw [e1, cutR_cons hk h0]
        rw [hm] at i1 i2
        refine ⟨fun e => by rw [i1 e]; rfl, fun e => ?_⟩
        obtain ⟨A, B, q1, q2⟩ := i2 e
        exact ⟨ys.take k :: A, B, by rw [q1]; rfl, by rw [q2]; rfl⟩

def rw_ (rs : List (List Tk)) (i : Nat) : List Tk := rs.getD i []
def vw (vs : List Value) (i : Nat) : Value := vs.getD i (.slice none 0 0)
theorem rw_left {A B : List (List Tk)} {i : Nat} (h : i < A.length) : rw_ (A ++ B) i = rw_ A i := by simp [rw_, List.getD, List.getElem?_append_left h]
theorem rw_last (A : List (List Tk)) (t : List Tk) : rw_ (A ++ [t]) A.length = t := by simp [rw_, List.getD]
theorem vw_left {A B : List Value} {i : Nat} (h : i < A.length) : vw (A ++ B) i = vw A i := by simp [vw, List.getD, List.getElem?_append_left h]
theorem vw_last (A : List Value) (t : Value) : vw (A ++ [t]) A.length = t := by simp [vw, List.getD]
/-- Rows in memory, each in a block of its own. -/
structure RowsT (lo : Nat) (w : World) (v : Value) (rs : List (List Tk)) (vs : List Value) : Prop where
  own : w.ownsRow lo 22 1 v rs.length vs
  rows : ∀ i, i < rs.length → OwnsT w lo (vw vs i) (rw_ rs i)
theorem RowsT.len {lo : Nat} {w : World} {v : Value} {rs : List (List Tk)} {vs : List Value} (h : RowsT lo w v rs vs) : vs.length = rs.length := by have := h.own.1; omega
theorem RowsT.nil (lo : Nat) (w : World) : RowsT lo w (.slice none 0 0) [] [] := ⟨World.ownsRow_nil _ _ _ _, fun i hi => by simp at hi⟩
theorem RowsT.stay {lo : Nat} {w w' : World} {v : Value} {rs : List (List Tk)} {vs : List Value} (h : RowsT lo w v rs vs) (k : Below w.heap.size w w') : RowsT lo w' v rs vs :=
  ⟨ownsRow_kept h.own (Kept.of_below k) (fun g hg e => by have := (ownsRow_lt h.own hg).2; omega), fun i hi => (h.rows i hi).stay k⟩
theorem RowsT.form {lo : Nat} {w : World} {v : Value} {rs : List (List Tk)} {vs : List Value} (h : RowsT lo w v rs vs) : ∃ a cap, v = .slice a rs.length cap ∧ (∀ i, i < rs.length → ∃ g, a = some ⟨g, 0, none⟩ ∧ lo ≤ g ∧ g < w.heap.size ∧ w.cell? ⟨g, i, none⟩ = some (vw vs i)) := by
  rcases h.own.2 with ⟨rfl, h2⟩ | ⟨g, cap, cur, rfl, hg, hh, hr⟩
  · exact ⟨none, 0, by rw [h2], fun i hi => by omega⟩
  · refine ⟨_, _, rfl, fun i hi => ⟨g, rfl, hg, lt_of_block hh, ?_⟩⟩
    rw [World.ownsRow.cellAt h.own i (by omega)]
    simp [vw, List.getD, h.len, hi]
theorem RowsT.push {lo : Nat} {w w4 : World} {v v' x : Value} {rs : List (List Tk)} {vs : List Value} {r : List Tk} (h : RowsT lo w v rs vs) (hx : OwnsT w lo x r) (ho : w4.ownsRow lo 22 1 v' (rs.length + 1) (vs ++ [x])) (hg : w.grownBy w4 v.ownBlock) : RowsT lo w4 v' (rs ++ [r]) (vs ++ [x]) := by
  have hk := Kept.of_grown hg
  have keep : ∀ y q, OwnsT w lo y q → OwnsT w4 lo y q := fun y q hq => by
    refine hq.kept hk (fun g hg' e => ?_)
    rcases hq.2 with ⟨rfl, _⟩ | ⟨g', cap', cur, rfl, _, hh, _⟩
    · cases hg'
    · simp [Value.ownBlock] at hg'
      subst hg'
      exact ownsRow_apart h.own hh (by decide) e.symm
  refine ⟨by rw [List.length_append, List.length_singleton]; exact ho, fun i hi => ?_⟩
  rw [List.length_append, List.length_singleton] at hi
  by_cases e : i < rs.length
  · rw [vw_left (by rw [h.len]; exact e), rw_left e]
    exact keep _ _ (h.rows i e)
  · obtain rfl : i = rs.length := by omega
    rw [rw_last, ← h.len, vw_last]
    exact keep _ _ hx
theorem Try.infoToks : (Try.prog.info? 22).map (fun i => (i.zero, i.size, i.bytes)) = some (some (.slice none 0 0), 1, 24) := by kernel_rfl
theorem some_cell {w : World} {g : Nat} {cs : Array Value} {t : TypeId} (h : w.heap[g]? = some (.cells cs t (0, 0))) {j : Nat} (hj : j < cs.size) : ∃ u, w.cell? ⟨g, j, none⟩ = some u := by
  rw [cells_of h]; exact ⟨_, Array.getElem?_eq_getElem hj⟩
theorem own_form1 {w : World} {base e : Nat} {v : Value} {n : Nat} {xs : List Value} (h : w.ownsRow base e 1 v n xs) : ∃ a cap, v = .slice a n cap := by
  rcases h.2 with ⟨rfl, h2⟩ | ⟨g, cap, cur, rfl, _⟩
  · exact ⟨none, 0, by rw [h2]⟩
  · exact ⟨_, _, rfl⟩
theorem one_row (w : World) (x : Value) (n : Nat) (h : w.heap.size = n) : ∀ j u, [x][j]? = some u → (w.alloc (.cells #[x] 22)).cell? ((⟨n, 0, none⟩ : Addr).add j) = some u := by
  subst h; exact World.news_of_block (heap_new w (.cells #[x] 22))
end Go.Proofs.Ytofcpnehnpopaaa
