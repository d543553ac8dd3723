/- Rows of parcels in memory: two cells each. -/
import Derived.Test.YtdeigchkpakdaaaLOwn
import Derived.Deep.MidRow
namespace Go.Proofs.Ytdeigchkpakdaaa
open Go Go.RowKit

/-- A parcel of a row. -/
def px (xs : List (Int × Bool)) (i : Nat) : Int × Bool := xs.getD i (0, false)
theorem px_in {xs : List (Int × Bool)} {i : Nat} (h : i < xs.length) : px xs i = xs[i] := by simp [px, List.getD, h]
theorem px_set (xs : List (Int × Bool)) (i : Nat) (v : Int × Bool) (h : i < xs.length) (x : Nat) : px (xs.set i v) x = if x = i then v else px xs x := by
  unfold px List.getD
  rw [List.getElem?_set]
  by_cases e : i = x
  · subst e; simp [h]
  · have : ¬ x = i := fun e' => e e'.symm
    simp [e, this]
/-- The cells of a row. -/
def pc (xs : List (Int × Bool)) (j : Nat) : Value := if j % 2 = 0 then .int .i64 (px xs (j / 2)).1 else .bool (px xs (j / 2)).2
def parA (xs : List (Int × Bool)) : Array Value := ((List.range (2 * xs.length)).map (pc xs)).toArray
theorem parA_size (xs : List (Int × Bool)) : (parA xs).size = 2 * xs.length := by simp [parA]
theorem parA_at (xs : List (Int × Bool)) {j : Nat} (h : j < 2 * xs.length) : (parA xs)[j]? = some (pc xs j) := by simp [parA, h]
theorem pc_even (xs : List (Int × Bool)) (i : Nat) : pc xs (2 * i) = .int .i64 (px xs i).1 := by
  unfold pc; rw [if_pos (by omega), show 2 * i / 2 = i by omega]
theorem pc_odd (xs : List (Int × Bool)) (i : Nat) : pc xs (2 * i + 1) = .bool (px xs i).2 := by
  unfold pc; rw [if_neg (by omega), show (2 * i + 1) / 2 = i by omega]
theorem parA_set (xs : List (Int × Bool)) (i : Nat) (v : Int × Bool) (h : i < xs.length) : ((parA xs).setIfInBounds (2 * i) (.int .i64 v.1)).setIfInBounds (2 * i + 1) (.bool v.2) = parA (xs.set i v) := by
  apply Array.ext_getElem?
  intro j
  rw [Array.getElem?_setIfInBounds, Array.getElem?_setIfInBounds]
  by_cases hj : j < 2 * xs.length
  · rw [parA_at xs hj, parA_at (xs.set i v) (by simpa using hj)]
    by_cases e1 : 2 * i + 1 = j
    · subst e1
      rw [if_pos rfl, if_pos (by simp [parA_size]; omega), pc_odd, px_set xs i v h, if_pos rfl]
    · rw [if_neg e1]
      by_cases e2 : 2 * i = j
      · subst e2
        rw [if_pos rfl, if_pos (by simp [parA_size]; omega), pc_even, px_set xs i v h, if_pos rfl]
      · rw [if_neg e2]
        have hne : ¬ j / 2 = i := by omega
        simp only [pc, px_set xs i v h, if_neg hne]
  · rw [if_neg (by omega), if_neg (by omega)]
    simp [parA, hj]
theorem parA_set0 (xs : List (Int × Bool)) (i : Nat) (x : Int) (h : i < xs.length) : (parA xs).setIfInBounds (2 * i) (.int .i64 x) = parA (xs.set i (x, (px xs i).2)) := by
  have := parA_set xs i (x, (px xs i).2) h
  rw [← this]
  apply Array.ext_getElem?
  intro j
  rw [Array.getElem?_setIfInBounds (i := 2 * i + 1)]
  by_cases e : 2 * i + 1 = j
  · subst e
    rw [if_pos rfl, if_pos (by simp [parA_size]; omega), Array.getElem?_setIfInBounds, if_neg (by omega), parA_at xs (by omega), pc_odd]
  · rw [if_neg e]
/-- A row of parcels in a block of its own. -/
def PRo (g : Nat) (xs : List (Int × Bool)) (w : World) : Prop := w.heap[g]? = some (.cells (parA xs) 45 (0, 0))
theorem PRo.lt {g : Nat} {xs : List (Int × Bool)} {w : World} (h : PRo g xs w) : g < w.heap.size := lt_of_block h
theorem PRo.kept {M : Nat → Prop} {g : Nat} {xs : List (Int × Bool)} {w w' : World} (h : PRo g xs w) (k : Kept M w w') (hn : ¬ M g) : PRo g xs w' := k.heap h hn
theorem PRo.c0 {g : Nat} {xs : List (Int × Bool)} {w : World} (h : PRo g xs w) {i : Nat} (hi : i < xs.length) : w.cell? ⟨g, 2 * i, none⟩ = some (.int .i64 (px xs i).1) := by
  rw [cells_of h, parA_at xs (by omega), pc_even]
theorem PRo.c1 {g : Nat} {xs : List (Int × Bool)} {w : World} (h : PRo g xs w) {i : Nat} (hi : i < xs.length) : w.cell? ⟨g, 2 * i + 1, none⟩ = some (.bool (px xs i).2) := by
  rw [cells_of h, parA_at xs (by omega), pc_odd]
theorem PRo.free {g : Nat} {xs : List (Int × Bool)} {w : World} (h : PRo g xs w) (i : Nat) : w.frozen? ⟨g, i, none⟩ = false := free_of h i
theorem PRo.set {g : Nat} {xs : List (Int × Bool)} {w : World} (h : PRo g xs w) {i : Nat} (hi : i < xs.length) (v : Int × Bool) : PRo g (xs.set i v) ((w.setCell ⟨g, 2 * i, none⟩ (.int .i64 v.1)).setCell ⟨g, 2 * i + 1, none⟩ (.bool v.2)) := by
  unfold PRo at h ⊢
  rw [set_of (set_of h (2 * i) _), parA_set xs i v hi]
theorem PRo.set0 {g : Nat} {xs : List (Int × Bool)} {w : World} (h : PRo g xs w) {i : Nat} (hi : i < xs.length) (x : Int) : PRo g (xs.set i (x, (px xs i).2)) (w.setCell ⟨g, 2 * i, none⟩ (.int .i64 x)) := by
  unfold PRo at h ⊢
  rw [set_of h (2 * i) _, parA_set0 xs i x hi]
theorem PRo.range {g : Nat} {xs : List (Int × Bool)} {w : World} (h : PRo g xs w) {i : Nat} (hi : i < xs.length) : w.rangeAt g (2 * i) [.int .i64 (px xs i).1, .bool (px xs i).2] := by
  intro j v hv
  match j, hv with
  | 0, hv => simp at hv; subst hv; exact h.c0 hi
  | 1, hv => simp at hv; subst hv; exact h.c1 hi
theorem PRo.there {g : Nat} {xs : List (Int × Bool)} {w : World} (h : PRo g xs w) {i : Nat} (hi : i < xs.length) : w.there g (2 * i) 2 := by
  intro j hj
  have : j = 0 ∨ j = 1 := by omega
  rcases this with rfl | rfl
  · exact ⟨by rw [Nat.add_zero, h.c0 hi]; rfl, h.free _⟩
  · exact ⟨by rw [h.c1 hi]; rfl, h.free _⟩
/-- The parcels xs where a slice leads. -/
def Par (lo hi : Nat) (w : World) (a : Option Addr) (xs : List (Int × Bool)) : Prop :=
  xs.length = 0 ∨ ∃ b s ys, lo ≤ b ∧ b < hi ∧ PRo b ys w ∧ a = some ⟨b, 2 * s, none⟩ ∧ s + xs.length ≤ ys.length ∧ ∀ i, i < xs.length → px ys (s + i) = px xs i
theorem Par.kept {lo hi : Nat} {M : Nat → Prop} {w w' : World} {a : Option Addr} {xs : List (Int × Bool)} (h : Par lo hi w a xs) (k : Kept M w w') (hn : ∀ b, lo ≤ b → b < hi → ¬ M b) : Par lo hi w' a xs := by
  rcases h with h | ⟨b, s, ys, h1, h2, h3, r⟩
  · exact .inl h
  · exact .inr ⟨b, s, ys, h1, h2, h3.kept k (hn b h1 h2), r⟩
theorem Par.of_ro {g lo hi : Nat} {xs : List (Int × Bool)} {w : World} (h : PRo g xs w) (h1 : lo ≤ g) (h2 : g < hi) : Par lo hi w (some ⟨g, 0, none⟩) xs :=
  .inr ⟨g, 0, xs, h1, h2, h, rfl, by omega, fun i _ => by rw [Nat.zero_add]⟩
theorem Par.wide {lo hi lo' hi' : Nat} {w : World} {a : Option Addr} {xs : List (Int × Bool)} (h : Par lo hi w a xs) (h1 : lo' ≤ lo) (h2 : hi ≤ hi') : Par lo' hi' w a xs := by
  rcases h with h | ⟨b, s, ys, k1, k2, r⟩
  · exact .inl h
  · exact .inr ⟨b, s, ys, by omega, by omega, r⟩
/-- A row that is filled place by place. -/
def filP (ys : List (Int × Bool)) (i : Nat) : List (Int × Bool) := (List.range ys.length).map fun j => if j < i then px ys j else (0, false)
theorem filP_length (ys : List (Int × Bool)) (i : Nat) : (filP ys i).length = ys.length := by simp [filP]
theorem filP_zero (ys : List (Int × Bool)) : filP ys 0 = List.replicate ys.length (0, false) := by
  apply List.ext_getElem?
  intro k
  by_cases h : k < ys.length
  · simp [filP, h]
  · simp [filP, h]
theorem filP_all (ys : List (Int × Bool)) : filP ys ys.length = ys := by
  apply List.ext_getElem?
  intro k
  by_cases h : k < ys.length
  · simp [filP, h, px_in h]
  · simp [filP, h]
theorem filP_set (ys : List (Int × Bool)) (i : Nat) (h : i < ys.length) : (filP ys i).set i (px ys i) = filP ys (i + 1) := by
  apply List.ext_getElem?
  intro k
  rw [List.getElem?_set, filP_length]
  by_cases e : i = k
  · subst e
    simp [filP, h]
  · rw [if_neg e]
    by_cases hk : k < ys.length
    · have : k < i ↔ k < i + 1 := by omega
      simp [filP, hk, this]
    · simp [filP, hk]
theorem Try.infoPar : (Try.prog.info? 45).map (fun i => (i.zero, i.size, i.bytes)) = some (some (.agg #[.int .i64 0, .bool false]), 2, 16) := by kernel_rfl
theorem parA_zero (n : Nat) : madeCells (Value.agg #[.int .i64 0, .bool false]).cells (n * 2) = parA (List.replicate n (0, false)) := by
  apply Array.ext_getElem?
  intro j
  by_cases h : j < 2 * n
  · rw [parA_at _ (by simpa using h)]
    have hp : px (List.replicate n ((0 : Int), false)) (j / 2) = (0, false) := by
      rw [px_in (by simp; omega)]; simp
    unfold pc
    rw [hp]
    have hj : j < n * 2 := by omega
    by_cases e : j % 2 = 0
    · simp [madeCells, Value.cells, hj, e]
    · have e1 : j % 2 = 1 := by omega
      simp [madeCells, Value.cells, hj, e1]
  · have hj : ¬ j < n * 2 := by omega
    rw [Array.getElem?_eq_none (by rw [size_madeCells]; omega), Array.getElem?_eq_none (by rw [parA_size]; simp; omega)]
theorem made_pars (n : Nat) (i : TypeInfo) (hi : Try.prog.info? 45 = some i) (hz : i.zero = some (.agg #[.int .i64 0, .bool false])) (hs : i.size = 2) (hb : i.bytes = 16) (hn : n ≤ 100000000) (W : World) :
    (Instr.makeSlice 43 (.int .i64 (n : Int)) (.int .i64 (n : Int))).run Try.prog W = .ok (.slice (some ⟨W.heap.size, 0, none⟩) n n) (W.alloc (.cells (parA (List.replicate n (0, false))) 45)) := by
  have := run_make (P := Try.prog) W 43 45 i (.agg #[.int .i64 0, .bool false]) Try.underlying43 hi hz .i64 .i64 n n (by omega) (by omega) (by rw [hb]; omega) (by omega)
  rw [this, hs, Int.toNat_natCast, parA_zero]
end Go.Proofs.Ytdeigchkpakdaaa
