/- Several texts, laid together: LPar, LPack, LCopy. -/
import Derived.Test.YtlakgbckopjelaaDoorG18LOwn
import Derived.Deep.MidRow
import Derived.Laws.CopyOwn
/- Rows of parcels in memory: two cells each. -/
namespace Go.Proofs.YtlakgbckopjelaaDoor.L
set_option maxRecDepth 100000
open Go Go.RowKit

/-- A parcel of a row. -/
def px (xs : List (Int × Bool)) (i : Nat) : Int × Bool := xs.getD i (0, false)
theorem px_in {xs : List (Int × Bool)} {i : Nat} (h : i < xs.length) : px xs i = xs[i] := by simp [px, List.getD, h]
theorem px_set (xs : List (Int × Bool)) (i : Nat) (v : Int × Bool) (h : i < xs.length) (x : Nat) : px (xs.set i v) x = if x = i then v else px xs x := by
  unfold px List.getD
  rw [List.getElem?_set]
  by_cases e : i = x
  · subst e; simp [h]
  · have : ¬ x = i := fun e' => e e'.symm
    simp [e, this]
/-- The cells of a row. -/
def pc (xs : List (Int × Bool)) (j : Nat) : Value := if j % 2 = 0 then .int .i64 (px xs (j / 2)).1 else .bool (px xs (j / 2)).2
def parA (xs : List (Int × Bool)) : Array Value := ((List.range (2 * xs.length)).map (pc xs)).toArray
theorem parA_size (xs : List (Int × Bool)) : (parA xs).size = 2 * xs.length := by simp [parA]
theorem parA_at (xs : List (Int × Bool)) {j : Nat} (h : j < 2 * xs.length) : (parA xs)[j]? = some (pc xs j) := by simp [parA, h]
theorem pc_even (xs : List (Int × Bool)) (i : Nat) : pc xs (2 * i) = .int .i64 (px xs i).1 := by
  unfold pc; rw [if_pos (by omega), show 2 * i / 2 = i by omega]
theorem pc_odd (xs : List (Int × Bool)) (i : Nat) : pc xs (2 * i + 1) = .bool (px xs i).2 := by
  unfold pc; rw [if_neg (by omega), show (2 * i + 1) / 2 = i by omega]
theorem parA_set (xs : List (Int × Bool)) (i : Nat) (v : Int × Bool) (h : i < xs.length) : ((parA xs).setIfInBounds (2 * i) (.int .i64 v.1)).setIfInBounds (2 * i + 1) (.bool v.2) = parA (xs.set i v) := by
  apply Array.ext_getElem?
  intro j
  rw [Array.getElem?_setIfInBounds, Array.getElem?_setIfInBounds]
  by_cases hj : j < 2 * xs.length
  · rw [parA_at xs hj, parA_at (xs.set i v) (by simpa using hj)]
    by_cases e1 : 2 * i + 1 = j
    · subst e1
      rw [if_pos rfl, if_pos (by simp [parA_size]; omega), pc_odd, px_set xs i v h, if_pos rfl]
    · rw [if_neg e1]
      by_cases e2 : 2 * i = j
      · subst e2
        rw [if_pos rfl, if_pos (by simp [parA_size]; omega), pc_even, px_set xs i v h, if_pos rfl]
      · rw [if_neg e2]
        have hne : ¬ j / 2 = i := by omega
        simp only [pc, px_set xs i v h, if_neg hne]
  · rw [if_neg (by omega), if_neg (by omega)]
    simp [parA, hj]
theorem parA_set0 (xs : List (Int × Bool)) (i : Nat) (x : Int) (h : i < xs.length) : (parA xs).setIfInBounds (2 * i) (.int .i64 x) = parA (xs.set i (x, (px xs i).2)) := by
  have := parA_set xs i (x, (px xs i).2) h
  rw [← this]
  apply Array.ext_getElem?
  intro j
  rw [Array.getElem?_setIfInBounds (i := 2 * i + 1)]
  by_cases e : 2 * i + 1 = j
  · subst e
    rw [if_pos rfl, if_pos (by simp [parA_size]; omega), Array.getElem?_setIfInBounds, if_neg (by omega), parA_at xs (by omega), pc_odd]
  · rw [if_neg e]
/-- A row of parcels in a block of its own. -/
def PRo (g : Nat) (xs : List (Int × Bool)) (w : World) : Prop := w.heap[g]? = some (.cells (parA xs) 120 (0, 0))
theorem PRo.lt {g : Nat} {xs : List (Int × Bool)} {w : World} (h : PRo g xs w) : g < w.heap.size := lt_of_block h
theorem PRo.kept {M : Nat → Prop} {g : Nat} {xs : List (Int × Bool)} {w w' : World} (h : PRo g xs w) (k : Kept M w w') (hn : ¬ M g) : PRo g xs w' := k.heap h hn
theorem PRo.c0 {g : Nat} {xs : List (Int × Bool)} {w : World} (h : PRo g xs w) {i : Nat} (hi : i < xs.length) : w.cell? ⟨g, 2 * i, none⟩ = some (.int .i64 (px xs i).1) := by
  rw [cells_of h, parA_at xs (by omega), pc_even]
theorem PRo.c1 {g : Nat} {xs : List (Int × Bool)} {w : World} (h : PRo g xs w) {i : Nat} (hi : i < xs.length) : w.cell? ⟨g, 2 * i + 1, none⟩ = some (.bool (px xs i).2) := by
  rw [cells_of h, parA_at xs (by omega), pc_odd]
theorem PRo.free {g : Nat} {xs : List (Int × Bool)} {w : World} (h : PRo g xs w) (i : Nat) : w.frozen? ⟨g, i, none⟩ = false := free_of h i
theorem PRo.set {g : Nat} {xs : List (Int × Bool)} {w : World} (h : PRo g xs w) {i : Nat} (hi : i < xs.length) (v : Int × Bool) : PRo g (xs.set i v) ((w.setCell ⟨g, 2 * i, none⟩ (.int .i64 v.1)).setCell ⟨g, 2 * i + 1, none⟩ (.bool v.2)) := by
  unfold PRo at h ⊢
  rw [set_of (set_of h (2 * i) _), parA_set xs i v hi]
theorem PRo.set0 {g : Nat} {xs : List (Int × Bool)} {w : World} (h : PRo g xs w) {i : Nat} (hi : i < xs.length) (x : Int) : PRo g (xs.set i (x, (px xs i).2)) (w.setCell ⟨g, 2 * i, none⟩ (.int .i64 x)) := by
  unfold PRo at h ⊢
  rw [set_of h (2 * i) _, parA_set0 xs i x hi]
theorem PRo.range {g : Nat} {xs : List (Int × Bool)} {w : World} (h : PRo g xs w) {i : Nat} (hi : i < xs.length) : w.rangeAt g (2 * i) [.int .i64 (px xs i).1, .bool (px xs i).2] := by
  intro j v hv
  match j, hv with
  | 0, hv => simp at hv; subst hv; exact h.c0 hi
  | 1, hv => simp at hv; subst hv; exact h.c1 hi
/-- The parcels xs where a slice leads. -/
def Par (lo hi : Nat) (w : World) (a : Option Addr) (xs : List (Int × Bool)) : Prop :=
  xs.length = 0 ∨ ∃ b s ys, lo ≤ b ∧ b < hi ∧ PRo b ys w ∧ a = some ⟨b, 2 * s, none⟩ ∧ s + xs.length ≤ ys.length ∧ ∀ i, i < xs.length → px ys (s + i) = px xs i
theorem Par.kept {lo hi : Nat} {M : Nat → Prop} {w w' : World} {a : Option Addr} {xs : List (Int × Bool)} (h : Par lo hi w a xs) (k : Kept M w w') (hn : ∀ b, lo ≤ b → b < hi → ¬ M b) : Par lo hi w' a xs := by
  rcases h with h | ⟨b, s, ys, h1, h2, h3, r⟩
  · exact .inl h
  · exact .inr ⟨b, s, ys, h1, h2, h3.kept k (hn b h1 h2), r⟩
theorem Par.of_ro {g lo hi : Nat} {xs : List (Int × Bool)} {w : World} (h : PRo g xs w) (h1 : lo ≤ g) (h2 : g < hi) : Par lo hi w (some ⟨g, 0, none⟩) xs :=
  .inr ⟨g, 0, xs, h1, h2, h, rfl, by omega, fun i _ => by rw [Nat.zero_add]⟩
theorem Par.wide {lo hi lo' hi' : Nat} {w : World} {a : Option Addr} {xs : List (Int × Bool)} (h : Par lo hi w a xs) (h1 : lo' ≤ lo) (h2 : hi ≤ hi') : Par lo' hi' w a xs := by
  rcases h with h | ⟨b, s, ys, k1, k2, r⟩
  · exact .inl h
  · exact .inr ⟨b, s, ys, by omega, by omega, r⟩
/-- A row that is filled place by place. -/
def filP (ys : List (Int × Bool)) (i : Nat) : List (Int × Bool) := (List.range ys.length).map fun j => if j < i then px ys j else (0, false)
theorem filP_length (ys : List (Int × Bool)) (i : Nat) : (filP ys i).length = ys.length := by simp [filP]
theorem filP_zero (ys : List (Int × Bool)) : filP ys 0 = List.replicate ys.length (0, false) := by
  apply List.ext_getElem?
  intro k
  by_cases h : k < ys.length
  · simp [filP, h]
  · simp [filP, h]
theorem filP_all (ys : List (Int × Bool)) : filP ys ys.length = ys := by
  apply List.ext_getElem?
  intro k
  by_cases h : k < ys.length
  · simp [filP, h, px_in h]
  · simp [filP, h]
theorem filP_set (ys : List (Int × Bool)) (i : Nat) (h : i < ys.length) : (filP ys i).set i (px ys i) = filP ys (i + 1) := by
  apply List.ext_getElem?
  intro k
  rw [List.getElem?_set, filP_length]
  by_cases e : i = k
  · subst e
    simp [filP, h]
  · rw [if_neg e]
    by_cases hk : k < ys.length
    · have : k < i ↔ k < i + 1 := by omega
      simp [filP, hk, this]
    · simp [filP, hk]
theorem Tryd.infoPar : (Tryd.prog.info? 120).map (fun i => (i.zero, i.size, i.bytes)) = some (some (.agg #[.int .i64 0, .bool false]), 2, 16) := by kernel_rfl
theorem parA_zero (n : Nat) : madeCells (Value.agg #[.int .i64 0, .bool false]).cells (n * 2) = parA (List.replicate n (0, false)) := by
  apply Array.ext_getElem?
  intro j
  by_cases h : j < 2 * n
  · rw [parA_at _ (by simpa using h)]
    have hp : px (List.replicate n ((0 : Int), false)) (j / 2) = (0, false) := by
      rw [px_in (by simp; omega)]; simp
    unfold pc
    rw [hp]
    have hj : j < n * 2 := by omega
    by_cases e : j % 2 = 0
    · simp [madeCells, Value.cells, hj, e]
    · have e1 : j % 2 = 1 := by omega
      simp [madeCells, Value.cells, hj, e1]
  · have hj : ¬ j < n * 2 := by omega
    rw [Array.getElem?_eq_none (by rw [size_madeCells]; omega), Array.getElem?_eq_none (by rw [parA_size]; simp; omega)]
theorem made_pars (n : Nat) (i : TypeInfo) (hi : Tryd.prog.info? 120 = some i) (hz : i.zero = some (.agg #[.int .i64 0, .bool false])) (hs : i.size = 2) (hb : i.bytes = 16) (hn : n ≤ 100000000) (W : World) :
    (Instr.makeSlice 118 (.int .i64 (n : Int)) (.int .i64 (n : Int))).run Tryd.prog W = .ok (.slice (some ⟨W.heap.size, 0, none⟩) n n) (W.alloc (.cells (parA (List.replicate n (0, false))) 120)) := by
  have := run_make (P := Tryd.prog) W 118 120 i (.agg #[.int .i64 0, .bool false]) Tryd.underlying118 hi hz .i64 .i64 n n (by omega) (by omega) (by rw [hb]; omega) (by omega)
  rw [this, hs, Int.toNat_natCast, parA_zero]
end Go.Proofs.YtlakgbckopjelaaDoor.L

/- Parcels taken together two by two. -/
namespace Go.Proofs.YtlakgbckopjelaaDoor.L
set_option maxRecDepth 100000
open Go Go.RowKit

def prsP (xs : List (Int × Bool)) : List (Int × Bool) := (List.range (xs.length / 2)).map fun i => ((px xs (2 * i)).1 + (px xs (2 * i + 1)).1, true)
theorem prsP_length (xs : List (Int × Bool)) : (prsP xs).length = xs.length / 2 := by simp [prsP]
theorem prsP_at (xs : List (Int × Bool)) {i : Nat} (h : i < xs.length / 2) : px (prsP xs) i = ((px xs (2 * i)).1 + (px xs (2 * i + 1)).1, true) := by
  rw [px_in (by rw [prsP_length]; exact h)]; simp [prsP]
/-- No parcel is too great. -/
def Small (xs : List (Int × Bool)) (W : Int) : Prop := ∀ i, i < xs.length → 0 ≤ (px xs i).1 ∧ (px xs i).1 ≤ W

set_option maxHeartbeats 1000000 in
set_option maxRecDepth 100000 in
theorem pack_c (lo hi : Nat) (a : Option Addr) (cap : Nat) (xs : List (Int × Bool)) (w : World) (hn : xs.length ≤ 100000) (hs : Small xs 1152921504606846976) (hhi : hi ≤ w.heap.size) (hP : Par lo hi w a xs) :
    Calls Tryd.prog 75 #[.slice a xs.length cap] w fun e w' => e = .returned (.slice (some ⟨w.heap.size, 0, none⟩) (xs.length / 2) (xs.length / 2)) ∧ PRo w.heap.size (prsP xs) w' ∧ Below w.heap.size w w' := by
  obtain ⟨i0, hi0, hz0, hz1', hz2'⟩ := info_parts Tryd.infoPar
  have hmk := made_pars (xs.length / 2) i0 hi0 hz0 hz1' hz2' (by omega)
  obtain ⟨N, hN⟩ : ∃ N, xs.length / 2 = N := ⟨_, rfl⟩
  have HN := hide hN
  have hN' : (xs.length : Int) / 2 = (N : Int) := by omega
  have hN1 : 2 * N ≤ xs.length := by omega
  rw [hN] at hmk ⊢
  clear hN
  have HP := hide hP
  have HS := hide hs
  clear hP hs
  go_enter Tryd.func75, Tryd.ntmps75
  go_wp2_with fail
  go_loopg [11] N (fun gk v11 wx => ∃ i : Nat, i + gk = N ∧ v11 = .int .i64 i ∧ Hid (PRo w.heap.size (filP (prsP xs) i) wx ∧ Below w.heap.size w wx))
  case atStart =>
    refine ⟨0, by omega, rfl, ?_, (Below.refl _ w).alloc (Nat.le_refl _) _⟩
    rw [filP_zero, prsP_length, HN.out]
    exact heap_new w _
  case round =>
    obtain ⟨i, hig, rfl, HI⟩ := hrel
    cases gk with
    | zero =>
      obtain rfl : i = N := by omega
      go_wp2_with fail
      go_ret
      have := HI.out
      rw [← HN.out, ← prsP_length, filP_all] at this
      exact ⟨rfl, this⟩
    | succ gk =>
      obtain ⟨b, s, ys, hb1, hb2, hro, rfl, hle, hpx⟩ := HP.out.resolve_left (by omega)
      have hrw : PRo b ys wr := hro.kept (Kept.of_below HI.out.2) (by omega)
      have hlt : (i : Int) < (N : Int) := by omega
      have e1 := hpx (2 * i) (by omega)
      have e2 := hpx (2 * i + 1) (by omega)
      have cx := hrw.c0 (i := s + 2 * i) (by omega)
      have cy := hrw.c0 (i := s + (2 * i + 1)) (by omega)
      rw [e1] at cx
      rw [e2] at cy
      have hx0 : (0 : Int) ≤ 2 * (i : Int) + 1 := by omega
      have hx1 : 2 * (i : Int) + 1 < (xs.length : Int) := by omega
      have hx2 : (2 * (i : Int) + 1).toNat = 2 * i + 1 := by omega
      have hx3 : (0 : Int) ≤ 2 * (i : Int) := by omega
      have hx4 : 2 * (i : Int) < (xs.length : Int) := by omega
      have hx5 : (2 * (i : Int)).toNat = 2 * i := by omega
      have bX := HS.out (2 * i) (by omega)
      have bY := HS.out (2 * i + 1) (by omega)
      have hset := HI.out.1.set (i := i) (by rw [filP_length, prsP_length, HN.out]; omega) (px (prsP xs) i)
      rw [filP_set _ i (by rw [prsP_length, HN.out]; omega), prsP_at xs (by rw [HN.out]; omega)] at hset
      have HSET := hide hset
      have t0 := HI.out.1.c0 (i := i) (by rw [filP_length, prsP_length, HN.out]; omega)
      have t1 := HI.out.1.c1 (i := i) (by rw [filP_length, prsP_length, HN.out]; omega)
      have f0 := HI.out.1.free (2 * i)
      have f1 := HI.out.1.free (2 * i + 1)
      rw [show 2 * (s + 2 * i) = 2 * s + 2 * i * 2 by omega] at cx
      rw [show 2 * (s + (2 * i + 1)) = 2 * s + (2 * i + 1) * 2 by omega] at cy
      rw [show 2 * i = i * 2 by omega] at t0 t1 f0 f1
      clear hset hpx e1 e2
      generalize (px xs (2 * i)).1 = X at cx bX HSET
      generalize (px xs (2 * i + 1)).1 = Y at cy bY HSET
      generalize (px (filP (prsP xs) i) i).1 = T0 at t0
      generalize (px (filP (prsP xs) i) i).2 = T1 at t1
      go_wp2_with fail
      go_region
      go_wp2_with fail
      go_roundg gk
      case measure => omega
      case rel =>
        have hs := HSET.out
        rw [show 2 * i = i * 2 by omega] at hs
        exact ⟨i + 1, by omega, by go_num, hs, ((HI.out.2.setCell (Nat.le_refl _) _).setCell (Nat.le_refl _) _).drew⟩
end Go.Proofs.YtlakgbckopjelaaDoor.L

/- copy of elements of two cells: the library's laws on copy, said of two cells an element. -/
namespace Go.Proofs.YtlakgbckopjelaaDoor.L
set_option maxRecDepth 100000
open Go Go.RowKit

theorem run_copy_row2 (P : Program) (w : World) (dT sT ty elem : TypeId) (g o dLen dCap : Nat) (a : Addr) (sLen sCap : Nat) (cur : Array Value) (t : TypeId) (cs : List Value)
    (hu : P.underlying dT = some (.slice elem)) (hs : (P.info? elem).map (·.size) = some 2)
    (hg : w.heap[g]? = some (.cells cur t (0, 0))) (hn : cs.length = Nat.min sLen dLen * 2)
    (hsrc : ∀ j v, cs[j]? = some v → w.cell? (a.add j) = some v) (hfit : o + cs.length ≤ cur.size) (h1 : ∀ v ∈ cs, v.oneCell' = true) :
    (Builtin.copy_ #[dT, sT] ty #[.slice (some ⟨g, o, none⟩) dLen dCap, .slice (some a) sLen sCap]).run P w =
      .ok (goInt (Nat.min sLen dLen)) (w.setRow g (cur.toList.take o ++ cs ++ cur.toList.drop (o + cs.length)).toArray) := by
  have hl := run_loadCells_list (P := P) w a cs hsrc
  have hst := run_storeCells_at P g o t cs 0 cur w hg (by simpa using hfit) h1
  cases hq : P.info? elem with
  | none => simp [hq] at hs
  | some i =>
    have hi : i.size = 2 := by simpa [hq] using hs
    simp [Builtin.copy_, run_underlying hu, Builtin.lenOf, Builtin.firstCells, sizeOf, typeInfo, hq, hi, ← hn, hl, hst]
theorem run_copy_none2 (P : Program) (w : World) (dT sT ty elem : TypeId) (d a : Option Addr) (dLen dCap sLen sCap : Nat) (hu : P.underlying dT = some (.slice elem)) (hs : (P.info? elem).map (·.size) = some 2) (hn : Nat.min sLen dLen = 0) :
    (Builtin.copy_ #[dT, sT] ty #[.slice d dLen dCap, .slice a sLen sCap]).run P w = .ok (goInt 0) w := by
  cases hq : P.info? elem with
  | none => simp [hq] at hs
  | some i =>
    have hl : ∀ (x : Addr), (loadCells x 0).run P w = .ok #[] w := fun x => by simpa using run_loadCells_list (P := P) w x [] (by simp)
    cases d <;> cases a <;> simp [Builtin.copy_, run_underlying hu, Builtin.lenOf, Builtin.firstCells, sizeOf, typeInfo, hq, hn, storeCells, hl]
theorem kept_setRow (w : World) (g : Nat) (c : Array Value) : Kept (fun i => i = g) w (w.setRow g c) :=
  ⟨rfl, rfl, rfl, by simp [World.setRow], fun k _ hn => setRow_other w g k c hn⟩

/-- What a copy of parcels makes of a row that is being filled. -/
def CpOk (g : Nat) (zs : List (Int × Bool)) (n : Nat) (w w' : World) : Prop := PRo g (filP zs n) w' ∧ Kept (fun i => i = g) w w'

theorem filP_at (zs : List (Int × Bool)) (n : Nat) {i : Nat} (h : i < zs.length) : px (filP zs n) i = if i < n then px zs i else (0, false) := by
  rw [px_in (by rw [filP_length]; exact h)]; simp [filP]
/-- The cells of parcels s to s + n of a row. -/
def cellsOf (xs : List (Int × Bool)) (s n : Nat) : List Value := (List.range (n * 2)).map fun j => pc xs (2 * s + j)
theorem cellsOf_length (xs : List (Int × Bool)) (s n : Nat) : (cellsOf xs s n).length = n * 2 := by simp [cellsOf]
theorem splice_par (zs ys : List (Int × Bool)) (m s n : Nat) (hm : m + n ≤ zs.length) (h : ∀ i, i < n → px zs (m + i) = px ys (s + i)) :
    ((parA (filP zs m)).toList.take (2 * m) ++ cellsOf ys s n ++ (parA (filP zs m)).toList.drop (2 * m + (cellsOf ys s n).length)).toArray = parA (filP zs (m + n)) := by
  have hsz : (parA (filP zs m)).toList.length = 2 * zs.length := by rw [Array.length_toList, parA_size, filP_length]
  apply Array.ext_getElem?
  intro j
  rw [List.getElem?_toArray, cellsOf_length]
  have at1 : ∀ j, (parA (filP zs m)).toList[j]? = if j < 2 * zs.length then some (pc (filP zs m) j) else none := by
    intro j
    rw [Array.getElem?_toList]
    by_cases hj : j < 2 * zs.length
    · rw [parA_at _ (by rw [filP_length]; exact hj), if_pos hj]
    · rw [if_neg hj, Array.getElem?_eq_none (by rw [parA_size, filP_length]; omega)]
  by_cases hj : j < 2 * zs.length
  · rw [parA_at _ (by rw [filP_length]; exact hj)]
    by_cases c1 : j < 2 * m
    · rw [List.append_assoc, List.getElem?_append_left (by rw [List.length_take, hsz]; omega), List.getElem?_take, if_pos c1, at1, if_pos hj]
      have e1 : j / 2 < m := by omega
      unfold pc
      rw [filP_at zs m (by omega), filP_at zs (m + n) (by omega), if_pos e1, if_pos (show j / 2 < m + n by omega)]
    · by_cases c2 : j < 2 * m + n * 2
      · rw [List.append_assoc, List.getElem?_append_right (by rw [List.length_take, hsz]; omega), List.length_take, hsz, show min (2 * m) (2 * zs.length) = 2 * m by omega, List.getElem?_append_left (by rw [cellsOf_length]; omega)]
        have e0 : j - 2 * m < n * 2 := by omega
        have e1 : (2 * s + (j - 2 * m)) / 2 = s + (j / 2 - m) := by omega
        have e2 : (2 * s + (j - 2 * m)) % 2 = j % 2 := by omega
        have e3 := h (j / 2 - m) (by omega)
        rw [show m + (j / 2 - m) = j / 2 by omega] at e3
        simp only [cellsOf, List.getElem?_map, List.getElem?_range e0, Option.map_some]
        unfold pc
        rw [filP_at zs (m + n) (by omega), if_pos (show j / 2 < m + n by omega), e1, e2, ← e3]
      · rw [List.getElem?_append_right (by rw [List.length_append, List.length_take, hsz, cellsOf_length]; omega), List.length_append, List.length_take, hsz, cellsOf_length, List.getElem?_drop, show 2 * m + n * 2 + (j - (min (2 * m) (2 * zs.length) + n * 2)) = j by omega, at1, if_pos hj]
        unfold pc
        rw [filP_at zs m (by omega), filP_at zs (m + n) (by omega), if_neg (show ¬ j / 2 < m by omega), if_neg (show ¬ j / 2 < m + n by omega)]
  · rw [Array.getElem?_eq_none (by rw [parA_size, filP_length]; omega), List.getElem?_eq_none]
    simp only [List.length_append, List.length_take, List.length_drop, hsz, cellsOf_length]
    omega
/-- A run of copy from one row of parcels into another. -/
theorem copy_run (ty : TypeId) (g : Nat) (zs : List (Int × Bool)) (m dLen dCap : Nat) (dp : Option Addr) (sp : Option Addr) (sLen sCap : Nat) (w : World) (xs : List (Int × Bool)) (lo hi : Nat) (hx : Par lo hi w sp xs) (hl : xs.length = Nat.min sLen dLen)
    (hd : 0 < xs.length → dp = some ⟨g, m * 2, none⟩) (hz : PRo g (filP zs m) w) (hm : m + xs.length ≤ zs.length) (h : ∀ i, i < xs.length → px zs (m + i) = px xs i) :
    ∃ w', (Builtin.copy_ #[118, 118] ty #[.slice dp dLen dCap, .slice sp sLen sCap]).run Tryd.prog w = .ok (goInt xs.length) w' ∧ CpOk g zs (m + xs.length) w w' := by
  have hsz : (Tryd.prog.info? 120).map (·.size) = some 2 := by
    obtain ⟨i0, hi0, _, hz1, _⟩ := info_parts Tryd.infoPar
    rw [hi0]; simp [hz1]
  by_cases h0 : xs.length = 0
  · refine ⟨w, ?_, ?_, Kept.refl _ _⟩
    · rw [h0]; exact run_copy_none2 Tryd.prog w 118 118 ty 120 dp sp dLen dCap sLen sCap Tryd.underlying118 hsz (by rw [← hl]; exact h0)
    · rw [h0, Nat.add_zero]; exact hz
  · obtain ⟨b, s, ys, b1, b2, hro, rfl, hle, hpx⟩ := hx.resolve_left h0
    rw [hd (by omega)]
    have hrun := run_copy_row2 Tryd.prog w 118 118 ty 120 g (m * 2) dLen dCap ⟨b, 2 * s, none⟩ sLen sCap (parA (filP zs m)) 120 (cellsOf ys s xs.length) Tryd.underlying118 hsz hz (by rw [cellsOf_length, hl])
      (by
        intro j v hv
        have hj : j < xs.length * 2 := by
          rcases Nat.lt_or_ge j (xs.length * 2) with h' | h'
          · exact h'
          · rw [List.getElem?_eq_none (by rw [cellsOf_length]; exact h')] at hv; simp at hv
        have e : ((⟨b, 2 * s, none⟩ : Addr).add j) = ⟨b, 2 * s + j, none⟩ := by unfold Addr.add; split <;> simp_all
        rw [e, cells_of hro, parA_at ys (by omega)]
        simp only [cellsOf, List.getElem?_map, List.getElem?_range hj, Option.map_some] at hv
        exact hv)
      (by rw [cellsOf_length, parA_size, filP_length]; omega)
      (by
        intro v hv
        obtain ⟨j, _, rfl⟩ := List.mem_map.1 hv
        unfold pc; split <;> rfl)
    have e := splice_par zs ys m s xs.length hm (fun i hi => by rw [h i hi, hpx i hi])
    rw [Nat.mul_comm 2 m] at e
    rw [e, ← hl] at hrun
    exact ⟨w.setRow g (parA (filP zs (m + xs.length))), hrun, setRow_heap w g _ _ 120 _ hz, kept_setRow _ _ _⟩
#print axioms copy_run
end Go.Proofs.YtlakgbckopjelaaDoor.L
