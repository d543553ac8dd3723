/- copy of elements of two cells: the library's laws on copy, said of two cells an element. -/
import Derived.Test.YtdeigchkpakdaaaLPack
import Derived.Laws.CopyOwn
namespace Go.Proofs.Ytdeigchkpakdaaa
open Go Go.RowKit

theorem run_copy_row2 (P : Program) (w : World) (dT sT ty elem : TypeId) (g o dLen dCap : Nat) (a : Addr) (sLen sCap : Nat) (cur : Array Value) (t : TypeId) (cs : List Value)
    (hu : P.underlying dT = some (.slice elem)) (hs : (P.info? elem).map (·.size) = some 2)
    (hg : w.heap[g]? = some (.cells cur t (0, 0))) (hn : cs.length = Nat.min sLen dLen * 2)
    (hsrc : ∀ j v, cs[j]? = some v → w.cell? (a.add j) = some v) (hfit : o + cs.length ≤ cur.size) (h1 : ∀ v ∈ cs, v.oneCell' = true) :
    (Builtin.copy_ #[dT, sT] ty #[.slice (some ⟨g, o, none⟩) dLen dCap, .slice (some a) sLen sCap]).run P w =
      .ok (goInt (Nat.min sLen dLen)) (w.setRow g (cur.toList.take o ++ cs ++ cur.toList.drop (o + cs.length)).toArray) := by
  have hl := run_loadCells_list (P := P) w a cs hsrc
  have hst := run_storeCells_at P g o t cs 0 cur w hg (by simpa using hfit) h1
  cases hq : P.info? elem with
  | none => simp [hq] at hs
  | some i =>
    have hi : i.size = 2 := by simpa [hq] using hs
    simp [Builtin.copy_, run_underlying hu, Builtin.lenOf, Builtin.firstCells, sizeOf, typeInfo, hq, hi, ← hn, hl, hst]
theorem run_copy_none2 (P : Program) (w : World) (dT sT ty elem : TypeId) (d a : Option Addr) (dLen dCap sLen sCap : Nat) (hu : P.underlying dT = some (.slice elem)) (hs : (P.info? elem).map (·.size) = some 2) (hn : Nat.min sLen dLen = 0) :
    (Builtin.copy_ #[dT, sT] ty #[.slice d dLen dCap, .slice a sLen sCap]).run P w = .ok (goInt 0) w := by
  cases hq : P.info? elem with
  | none => simp [hq] at hs
  | some i =>
    have hl : ∀ (x : Addr), (loadCells x 0).run P w = .ok #[] w := fun x => by simpa using run_loadCells_list (P := P) w x [] (by simp)
    cases d <;> cases a <;> simp [Builtin.copy_, run_underlying hu, Builtin.lenOf, Builtin.firstCells, sizeOf, typeInfo, hq, hn, storeCells, hl]
theorem kept_setRow (w : World) (g : Nat) (c : Array Value) : Kept (fun i => i = g) w (w.setRow g c) :=
  ⟨rfl, rfl, rfl, by simp [World.setRow], fun k _ hn => setRow_other w g k c hn⟩

/-- What a copy of parcels makes of a row that is being filled. -/
def CpOk (g : Nat) (zs : List (Int × Bool)) (n : Nat) (w w' : World) : Prop := PRo g (filP zs n) w' ∧ Kept (fun i => i = g) w w'

theorem filP_at (zs : List (Int × Bool)) (n : Nat) {i : Nat} (h : i < zs.length) : px (filP zs n) i = if i < n then px zs i else (0, false) := by
  rw [px_in (by rw [filP_length]; exact h)]; simp [filP]
/-- The cells of parcels s to s + n of a row. -/
def cellsOf (xs : List (Int × Bool)) (s n : Nat) : List Value := (List.range (n * 2)).map fun j => pc xs (2 * s + j)
theorem cellsOf_length (xs : List (Int × Bool)) (s n : Nat) : (cellsOf xs s n).length = n * 2 := by simp [cellsOf]
theorem splice_par (zs ys : List (Int × Bool)) (m s n : Nat) (hm : m + n ≤ zs.length) (h : ∀ i, i < n → px zs (m + i) = px ys (s + i)) :
    ((parA (filP zs m)).toList.take (2 * m) ++ cellsOf ys s n ++ (parA (filP zs m)).toList.drop (2 * m + (cellsOf ys s n).length)).toArray = parA (filP zs (m + n)) := by
  have hsz : (parA (filP zs m)).toList.length = 2 * zs.length := by rw [Array.length_toList, parA_size, filP_length]
  apply Array.ext_getElem?
  intro j
  rw [List.getElem?_toArray, cellsOf_length]
  have at1 : ∀ j, (parA (filP zs m)).toList[j]? = if j < 2 * zs.length then some (pc (filP zs m) j) else none := by
    intro j
    rw [Array.getElem?_toList]
    by_cases hj : j < 2 * zs.length
    · rw [parA_at _ (by rw [filP_length]; exact hj), if_pos hj]
    · rw [if_neg hj, Array.getElem?_eq_none (by rw [parA_size, filP_length]; omega)]
  by_cases hj : j < 2 * zs.length
  · rw [parA_at _ (by rw [filP_length]; exact hj)]
    by_cases c1 : j < 2 * m
    · rw [List.append_assoc, List.getElem?_append_left (by rw [List.length_take, hsz]; omega), List.getElem?_take, if_pos c1, at1, if_pos hj]
      have e1 : j / 2 < m := by omega
      unfold pc
      rw [filP_at zs m (by omega), filP_at zs (m + n) (by omega), if_pos e1, if_pos (show j / 2 < m + n by omega)]
    · by_cases c2 : j < 2 * m + n * 2
      · rw [List.append_assoc, List.getElem?_append_right (by rw [List.length_take, hsz]; omega), List.length_take, hsz, show min (2 * m) (2 * zs.length) = 2 * m by omega, List.getElem?_append_left (by rw [cellsOf_length]; omega)]
        have e0 : j - 2 * m < n * 2 := by omega
        have e1 : (2 * s + (j - 2 * m)) / 2 = s + (j / 2 - m) := by omega
        have e2 : (2 * s + (j - 2 * m)) % 2 = j % 2 := by omega
        have e3 := h (j / 2 - m) (by omega)
        rw [show m + (j / 2 - m) = j / 2 by omega] at e3
        simp only [cellsOf, List.getElem?_map, List.getElem?_range e0, Option.map_some]
        unfold pc
        rw [filP_at zs (m + n) (by omega), if_pos (show j / 2 < m + n by omega), e1, e2, ← e3]
      · rw [List.getElem?_append_right (by rw [List.length_append, List.length_take, hsz, cellsOf_length]; omega), List.length_append, List.length_take, hsz, cellsOf_length, List.getElem?_drop, show 2 * m + n * 2 + (j - (min (2 * m) (2 * zs.length) + n * 2)) = j by omega, at1, if_pos hj]
        unfold pc
        rw [filP_at zs m (by omega), filP_at zs (m + n) (by omega), if_neg (show ¬ j / 2 < m by omega), if_neg (show ¬ j / 2 < m + n by omega)]
  · rw [Array.getElem?_eq_none (by rw [parA_size, filP_length]; omega), List.getElem?_eq_none]
    simp only [List.length_append, List.length_take, List.length_drop, hsz, cellsOf_length]
    omega
/-- A run of copy from one row of parcels into another. -/
theorem copy_run (ty : TypeId) (g : Nat) (zs : List (Int × Bool)) (m dLen dCap : Nat) (dp : Option Addr) (sp : Option Addr) (sLen sCap : Nat) (w : World) (xs : List (Int × Bool)) (lo hi : Nat) (hx : Par lo hi w sp xs) (hl : xs.length = Nat.min sLen dLen)
    (hd : 0 < xs.length → dp = some ⟨g, m * 2, none⟩) (hz : PRo g (filP zs m) w) (hm : m + xs.length ≤ zs.length) (h : ∀ i, i < xs.length → px zs (m + i) = px xs i) :
    ∃ w', (Builtin.copy_ #[43, 43] ty #[.slice dp dLen dCap, .slice sp sLen sCap]).run Try.prog w = .ok (goInt xs.length) w' ∧ CpOk g zs (m + xs.length) w w' := by
  have hsz : (Try.prog.info? 45).map (·.size) = some 2 := by
    obtain ⟨i0, hi0, _, hz1, _⟩ := info_parts Try.infoPar
    rw [hi0]; simp [hz1]
  by_cases h0 : xs.length = 0
  · refine ⟨w, ?_, ?_, Kept.refl _ _⟩
    · rw [h0]; exact run_copy_none2 Try.prog w 43 43 ty 45 dp sp dLen dCap sLen sCap Try.underlying43 hsz (by rw [← hl]; exact h0)
    · rw [h0, Nat.add_zero]; exact hz
  · obtain ⟨b, s, ys, b1, b2, hro, rfl, hle, hpx⟩ := hx.resolve_left h0
    rw [hd (by omega)]
    have hrun := run_copy_row2 Try.prog w 43 43 ty 45 g (m * 2) dLen dCap ⟨b, 2 * s, none⟩ sLen sCap (parA (filP zs m)) 45 (cellsOf ys s xs.length) Try.underlying43 hsz hz (by rw [cellsOf_length, hl])
      (by
        intro j v hv
        have hj : j < xs.length * 2 := by
          rcases Nat.lt_or_ge j (xs.length * 2) with h' | h'
          · exact h'
          · rw [List.getElem?_eq_none (by rw [cellsOf_length]; exact h')] at hv; simp at hv
        have e : ((⟨b, 2 * s, none⟩ : Addr).add j) = ⟨b, 2 * s + j, none⟩ := by unfold Addr.add; split <;> simp_all
        rw [e, cells_of hro, parA_at ys (by omega)]
        simp only [cellsOf, List.getElem?_map, List.getElem?_range hj, Option.map_some] at hv
        exact hv)
      (by rw [cellsOf_length, parA_size, filP_length]; omega)
      (by
        intro v hv
        obtain ⟨j, _, rfl⟩ := List.mem_map.1 hv
        unfold pc; split <;> rfl)
    have e := splice_par zs ys m s xs.length hm (fun i hi => by rw [h i hi, hpx i hi])
    rw [Nat.mul_comm 2 m] at e
    rw [e, ← hl] at hrun
    exact ⟨w.setRow g (parA (filP zs (m + xs.length))), hrun, setRow_heap w g _ _ 45 _ hz, kept_setRow _ _ _⟩
#print axioms copy_run
end Go.Proofs.Ytdeigchkpakdaaa
