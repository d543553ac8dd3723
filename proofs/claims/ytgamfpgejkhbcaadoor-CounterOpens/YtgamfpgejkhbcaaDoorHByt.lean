/- Arrays of twenty bytes; rows that are xored byte by byte. -/
import Derived.Test.YtgamfpgejkhbcaaDoorHOwn
namespace Go.Proofs.YtgamfpgejkhbcaaDoor.S
set_option maxRecDepth 100000
open Go Go.RowKit

/-- Twenty bytes as an array's cells. -/
def bA (xs : List Nat) : Array Value := fA .u8 20 (fun i => xs.getD i 0) 20
theorem oA_bA (s : St) : oA s 20 = bA (outL s) := fA_congr .u8 20 (fun i hi => by simp [outL, hi]) 20
theorem bA_at (xs : List Nat) {i : Nat} (h : i < 20) : (bA xs)[i]? = some (.int .u8 (xs.getD i 0 : Nat)) := fA_at .u8 _ h h
theorem bA_set (xs : List Nat) {i y : Nat} (h : i < xs.length) (hl : xs.length = 20) : (bA xs).setIfInBounds i (.int .u8 (y : Int)) = bA (xs.set i y) := by
  apply Array.ext_getElem?
  intro j
  rw [Array.getElem?_setIfInBounds]
  by_cases hj : j < 20
  · rw [bA_at _ hj, bA_at _ hj, show (bA xs).size = 20 from fA_size _ _ _ _]
    by_cases e : i = j
    · subst e
      rw [if_pos rfl, if_pos (by omega)]
      simp [List.getD, h]
    · rw [if_neg e]
      simp [List.getD, e]
  · have n1 : (bA xs)[j]? = none := Array.getElem?_eq_none (by rw [show (bA xs).size = 20 from fA_size _ _ _ _]; omega)
    have n2 : (bA (xs.set i y))[j]? = none := Array.getElem?_eq_none (by rw [show (bA (xs.set i y)).size = 20 from fA_size _ _ _ _]; omega)
    rw [n1, n2, if_neg (by omega)]
theorem bA_one (xs : List Nat) : (bA xs).all (·.oneCell') = true := fA_one _ _ _ _
theorem bA_size (xs : List Nat) : (bA xs).size = 20 := fA_size _ _ _ _
theorem infoA (xs : List Nat) : (Tryd.prog.info? 55).map (·.size) = some (bA xs).size := info20 _ 20
theorem textA {w : World} {b : Nat} {xs : List Nat} (hl : xs.length = 20) (h : w.heap[b]? = some (.cells (bA xs) 55 (0, 0))) : TextAt w (some ⟨b, 0, none⟩) xs := .inr ⟨b, 0, rfl, lt_of_block h, fun i hi => by
  rw [Nat.zero_add, cells_of h, bA_at _ (by omega)]⟩
theorem set_bA {w : World} {b : Nat} {xs : List Nat} (hl : xs.length = 20) (h : w.heap[b]? = some (.cells (bA xs) 55 (0, 0))) {i : Nat} (hi : i < 20) (y : Nat) : (w.setCell ⟨b, i, none⟩ (.int .u8 (y : Int))).heap[b]? = some (.cells (bA (xs.set i y)) 55 (0, 0)) := by
  rw [set_of h, bA_set _ (by omega) hl]
/-- The first i bytes of a row xored with those of another one. -/
def mixL (ts us : List Nat) (i : Nat) : List Nat := List.zipWith (· ^^^ ·) (ts.take i) (us.take i) ++ ts.drop i
theorem mixL_length {ts us : List Nat} (h : ts.length = us.length) (i : Nat) : (mixL ts us i).length = ts.length := by simp [mixL]; omega
theorem mixL_at {ts us : List Nat} (h : ts.length = us.length) {i : Nat} (hi : i < ts.length) : (mixL ts us i).getD i 0 = ts.getD i 0 := by
  have hl : (List.zipWith (· ^^^ ·) (ts.take i) (us.take i)).length = i := by simp; omega
  simp only [mixL, List.getD]
  rw [List.getElem?_append_right (by omega), hl, Nat.sub_self, List.getElem?_drop]
  rfl
theorem mixL_set {ts us : List Nat} (h : ts.length = us.length) {i : Nat} (hi : i < ts.length) : (mixL ts us i).set i (ts.getD i 0 ^^^ us.getD i 0) = mixL ts us (i + 1) := by
  have hl : (List.zipWith (· ^^^ ·) (ts.take i) (us.take i)).length = i := by simp; omega
  have hu : i < us.length := by omega
  unfold mixL
  rw [List.set_append_right _ _ (by omega), hl, Nat.sub_self, List.drop_eq_getElem_cons hi, List.set_cons_zero, List.take_add_one, List.take_add_one, List.getElem?_eq_getElem hi, List.getElem?_eq_getElem hu]
  rw [Option.toList_some, Option.toList_some, List.zipWith_append (by simp; omega), List.append_assoc]
  simp [List.getD, hi, hu]
theorem mixL_zero (ts us : List Nat) : mixL ts us 0 = ts := by simp [mixL]
theorem mixL_end {ts us : List Nat} (h : ts.length = us.length) {n : Nat} (hn : n = ts.length) : mixL ts us n = List.zipWith (· ^^^ ·) ts us := by
  subst hn
  rw [mixL, List.take_length, h, List.take_length, ← h, List.drop_length, List.append_nil]
theorem tK_by (pw salt : List Nat) (i r : Nat) : By (tK pw salt i r) := by
  induction r with
  | zero => exact outL_by _
  | succ r ih =>
    intro x hx
    rw [tK] at hx
    obtain ⟨j, hj, rfl⟩ := List.mem_iff_getElem.1 hx
    rw [List.getElem_zipWith]
    exact xor8_lt (ih _ (List.getElem_mem _)) (outL_by _ _ (List.getElem_mem _))
theorem be4_by (i : Nat) : By (be4 i) := fun x hx => by
  simp only [be4, List.mem_cons, List.not_mem_nil, or_false] at hx
  rcases hx with rfl | rfl | rfl | rfl <;> exact Nat.mod_lt _ (by omega)
end Go.Proofs.YtgamfpgejkhbcaaDoor.S
