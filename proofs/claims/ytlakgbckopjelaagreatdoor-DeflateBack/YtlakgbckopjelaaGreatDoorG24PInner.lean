/- Several texts, laid together: PMake, PFixed, PHead, PInner. -/
import Derived.Test.YtlakgbckopjelaaGreatDoorG22PBack
import Derived.Test.YtlakgbckopjelaaGreatDoorG07MMath
import Derived.Test.YtlakgbckopjelaaGreatDoorG23PData
/- fixedSymbols, fixedBacks, makeCodes: contracts. -/
namespace Go.Proofs.YtlakgbckopjelaaGreatDoor
set_option maxRecDepth 100000
open Go Go.RowKit

/-- A row filled up to k. -/
def fl (L : List Int) (k : Nat) : List Int := L.take k ++ List.replicate (L.length - k) 0
theorem fl_length (L : List Int) {k : Nat} (h : k ≤ L.length) : (fl L k).length = L.length := by unfold fl; simp; omega
theorem fl_zero (L : List Int) : fl L 0 = List.replicate L.length 0 := by simp [fl]
theorem fl_all (L : List Int) : fl L L.length = L := by simp [fl]
theorem fl_at (L : List Int) {k : Nat} (h : k < L.length) : (valA (fl L k))[k]? = some (.int .i64 0) := by
  rw [valA_at _ (by rw [fl_length L (by omega)]; exact h)]
  congr 2
  unfold ln fl List.getD
  rw [List.getElem?_append_right (by simp; omega), List.getElem?_replicate, if_pos (by simp; omega)]
  rfl
theorem fl_set (L : List Int) {k : Nat} (h : k < L.length) {x : Int} (hx : ln L k = x) : (valA (fl L k)).setIfInBounds k (.int .i64 x) = valA (fl L (k + 1)) := by
  subst hx
  rw [← Array.toList_inj]
  simp only [valA, Array.toList_setIfInBounds]
  apply List.ext_getElem?
  intro i
  have hl : ln L k = L[k] := by simp [ln, List.getD, h]
  rcases Nat.lt_trichotomy i k with hi | hi | hi
  · rw [List.getElem?_set_ne (by omega)]
    simp only [fl, List.getElem?_map]
    rw [List.getElem?_append_left (by simp; omega), List.getElem?_append_left (by simp; omega), List.getElem?_take_of_lt hi, List.getElem?_take_of_lt (by omega)]
  · subst hi
    rw [List.getElem?_set_self (by simp [fl]; omega)]
    simp only [fl, List.getElem?_map]
    rw [List.getElem?_append_left (by simp; omega), List.getElem?_take_of_lt (by omega), List.getElem?_eq_getElem h, hl]
    rfl
  · rw [List.getElem?_set_ne (by omega)]
    simp only [fl, List.getElem?_map]
    rw [List.getElem?_append_right (by simp; omega), List.getElem?_append_right (by simp; omega), List.getElem?_replicate, List.getElem?_replicate]
    simp only [List.length_take]
    congr 1
    by_cases h1 : i < L.length
    · rw [if_pos (by omega), if_pos (by omega)]
    · rw [if_neg (by omega), if_neg (by omega)]

theorem iFive_ln {k : Nat} (h : k < 32) : ln iFive k = 5 := by
  unfold ln iFive List.getD
  rw [List.getElem?_replicate, if_pos h]
  rfl
theorem iFix_ln {k : Nat} (h : k < 288) : ln iFix k = if k < 144 then 8 else if k < 256 then 9 else if k < 280 then 7 else 8 := by
  unfold ln iFix List.getD
  simp only [List.getElem?_append, List.length_append, List.length_replicate, List.getElem?_replicate]
  rcases (show k < 144 ∨ (144 ≤ k ∧ k < 256) ∨ (256 ≤ k ∧ k < 280) ∨ (280 ≤ k ∧ k < 288) by omega) with h1 | h1 | h1 | h1
  all_goals
    repeat (first | rw [if_pos (by omega)] | rw [if_neg (by omega)])
    try rfl
theorem iFix_length : iFix.length = 288 := by unfold iFix; simp only [List.length_append, List.length_replicate]
theorem iFive_length : iFive.length = 32 := by unfold iFive; simp only [List.length_replicate]
theorem iFix_check : check iFix true = 0 := by decide +kernel
theorem iFive_check : check iFive true = 0 := by decide +kernel

/-- A row of numbers, new. -/
def NewRow (w : World) (L : List Int) (e : Ending) (w' : World) : Prop := e = .returned (.slice (some ⟨w.heap.size, 0, none⟩) L.length L.length) ∧ w'.heap[w.heap.size]? = some (.cells (valA L) 3 (0, 0)) ∧ Below w.heap.size w w'

theorem CodeAt.wide {lo hi lo' hi' : Nat} {w : World} {bc gl gc : Nat} {vo : Value} {N : Nat} {ls : List Int} (h : CodeAt lo hi w bc gl gc vo N ls) (h1 : lo' ≤ lo) (h2 : hi ≤ hi') : CodeAt lo' hi' w bc gl gc vo N ls := by
  have a := h.inb; have b := h.inl; have c := h.inc
  exact ⟨h.block, h.lens, h.codes, h.ord.low h1, fun g hg => by have := h.ordlt g hg; omega, h.long, by omega, by omega, by omega⟩
end Go.Proofs.YtlakgbckopjelaaGreatDoor

/- The stream's fixedBlock: contract. -/
namespace Go.Proofs.YtlakgbckopjelaaGreatDoor
set_option maxRecDepth 100000
open Go Go.RowKit

theorem ints_at {w : World} {g : Nat} {L : List Int} {t : TypeId} {fr : Nat × Nat} (h : w.heap[g]? = some (.cells (valA L) t fr)) : Ints g (g + 1) w (some ⟨g, 0, none⟩) L :=
  .inr ⟨g, 0, by omega, by omega, lt_of_block h, rfl, fun i hi => by
    rw [Nat.zero_add]
    have : w.cell? ⟨g, i, none⟩ = (valA L)[i]? := by simp [World.cell?, h]
    rw [this]; exact valA_at L hi⟩
section
variable {B bs br : Nat} {a : Option Addr} {len cap : Nat} {zs : List Int} {m : Nat} {w w' : World} {p : Nat} {o : Option Addr} {oc : Nat} {fc : Value} {out : List Int}
theorem iFix_good : Good iFix := check_good iFix_check
theorem iFive_good : Good iFive := check_good iFive_check

end
end Go.Proofs.YtlakgbckopjelaaGreatDoor

/- What a dynamic block says of its codes, in parts; the stream's counts: contract. -/
namespace Go.Proofs.YtlakgbckopjelaaGreatDoor
set_option maxRecDepth 100000
open Go Go.RowKit

def iCnt (b : Nat → Nat) (T p : Nat) : Except Int (Nat × (Nat × Nat × Nat)) :=
  iThen (iTk b T p 5) fun q x => iThen (iTk b T q 5) fun q y => iThen (iTk b T q 4) fun q z => if 286 < x + 257 ∨ 30 < y + 1 then .error 63 else .ok (q, (x, y, z))
def iInn (b : Nat → Nat) (T p z : Nat) : Except Int (Nat × List Int) := iThen (iRd3 b T (z + 4) p 0 (List.replicate 19 0)) fun q first => if ¬ check first false = 0 then .error 63 else .ok (q, first)
noncomputable def iAll (first : List Int) (many : Nat) (b : Nat → Nat) (T p : Nat) : Except Int (Nat × List Int) := iLoop T (iLen first many b T) p []
theorem iHdr_eq (b : Nat → Nat) (T p : Nat) : iHdr b T p = iThen (iCnt b T p) fun q c => iThen (iInn b T q c.2.2) fun q first => iThen (iAll first (c.1 + 258 + c.2.1) b T q) fun q all =>
    if ln all 256 = 0 ∨ ¬ check (all.take (c.1 + 257)) true = 0 ∨ ¬ check (all.drop (c.1 + 257)) true = 0 then .error 63 else .ok (q, (all.take (c.1 + 257), all.drop (c.1 + 257))) := by
  unfold iHdr iCnt iInn iAll
  cases iTk b T p 5 with
  | error e => rfl
  | ok x =>
    obtain ⟨q, x⟩ := x
    simp only [iThen]
    cases iTk b T q 5 with
    | error e => rfl
    | ok y =>
      obtain ⟨q, y⟩ := y
      simp only
      cases iTk b T q 4 with
      | error e => rfl
      | ok z =>
        obtain ⟨q, z⟩ := z
        simp only
        by_cases hc : 286 < x + 257 ∨ 30 < y + 1
        · rw [if_pos hc, if_pos hc]
        · rw [if_neg hc, if_neg hc]
          simp only
          cases iRd3 b T (z + 4) q 0 (List.replicate 19 0) with
          | error e => rfl
          | ok f =>
            obtain ⟨q, f⟩ := f
            simp only
            by_cases hk : ¬ check f false = 0
            · rw [if_pos hk, if_pos hk]
            · rw [if_neg hk, if_neg hk]
theorem iCnt_got {b : Nat → Nat} (hb : ∀ i, b i ≤ 1) {T p q : Nat} {c : Nat × Nat × Nat} (h : iCnt b T p = .ok (q, c)) : c.1 ≤ 29 ∧ c.2.1 ≤ 29 ∧ c.2.2 ≤ 15 := by
  unfold iCnt at h
  obtain ⟨q1, x, -, h⟩ := iThen_ok h
  obtain ⟨q2, y, -, h⟩ := iThen_ok h
  obtain ⟨q3, z, hz, h⟩ := iThen_ok h
  have := iTk_lt hb hz
  split at h
  · cases h
  · cases h
    show x ≤ 29 ∧ y ≤ 29 ∧ z ≤ 15
    omega

section
variable {B bs br : Nat} {a : Option Addr} {len cap : Nat} {zs : List Int} {m : Nat} {w w' : World} {p : Nat} {o : Option Addr} {oc : Nat} {fc : Value} {out : List Int}
def CBad (br : Nat) (w : World) (e : Int) (x : Ending) (w' : World) : Prop := x = .returned (.tuple #[.int .i64 0, .int .i64 0, .int .i64 0, .int .i64 e]) ∧ Kept (fun b => b = br) w w' ∧ 60 ≤ e ∧ e ≤ 65
end
end Go.Proofs.YtlakgbckopjelaaGreatDoor

/- The stream's innerCode: contract. -/
namespace Go.Proofs.YtlakgbckopjelaaGreatDoor
set_option maxRecDepth 100000
open Go Go.RowKit

/-- The order of lengths lies in its variable. -/
def Tab (w : World) : Prop := ∀ i, i < 19 → w.cell? ⟨0, i, none⟩ = some (.int .i64 ((iOrd.getD i 0 : Nat) : Int))
theorem Tab.kept {M : Nat → Prop} {w w' : World} (h : Tab w) (k : Kept M w w') (h0 : ¬ M 0) : Tab w' := fun i hi => (k.cell (p := ⟨0, i, none⟩) (lt_of_cell (h i hi)) h0).trans (h i hi)
theorem Tab.below {B : Nat} {w w' : World} (h : Tab w) (k : Below B w w') (h0 : 0 < B) : Tab w' := h.kept (Kept.of_below k) (by omega)
theorem iOrd_lt : ∀ i, i < 19 → iOrd.getD i 0 < 19 := by decide
theorem valA_set (L : List Int) (i : Nat) (x : Int) : (valA L).setIfInBounds i (.int .i64 x) = valA (L.set i x) := by
  rw [← Array.toList_inj]
  simp [valA, List.map_set]
theorem zero19 : ∀ w, (zeroValue 153).run Tryz.prog w = .ok (.agg (valA (List.replicate 19 0))) w := by intro w; rfl

section
variable {B bs br : Nat} {a : Option Addr} {len cap : Nat} {zs : List Int} {m : Nat} {w w' : World} {p : Nat} {o : Option Addr} {oc : Nat} {fc : Value} {out : List Int}
/-- A code, wherever its parts lie. -/
def CodeX (lo hi : Nat) (w : World) (bc : Nat) (ls : List Int) : Prop := ∃ gl gc vo N, CodeAt lo hi w bc gl gc vo N ls
def IBad (br : Nat) (w : World) (e : Int) (x : Ending) (w' : World) : Prop := x = .returned (.tuple #[.pointer none, .int .i64 e]) ∧ Kept (fun b => b = br) w w' ∧ 60 ≤ e ∧ e ≤ 65
end
end Go.Proofs.YtlakgbckopjelaaGreatDoor
