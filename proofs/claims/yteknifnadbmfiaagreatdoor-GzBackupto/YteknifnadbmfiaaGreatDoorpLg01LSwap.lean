/- Several texts, laid together: LPack, LCopy, LMerge, LSwap. -/
import Derived.Test.YteknifnadbmfiaaGreatDoorpLg00LPar
import Derived.Laws.CopyOwn
import Derived.Deep.DeepCutAuto
import Derived.Deep.RegionWith
/- Parcels taken together two by two. -/
namespace Go.Proofs.YteknifnadbmfiaaGreatDoor.L
set_option maxRecDepth 100000
open Go Go.RowKit

def prsP (xs : List (Int × Bool)) : List (Int × Bool) := (List.range (xs.length / 2)).map fun i => ((px xs (2 * i)).1 + (px xs (2 * i + 1)).1, true)
theorem prsP_length (xs : List (Int × Bool)) : (prsP xs).length = xs.length / 2 := by simp [prsP]
theorem prsP_at (xs : List (Int × Bool)) {i : Nat} (h : i < xs.length / 2) : px (prsP xs) i = ((px xs (2 * i)).1 + (px xs (2 * i + 1)).1, true) := by
 rw [px_in (by rw [prsP_length]; exact h)]; simp [prsP]
def Small (xs : List (Int × Bool)) (W : Int) : Prop := ∀ i, i < xs.length -> 0 <= (px xs i).1 /\ (px xs i).1 <= W

set_option maxHeartbeats 1000000 in
set_option maxRecDepth 100000 in
theorem pack_c (lo hi : Nat) (a : Option Addr) (cap : Nat) (xs : List (Int × Bool)) (w : World) (hn : xs.length <= 100000) (hs : Small xs 1152921504606846976) (hhi : hi <= w.heap.size) (hP : Par lo hi w a xs) :
  Calls Tryz.prog 146 #[.slice a xs.length cap] w fun e w' => e = .returned (.slice (some ⟨w.heap.size, 0, none⟩) (xs.length / 2) (xs.length / 2)) /\ PRo w.heap.size (prsP xs) w' /\ Below w.heap.size w w' := by
 obtain ⟨i0, hi0, hz0, hz1', hz2'⟩ := info_parts Tryz.infoPar
 have hmk := made_pars (xs.length / 2) i0 hi0 hz0 hz1' hz2' (by omega)
 obtain ⟨N, hN⟩ : ∃ N, xs.length / 2 = N := ⟨_, rfl⟩
 have HN := hide hN
 have hN' : (xs.length : Int) / 2 = (N : Int) := by omega
 have hN1 : 2 * N <= xs.length := by omega
 rw [hN] at hmk ⊢
 clear hN
 have HP := hide hP
 have HS := hide hs
 clear hP hs
 go_enter Tryz.func146, Tryz.ntmps146
 go_wp2_with fail
 go_loopg [11] N (fun gk v11 wx => ∃ i : Nat, i + gk = N /\ v11 = .int .i64 i /\ Hid (PRo w.heap.size (filP (prsP xs) i) wx /\ Below w.heap.size w wx))
 case atStart =>
  refine ⟨0, by omega, rfl, ?_, (Below.refl _ w).alloc (Nat.le_refl _) _⟩
  rw [filP_zero, prsP_length, HN.out]
  exact heap_new w _
 case round =>
  obtain ⟨i, hig, rfl, HI⟩ := hrel
  cases gk with
  | zero =>
   obtain rfl : i = N := by omega
   go_wp2_with fail
   go_ret
   have := HI.out
   rw [<- HN.out, <- prsP_length, filP_all] at this
   exact ⟨rfl, this⟩
  | succ gk =>
   obtain ⟨b, s, ys, hb1, hb2, hro, rfl, hle, hpx⟩ := HP.out.resolve_left (by omega)
   have hrw : PRo b ys wr := hro.kept (Kept.of_below HI.out.2) (by omega)
   have hlt : (i : Int) < (N : Int) := by omega
   have e1 := hpx (2 * i) (by omega)
   have e2 := hpx (2 * i + 1) (by omega)
   have cx := hrw.c0 (i := s + 2 * i) (by omega)
   have cy := hrw.c0 (i := s + (2 * i + 1)) (by omega)
   rw [e1] at cx
   rw [e2] at cy
   have hx0 : (0 : Int) <= 2 * (i : Int) + 1 := by omega
   have hx1 : 2 * (i : Int) + 1 < (xs.length : Int) := by omega
   have hx2 : (2 * (i : Int) + 1).toNat = 2 * i + 1 := by omega
   have hx3 : (0 : Int) <= 2 * (i : Int) := by omega
   have hx4 : 2 * (i : Int) < (xs.length : Int) := by omega
   have hx5 : (2 * (i : Int)).toNat = 2 * i := by omega
   have bX := HS.out (2 * i) (by omega)
   have bY := HS.out (2 * i + 1) (by omega)
   have hset := HI.out.1.set (i := i) (by rw [filP_length, prsP_length, HN.out]; omega) (px (prsP xs) i)
   rw [filP_set _ i (by rw [prsP_length, HN.out]; omega), prsP_at xs (by rw [HN.out]; omega)] at hset
   have HSET := hide hset
   have t0 := HI.out.1.c0 (i := i) (by rw [filP_length, prsP_length, HN.out]; omega)
   have t1 := HI.out.1.c1 (i := i) (by rw [filP_length, prsP_length, HN.out]; omega)
   have f0 := HI.out.1.free (2 * i)
   have f1 := HI.out.1.free (2 * i + 1)
   rw [show 2 * (s + 2 * i) = 2 * s + 2 * i * 2 by omega] at cx
   rw [show 2 * (s + (2 * i + 1)) = 2 * s + (2 * i + 1) * 2 by omega] at cy
   rw [show 2 * i = i * 2 by omega] at t0 t1 f0 f1
   clear hset hpx e1 e2
   generalize (px xs (2 * i)).1 = X at cx bX HSET
   generalize (px xs (2 * i + 1)).1 = Y at cy bY HSET
   generalize (px (filP (prsP xs) i) i).1 = T0 at t0
   generalize (px (filP (prsP xs) i) i).2 = T1 at t1
   go_wp2_with fail
   go_region
   go_wp2_with fail
   go_roundg gk
   case measure => omega
   case rel =>
    have hs := HSET.out
    rw [show 2 * i = i * 2 by omega] at hs
    exact ⟨i + 1, by omega, by go_num, hs, ((HI.out.2.setCell (Nat.le_refl _) _).setCell (Nat.le_refl _) _).drew⟩
end Go.Proofs.YteknifnadbmfiaaGreatDoor.L

/- copy of elements of two cells: the library's laws on copy, said of two cells an element. -/
namespace Go.Proofs.YteknifnadbmfiaaGreatDoor.L
set_option maxRecDepth 100000
open Go Go.RowKit

theorem run_copy_row2 (P : Program) (w : World) (dT sT ty elem : TypeId) (g o dLen dCap : Nat) (a : Addr) (sLen sCap : Nat) (cur : Array Value) (t : TypeId) (cs : List Value)
  (hu : P.underlying dT = some (.slice elem)) (hs : (P.info? elem).map (·.size) = some 2)
  (hg : w.heap[g]? = some (.cells cur t (0, 0))) (hn : cs.length = Nat.min sLen dLen * 2)
  (hsrc : ∀ j v, cs[j]? = some v -> w.cell? (a.add j) = some v) (hfit : o + cs.length <= cur.size) (h1 : ∀ v ∈ cs, v.oneCell' = true) :
  (Builtin.copy_ #[dT, sT] ty #[.slice (some ⟨g, o, none⟩) dLen dCap, .slice (some a) sLen sCap]).run P w =
   .ok (goInt (Nat.min sLen dLen)) (w.setRow g (cur.toList.take o ++ cs ++ cur.toList.drop (o + cs.length)).toArray) := by
 have hl := run_loadCells_list (P := P) w a cs hsrc
 have hst := run_storeCells_at P g o t cs 0 cur w hg (by simpa using hfit) h1
 cases hq : P.info? elem with
 | none => simp [hq] at hs
 | some i =>
  have hi : i.size = 2 := by simpa [hq] using hs
  simp [Builtin.copy_, run_underlying hu, Builtin.lenOf, Builtin.firstCells, sizeOf, typeInfo, hq, hi, <- hn, hl, hst]
theorem run_copy_none2 (P : Program) (w : World) (dT sT ty elem : TypeId) (d a : Option Addr) (dLen dCap sLen sCap : Nat) (hu : P.underlying dT = some (.slice elem)) (hs : (P.info? elem).map (·.size) = some 2) (hn : Nat.min sLen dLen = 0) :
  (Builtin.copy_ #[dT, sT] ty #[.slice d dLen dCap, .slice a sLen sCap]).run P w = .ok (goInt 0) w := by
 cases hq : P.info? elem with
 | none => simp [hq] at hs
 | some i =>
  have hl : ∀ (x : Addr), (loadCells x 0).run P w = .ok #[] w := fun x => by simpa using run_loadCells_list (P := P) w x [] (by simp)
  cases d <;> cases a <;> simp [Builtin.copy_, run_underlying hu, Builtin.lenOf, Builtin.firstCells, sizeOf, typeInfo, hq, hn, storeCells, hl]
theorem kept_setRow (w : World) (g : Nat) (c : Array Value) : Kept (fun i => i = g) w (w.setRow g c) :=
 ⟨rfl, rfl, rfl, by simp [World.setRow], fun k _ hn => setRow_other w g k c hn⟩

def CpOk (g : Nat) (zs : List (Int × Bool)) (n : Nat) (w w' : World) : Prop := PRo g (filP zs n) w' /\ Kept (fun i => i = g) w w'

theorem filP_at (zs : List (Int × Bool)) (n : Nat) {i : Nat} (h : i < zs.length) : px (filP zs n) i = if i < n then px zs i else (0, false) := by
 rw [px_in (by rw [filP_length]; exact h)]; simp [filP]
def cellsOf (xs : List (Int × Bool)) (s n : Nat) : List Value := (List.range (n * 2)).map fun j => pc xs (2 * s + j)
theorem cellsOf_length (xs : List (Int × Bool)) (s n : Nat) : (cellsOf xs s n).length = n * 2 := by simp [cellsOf]
theorem splice_par (zs ys : List (Int × Bool)) (m s n : Nat) (hm : m + n <= zs.length) (h : ∀ i, i < n -> px zs (m + i) = px ys (s + i)) :
  ((parA (filP zs m)).toList.take (2 * m) ++ cellsOf ys s n ++ (parA (filP zs m)).toList.drop (2 * m + (cellsOf ys s n).length)).toArray = parA (filP zs (m + n)) := by
 have hsz : (parA (filP zs m)).toList.length = 2 * zs.length := by rw [Array.length_toList, parA_size, filP_length]
 apply Array.ext_getElem?
 intro j
 rw [List.getElem?_toArray, cellsOf_length]
 have at1 : ∀ j, (parA (filP zs m)).toList[j]? = if j < 2 * zs.length then some (pc (filP zs m) j) else none := by
  intro j
  rw [Array.getElem?_toList]
  by_cases hj : j < 2 * zs.length
  ·rw [parA_at _ (by rw [filP_length]; exact hj), if_pos hj]
  ·rw [if_neg hj, Array.getElem?_eq_none (by rw [parA_size, filP_length]; omega)]
 by_cases hj : j < 2 * zs.length
 ·rw [parA_at _ (by rw [filP_length]; exact hj)]
  by_cases c1 : j < 2 * m
  ·rw [List.append_assoc, List.getElem?_append_left (by rw [List.length_take, hsz]; omega), List.getElem?_take, if_pos c1, at1, if_pos hj]
   have e1 : j / 2 < m := by omega
   unfold pc
   rw [filP_at zs m (by omega), filP_at zs (m + n) (by omega), if_pos e1, if_pos (show j / 2 < m + n by omega)]
  ·by_cases c2 : j < 2 * m + n * 2
   ·rw [List.append_assoc, List.getElem?_append_right (by rw [List.length_take, hsz]; omega), List.length_take, hsz, show min (2 * m) (2 * zs.length) = 2 * m by omega, List.getElem?_append_left (by rw [cellsOf_length]; omega)]
    have e0 : j - 2 * m < n * 2 := by omega
    have e1 : (2 * s + (j - 2 * m)) / 2 = s + (j / 2 - m) := by omega
    have e2 : (2 * s + (j - 2 * m)) % 2 = j % 2 := by omega
    have e3 := h (j / 2 - m) (by omega)
    rw [show m + (j / 2 - m) = j / 2 by omega] at e3
    simp only [cellsOf, List.getElem?_map, List.getElem?_range e0, Option.map_some]
    unfold pc
    rw [filP_at zs (m + n) (by omega), if_pos (show j / 2 < m + n by omega), e1, e2, <- e3]
   ·rw [List.getElem?_append_right (by rw [List.length_append, List.length_take, hsz, cellsOf_length]; omega), List.length_append, List.length_take, hsz, cellsOf_length, List.getElem?_drop, show 2 * m + n * 2 + (j - (min (2 * m) (2 * zs.length) + n * 2)) = j by omega, at1, if_pos hj]
    unfold pc
    rw [filP_at zs m (by omega), filP_at zs (m + n) (by omega), if_neg (show ¬ j / 2 < m by omega), if_neg (show ¬ j / 2 < m + n by omega)]
 ·rw [Array.getElem?_eq_none (by rw [parA_size, filP_length]; omega), List.getElem?_eq_none]
  simp only [List.length_append, List.length_take, List.length_drop, hsz, cellsOf_length]
  omega
theorem copy_run (ty : TypeId) (g : Nat) (zs : List (Int × Bool)) (m dLen dCap : Nat) (dp : Option Addr) (sp : Option Addr) (sLen sCap : Nat) (w : World) (xs : List (Int × Bool)) (lo hi : Nat) (hx : Par lo hi w sp xs) (hl : xs.length = Nat.min sLen dLen)
  (hd : 0 < xs.length -> dp = some ⟨g, m * 2, none⟩) (hz : PRo g (filP zs m) w) (hm : m + xs.length <= zs.length) (h : ∀ i, i < xs.length -> px zs (m + i) = px xs i) :
  ∃ w', (Builtin.copy_ #[218, 218] ty #[.slice dp dLen dCap, .slice sp sLen sCap]).run Tryz.prog w = .ok (goInt xs.length) w' /\ CpOk g zs (m + xs.length) w w' := by
 have hsz : (Tryz.prog.info? 220).map (·.size) = some 2 := by
  obtain ⟨i0, hi0, _, hz1, _⟩ := info_parts Tryz.infoPar
  rw [hi0]; simp [hz1]
 by_cases h0 : xs.length = 0
 ·refine ⟨w, ?_, ?_, Kept.refl _ _⟩
  ·rw [h0]; exact run_copy_none2 Tryz.prog w 218 218 ty 220 dp sp dLen dCap sLen sCap Tryz.underlying218 hsz (by rw [<- hl]; exact h0)
  ·rw [h0, Nat.add_zero]; exact hz
 ·obtain ⟨b, s, ys, b1, b2, hro, rfl, hle, hpx⟩ := hx.resolve_left h0
  rw [hd (by omega)]
  have hrun := run_copy_row2 Tryz.prog w 218 218 ty 220 g (m * 2) dLen dCap ⟨b, 2 * s, none⟩ sLen sCap (parA (filP zs m)) 220 (cellsOf ys s xs.length) Tryz.underlying218 hsz hz (by rw [cellsOf_length, hl])
   (by
    intro j v hv
    have hj : j < xs.length * 2 := by
     rcases Nat.lt_or_ge j (xs.length * 2) with h' | h'
     ·exact h'
     ·rw [List.getElem?_eq_none (by rw [cellsOf_length]; exact h')] at hv; simp at hv
    have e : ((⟨b, 2 * s, none⟩ : Addr).add j) = ⟨b, 2 * s + j, none⟩ := by unfold Addr.add; split <;> simp_all
    rw [e, cells_of hro, parA_at ys (by omega)]
    simp only [cellsOf, List.getElem?_map, List.getElem?_range hj, Option.map_some] at hv
    exact hv)
   (by rw [cellsOf_length, parA_size, filP_length]; omega)
   (by
    intro v hv
    obtain ⟨j, _, rfl⟩ := List.mem_map.1 hv
    unfold pc; split <;> rfl)
  have e := splice_par zs ys m s xs.length hm (fun i hi => by rw [h i hi, hpx i hi])
  rw [Nat.mul_comm 2 m] at e
  rw [e, <- hl] at hrun
  exact ⟨w.setRow g (parA (filP zs (m + xs.length))), hrun, setRow_heap w g _ _ 220 _ hz, kept_setRow _ _ _⟩
#print axioms copy_run
end Go.Proofs.YteknifnadbmfiaaGreatDoor.L

/- Two rising rows of parcels laid together. -/
namespace Go.Proofs.YteknifnadbmfiaaGreatDoor.L
set_option maxRecDepth 100000
open Go Go.RowKit

def mrgP : List (Int × Bool) -> List (Int × Bool) -> List (Int × Bool)
 | [], B => B
 | x :: A, [] => x :: A
 | x :: A, y :: B => if x.1 <= y.1 then x :: mrgP A (y :: B) else y :: mrgP (x :: A) B
theorem mrgP_nil (A : List (Int × Bool)) : mrgP A [] = A := by cases A <;> simp [mrgP]
theorem mrgP_length (A B : List (Int × Bool)) : (mrgP A B).length = A.length + B.length := by
 induction A generalizing B with
 | nil => simp [mrgP]
 | cons x A ihA =>
  induction B with
  | nil => simp [mrgP]
  | cons y B ihB =>
   rw [mrgP]
   split
   ·simp only [List.length_cons, ihA]; omega
   ·simp only [List.length_cons, ihB]; omega
theorem mrgP_step (A B : List (Int × Bool)) (y : Int × Bool) (t : Nat) (ht : t <= A.length) (h1 : ∀ i, i < t -> (px A i).1 <= y.1) (h2 : t = A.length \/ y.1 < (px A t).1) : mrgP A (y :: B) = A.take t ++ y :: mrgP (A.drop t) B := by
 induction A generalizing t with
 | nil =>
  have : t = 0 := by simpa using ht
  subst this; simp [mrgP]
 | cons x A ih =>
  cases t with
  | zero =>
   have h3 : y.1 < x.1 := by
    rcases h2 with h2 | h2
    ·simp at h2
    ·simpa [px] using h2
   rw [mrgP, if_neg (by omega)]; simp
  | succ t =>
   have h0 := h1 0 (by omega)
   simp [px] at h0
   rw [mrgP, if_pos h0, ih t (by simpa using ht) (fun i hi => by have := h1 (i + 1) (by omega); simpa [px] using this) (by
    rcases h2 with h2 | h2
    ·left; simpa using h2
    ·right; simpa [px] using h2)]
   simp
theorem px_drop (A : List (Int × Bool)) (s i : Nat) : px (A.drop s) i = px A (s + i) := by simp [px, List.getD]
theorem px_app_left {A B : List (Int × Bool)} {i : Nat} (h : i < A.length) : px (A ++ B) i = px A i := by simp [px, List.getD, List.getElem?_append_left h]
theorem px_app_right {A B : List (Int × Bool)} {i : Nat} (h : A.length <= i) : px (A ++ B) i = px B (i - A.length) := by simp [px, List.getD, List.getElem?_append_right h]
theorem px_take {A : List (Int × Bool)} {t i : Nat} (h : i < t) : px (A.take t) i = px A i := by simp [px, List.getD, h]
structure MgI (A B Z : List (Int × Bool)) (s j : Nat) : Prop where
 hs : s <= A.length
 hj : j <= B.length
 eq : Z.drop (s + j) = mrgP (A.drop s) (B.drop j)
theorem MgI.start (A B : List (Int × Bool)) : MgI A B (mrgP A B) 0 0 := ⟨Nat.zero_le _, Nat.zero_le _, rfl⟩
theorem MgI.step {A B Z : List (Int × Bool)} {s j t : Nat} (h : MgI A B Z s j) (hj : j < B.length) (ht : s + t <= A.length) (h1 : ∀ i, i < t -> (px A (s + i)).1 <= (px B j).1) (h2 : s + t = A.length \/ (px B j).1 < (px A (s + t)).1) :
  MgI A B Z (s + t) (j + 1) /\ (∀ i, i < t -> px Z (s + j + i) = px A (s + i)) /\ px Z (s + j + t) = px B j := by
 have e := h.eq
 have hb : B.drop j = px B j :: B.drop (j + 1) := by rw [px_in hj]; exact List.drop_eq_getElem_cons hj
 rw [hb, mrgP_step (A.drop s) (B.drop (j + 1)) (px B j) t (by rw [List.length_drop]; omega) (fun i hi => by rw [px_drop]; exact h1 i hi) (by
  rcases h2 with h2 | h2
  ·left; rw [List.length_drop]; omega
  ·right; rw [px_drop]; exact h2)] at e
 have hlt : ((A.drop s).take t).length = t := by rw [List.length_take, List.length_drop]; omega
 refine ⟨⟨ht, hj, ?_⟩, fun i hi => ?_, ?_⟩
 ·have e2 := congrArg (List.drop (t + 1)) e
  rw [List.drop_drop, List.drop_append, hlt] at e2
  rw [show s + t + (j + 1) = s + j + (t + 1) by omega, e2, List.drop_eq_nil_of_le (by rw [hlt]; omega), show t + 1 - t = 1 by omega, List.drop_drop]
  simp
 ·have e2 := congrArg (fun L => px L i) e
  simp only [px_drop] at e2
  rw [e2, px_app_left (by rw [hlt]; exact hi), px_take hi, px_drop]
 ·have e2 := congrArg (fun L => px L t) e
  simp only [px_drop] at e2
  rw [e2, px_app_right (by rw [hlt]; exact Nat.le_refl _), hlt, Nat.sub_self]
  simp [px]
theorem MgI.done {A B Z : List (Int × Bool)} {s : Nat} (h : MgI A B Z s B.length) (i : Nat) (_hi : i < A.length - s) : px Z (s + B.length + i) = px A (s + i) := by
 have e := h.eq
 rw [List.drop_length, mrgP_nil] at e
 have e2 := congrArg (fun L => px L i) e
 simpa only [px_drop] using e2

abbrev parO (p : Int × Bool) : Obj := .cells #[.int .i64 p.1, .bool p.2] 220

set_option maxHeartbeats 2000000 in
set_option maxRecDepth 100000 in
theorem merge_c (gA gB : Nat) (A B : List (Int × Bool)) (w : World) (hA : PRo gA A w) (hB : PRo gB B w) (hn : A.length <= 100000) (hm : B.length <= 100000) :
  Calls Tryz.prog 145 #[.slice (some ⟨gA, 0, none⟩) A.length A.length, .slice (some ⟨gB, 0, none⟩) B.length B.length] w fun e w' => e = .returned (.slice (some ⟨w.heap.size, 0, none⟩) (A.length + B.length) (A.length + B.length)) /\ PRo w.heap.size (mrgP A B) w' /\ Below w.heap.size w w' := by
 obtain ⟨i0, hi0, hz0, hz1', hz2'⟩ := info_parts Tryz.infoPar
 have hmk := made_pars (A.length + B.length) i0 hi0 hz0 hz1' hz2' (by omega)
 obtain ⟨N, hN⟩ : ∃ N, A.length + B.length = N := ⟨_, rfl⟩
 have hN' : (A.length : Int) + (B.length : Int) = (N : Int) := by omega
 have hN1 : N <= A.length + B.length := by omega
 have hN2 : A.length + B.length <= N := by omega
 rw [hN] at hmk ⊢
 have HN := hide hN
 clear hN
 have HA := hide hA
 have HB := hide hB
 have hgA := hA.lt
 have hgB := hB.lt
 clear hA hB
 obtain ⟨Z, hZ⟩ : ∃ Z, mrgP A B = Z := ⟨_, rfl⟩
 have HZL : Hid (Z.length = N) := (show Z.length = N by rw [<- hZ, mrgP_length, HN.out])
 have HMI : Hid (MgI A B Z 0 0) := hide (by rw [<- hZ]; exact MgI.start A B)
 rw [hZ]
 clear hZ
 go_enter Tryz.func145, Tryz.ntmps145
 go_wp2_with fail
 go_loopg [0, 6, 18] B.length (fun gk v0 v6 v18 wx => ∃ s j o : Nat, v0 = .slice (some ⟨gA, o, none⟩) (A.length - s) (A.length - s) /\ v6 = .int .i64 ((s + j : Nat) : Int) /\ v18 = .int .i64 j /\ j + gk = B.length /\ s <= A.length /\ Hid ((s < A.length -> o = s * 2) /\ MgI A B Z s j /\ PRo w.heap.size (filP Z (s + j)) wx /\ Below w.heap.size w wx))
 case atStart =>
  refine ⟨0, 0, 0, rfl, rfl, rfl, by omega, by omega, fun _ => rfl, HMI.out, ?_, (Below.refl _ w).alloc (Nat.le_refl _) _⟩
  rw [filP_zero, HZL.out]
  exact heap_new w _
 case round =>
  obtain ⟨s, j, o, rfl, rfl, rfl, hjg, hsA, HI⟩ := hrel
  obtain ⟨L, hL⟩ : ∃ L, A.length - s = L := ⟨_, rfl⟩
  obtain ⟨T, hT⟩ : ∃ T, s + j = T := ⟨_, rfl⟩
  have hL1 : L + s <= A.length := by omega
  have hL2 : A.length <= L + s := by omega
  have hT1 : s + j <= T := by omega
  have hT2 : T <= s + j := by omega
  rw [hL, hT]
  rw [hT] at HI
  clear hL hT
  cases gk with
  | zero =>
   have hjB : j = B.length := by omega
   have hTN1 : (T : Int) <= (N : Int) := by omega
   have HRW : Hid (PRo w.heap.size (filP Z T) wr) := HI.out.2.2.1
   have hmg := HI.out.2.1
   rw [hjB] at hmg
   have hdn := hmg.done
   rw [<- hjB, show s + j = T by omega] at hdn
   have hsrc : Par gA (gA + 1) wr (some ⟨gA, o, none⟩) (A.drop s) := by
    by_cases h0 : L = 0
    ·left; rw [List.length_drop]; omega
    ·right
     refine ⟨gA, s, A, Nat.le_refl _, by omega, HA.out.kept (Kept.of_below HI.out.2.2.2) (by omega), ?_, ?_, fun i hi => ?_⟩
     ·rw [HI.out.1 (by omega), Nat.mul_comm]
     ·simp; omega
     ·rw [px_drop]
   have hdl : (A.drop s).length = L := by rw [List.length_drop]; omega
   have hrunX := fun dp (hdp : 0 < (A.drop s).length -> dp = some ⟨w.heap.size, T * 2, none⟩) => copy_run 3 w.heap.size Z T (N - T) (N - T) dp (some ⟨gA, o, none⟩) L L wr (A.drop s) gA (gA + 1) hsrc (by rw [hdl]; have : L <= N - T := (by omega); exact (Nat.min_eq_left this).symm) hdp HRW.out (by rw [hdl, HZL.out]; omega) (fun i hi => by rw [hdn i (by rw [hdl] at hi; omega), px_drop])
   rw [hdl] at hrunX
   have HBL := hide HI.out.2.2.2
   have hfin : ∀ w2, CpOk w.heap.size Z (T + L) wr w2 -> PRo w.heap.size Z w2 /\ Below w.heap.size w w2 := by
    intro w2 hok
    refine ⟨?_, HBL.out.trans (hok.2.below (B := w.heap.size) HBL.out.size (fun i hi e => by omega))⟩
    have := hok.1
    rw [show T + L = Z.length by rw [HZL.out]; omega, filP_all] at this
    exact this
   have HFIN := hide hfin
   clear hdn hmg hsrc hdl hfin HI hjB
   by_cases hNT : N = T
   ·have hL0 : L = 0 := by omega
    obtain ⟨w2, hrun, hok⟩ := hrunX (some ⟨w.heap.size, 0, none⟩) (fun h => by omega)
    have HOK := hide hok
    clear hok hrunX hL0
    subst hNT
    rw [Nat.sub_self] at hrun
    go_wp2_with fail
    go_ret
    exact ⟨rfl, HFIN.out _ HOK.out⟩
   ·obtain ⟨w2, hrun, hok⟩ := hrunX (some ⟨w.heap.size, T * 2, none⟩) (fun _ => rfl)
    have HOK := hide hok
    clear hok hrunX
    have hNT' : ¬ T = N := fun e => hNT e.symm
    go_wp2_with fail
    go_ret
    exact ⟨rfl, HFIN.out _ HOK.out⟩
  | succ g1 =>
   have hlt : (j : Int) < (B.length : Int) := by omega
   have hBr : PRo gB B wr := HB.out.kept (Kept.of_below HI.out.2.2.2) (by omega)
   have cb0 := hBr.c0 (i := j) (by omega)
   have cb1 := hBr.c1 (i := j) (by omega)
   rw [show 2 * j = j * 2 by omega] at cb0 cb1
   obtain ⟨y, hy⟩ : ∃ y, px B j = y := ⟨_, rfl⟩
   have HY := hide hy
   rw [hy] at cb0 cb1
   clear hy hBr
   obtain ⟨Y, YB⟩ := y
   simp only at cb0 cb1
   have HWs : Hid (w.heap.size + 1 <= wr.heap.size) := hide (by have := HI.out.2.2.1.lt; omega)
   go_wp2_with fail
   have HR1 : Hid (PRo w.heap.size (filP Z T) (wr.alloc (parO (Y, YB)))) := hide (heap_old HI.out.2.2.1)
   have HB1 : Hid (Below w.heap.size w (wr.alloc (parO (Y, YB)))) := hide (HI.out.2.2.2.alloc (by have := HWs.out; omega) _)
   have HY0 : Hid ((wr.alloc (parO (Y, YB))).cell? ⟨wr.heap.size, 0, none⟩ = some (.int .i64 Y) /\ (wr.alloc (parO (Y, YB))).cell? ⟨wr.heap.size, 1, none⟩ = some (.bool YB)) := hide ⟨by rw [cells_of (heap_new wr _)]; rfl, by rw [cells_of (heap_new wr _)]; rfl⟩
   have HSZ : Hid ((wr.alloc (parO (Y, YB))).heap.size = wr.heap.size + 1) := hide (by simp)
   clear cb0 cb1
   obtain ⟨pb, hpb⟩ : ∃ pb, wr.heap.size = pb := ⟨_, rfl⟩
   have hpb1 : w.heap.size + 1 <= pb := by have := HWs.out; omega
   obtain ⟨W1, hW1⟩ : ∃ W1, wr.alloc (parO (Y, YB)) = W1 := ⟨_, rfl⟩
   have HMG := hide HI.out.2.1
   have HO := hide HI.out.1
   rw [hpb, hW1] at HY0 HSZ
   rw [hW1] at HR1 HB1
   rw [hpb]
   change Code.wp _ _ _ _ (wr.alloc (parO (Y, YB)))
   rw [hW1]
   clear hpb hW1 HI HWs
   go_loopg [9] L (fun g2 v9 wx => ∃ t q : Nat, v9 = .int .i64 t /\ t + g2 = L /\ Hid (∀ i, i < t -> (px A (s + i)).1 <= Y) /\ wx = W1.drewN q)
   case atStart => exact ⟨0, 0, rfl, by omega, fun i hi => by omega, rfl⟩
   case round =>
    obtain ⟨t, q, rfl, htg, HT, rfl⟩ := hrel
    go_upto_region 7 with fail
    go_cut [35] (fun v wx => ∃ (β : Bool) (q' : Nat), v = .bool β /\ Hid (β = true ↔ (t < L /\ (px A (s + t)).1 <= Y)) /\ wx = W1.drewN q')
    case first =>
     have cp : (W1.drewN q).cell? ⟨pb, 0, none⟩ = some (.int .i64 Y) := HY0.out.1
     by_cases htL : t < L
     ·have htL' : (t : Int) < (L : Int) := by omega
      have hdt : decide ((t : Int) < (L : Int)) = true := by simp; omega
      have hro : PRo gA A (W1.drewN q) := (HA.out.kept (Kept.of_below HB1.out) (by omega) : PRo gA A W1)
      have cA := hro.c0 (i := s + t) (by omega)
      rw [show 2 * (s + t) = o + t * 2 by have := HO.out (by omega); omega] at cA
      obtain ⟨X, hX⟩ : ∃ X, (px A (s + t)).1 = X := ⟨_, rfl⟩
      rw [hX] at cA
      have EX := hide hX
      clear hX hro
      generalize hWq : W1.drewN q = wq at cp cA ⊢
      have HWq := hide hWq
      clear hWq
      by_cases hXY : X <= Y
      ·go_quiet (fail)
       go_wp2_with fail
       go_meet
       case rel => exact ⟨true, q + nq, rfl, ⟨fun _ => ⟨htL, by rw [EX.out]; exact hXY⟩, fun _ => rfl⟩, by rw [<- HWq.out, World.drewN_drewN]⟩
      ·go_quiet (fail)
       go_wp2_with fail
       go_meet
       case rel => exact ⟨false, q + nq, rfl, ⟨fun h => (by cases h), fun h => absurd h.2 (by rw [EX.out]; omega)⟩, by rw [<- HWq.out, World.drewN_drewN]⟩
     ·have htL' : ¬ (t : Int) < (L : Int) := by omega
      have hdt : decide ((t : Int) < (L : Int)) = false := by simp; omega
      generalize hWq : W1.drewN q = wq at cp ⊢
      have HWq := hide hWq
      clear hWq
      go_quiet (fail)
      go_wp2_with fail
      go_meet
      case rel => exact ⟨false, q + nq, rfl, ⟨fun h => (by cases h), fun h => absurd h.1 htL⟩, by rw [<- HWq.out, World.drewN_drewN]⟩
    case rest =>
     obtain ⟨β, q', rfl, HBT, rfl⟩ := hcut
     cases β with
     | true =>
      have HK := hide (HBT.out.1 rfl)
      have hk1 := HK.out.1
      clear HBT
      go_wp2_with fail
      go_roundg (L - (t + 1))
      case measure => omega
      case rel =>
       obtain ⟨k1, k2⟩ := HK.out
       refine ⟨t + 1, q', by go_num, by omega, fun i hi => ?_, rfl⟩
       by_cases e : i = t
       ·rw [e]; exact k2
       ·exact HT.out i (by omega)
     | false =>
      have HK : Hid (L <= t \/ Y < (px A (s + t)).1) := hide (Classical.byContradiction fun h => by have := HBT.out.2 (by omega); cases this)
      clear HBT
      have htL : t <= L := by omega
      have hTN : (T : Int) < (N : Int) := by have := HMG.out.hj; omega
      have hTN1 : (T : Int) <= (N : Int) := by omega
      have htL1 : (t : Int) <= (L : Int) := by omega
      obtain ⟨hmg, hz1, hz2⟩ := HMG.out.step (t := t) (by omega) (by omega) (by rw [HY.out]; exact HT.out) (by rw [HY.out]; have := HK.out; omega)
      rw [HY.out] at hz2
      rw [show s + j = T by omega] at hz1 hz2
      have HR2 : Hid (PRo w.heap.size (filP Z T) (W1.drewN q')) := HR1.out
      have HA2 : Hid (PRo gA A (W1.drewN q')) := (HA.out.kept (Kept.of_below HB1.out) (by omega) : PRo gA A W1)
      have HB2 : Hid (Below w.heap.size w (W1.drewN q')) := ⟨HB1.out.os, HB1.out.tape, HB1.out.output, HB1.out.size, HB1.out.block⟩
      have HY2 : Hid ((W1.drewN q').cell? ⟨pb, 0, none⟩ = some (.int .i64 Y) /\ (W1.drewN q').cell? ⟨pb, 1, none⟩ = some (.bool YB) /\ pb < (W1.drewN q').heap.size) := ⟨HY0.out.1, HY0.out.2, (by show pb < W1.heap.size; rw [HSZ.out]; omega)⟩
      generalize W1.drewN q' = wq at HR2 HA2 HB2 HY2 ⊢
      have hsrc : Par gA (gA + 1) (wq.drew) (some ⟨gA, o, none⟩) ((A.drop s).take t) := by
       by_cases h0 : t = 0
       ·left; simp [h0]
       ·right
        refine ⟨gA, s, A, Nat.le_refl _, by omega, HA2.out, ?_, ?_, fun i hi => ?_⟩
        ·rw [HO.out (by omega), Nat.mul_comm]
        ·simp; omega
        ·have : i < t := by simp at hi; omega
         rw [px_take this, px_drop]
      have htl : ((A.drop s).take t).length = t := by simp; omega
      obtain ⟨w2, hrun, hok⟩ := copy_run 3 w.heap.size Z T (N - T) (N - T) (some ⟨w.heap.size, T * 2, none⟩) (some ⟨gA, o, none⟩) t L (wq.drew) ((A.drop s).take t) gA (gA + 1) hsrc (by rw [htl]; have : t <= N - T := (by omega); exact (Nat.min_eq_left this).symm) (fun _ => rfl) HR2.out (by rw [htl, HZL.out]; omega) (fun i hi => by have : i < t := (by rw [htl] at hi; exact hi); rw [hz1 i this, px_take this, px_drop])
      rw [htl] at hrun hok
      have HOK := hide hok
      have HMG2 := hide hmg
      have HZ2 := hide hz2
      clear hok hmg hz1 hz2 hsrc htl
      have hNT : ¬ N = T := by omega
      go_wp2_with fail
      go_region
      have hq0 : (0 : Int) <= (T : Int) + (t : Int) := by omega
      have hq1 : (T : Int) + (t : Int) < (N : Int) := by have := HMG2.out.hj; have := HMG2.out.hs; omega
      have hq2 : ((T : Int) + (t : Int)).toNat = T + t := by omega
      have hqz : T + t < Z.length := by rw [HZL.out]; omega
      have c0 := HOK.out.1.c0 (i := T + t) (by rw [filP_length]; exact hqz)
      have c1 := HOK.out.1.c1 (i := T + t) (by rw [filP_length]; exact hqz)
      have f0 := HOK.out.1.free (2 * (T + t))
      have f1 := HOK.out.1.free (2 * (T + t) + 1)
      rw [show 2 * (T + t) = (T + t) * 2 by omega] at c0 c1 f0 f1
      have p0 : w2.cell? ⟨pb, 0, none⟩ = some (.int .i64 Y) := (HOK.out.2.cell (p := ⟨pb, 0, none⟩) HY2.out.2.2 (show ¬ pb = w.heap.size by omega)).trans HY2.out.1
      have p1 : w2.cell? ⟨pb, 1, none⟩ = some (.bool YB) := (HOK.out.2.cell (p := ⟨pb, 1, none⟩) HY2.out.2.2 (show ¬ pb = w.heap.size by omega)).trans HY2.out.2.1
      have hset := HOK.out.1.set (i := T + t) (by rw [filP_length]; exact hqz) (px Z (T + t))
      rw [filP_set Z (T + t) hqz, HZ2.out, show 2 * (T + t) = (T + t) * 2 by omega] at hset
      have HSET := hide hset
      have HBW : Hid (Below w.heap.size w w2) := (HB2.out.drew).trans (HOK.out.2.below (B := w.heap.size) HB2.out.size (fun i hi e => by omega))
      generalize (px (filP Z (T + t)) (T + t)).1 = E0 at c0
      generalize (px (filP Z (T + t)) (T + t)).2 = E1 at c1
      clear hset hrun hqz
      have HEND : Hid (PRo w.heap.size (filP Z (s + t + (j + 1))) ((w2.setCell ⟨w.heap.size, (T + t) * 2, none⟩ (.int .i64 Y)).setCell ⟨w.heap.size, (T + t) * 2 + 1, none⟩ (.bool YB)) /\ Below w.heap.size w ((w2.setCell ⟨w.heap.size, (T + t) * 2, none⟩ (.int .i64 Y)).setCell ⟨w.heap.size, (T + t) * 2 + 1, none⟩ (.bool YB))) := by
       refine ⟨?_, (HBW.out.setCell (Nat.le_refl _) _).setCell (Nat.le_refl _) _⟩
       rw [show s + t + (j + 1) = T + t + 1 by omega]
       exact HSET.out
      by_cases hLt : L = t
      ·have HLT := hide hLt
       clear HSET HBW
       subst hLt
       go_wp2_with fail
       go_roundg g1
       case measure => omega
       case rel => exact ⟨s + L, j + 1, o, by rw [show A.length - (s + L) = 0 by omega], congrArg (Value.int .i64) (by omega), by go_num, by omega, by omega, fun h => by omega, HMG2.out, HEND.out⟩
      ·have hLt' : ¬ t = L := fun e => hLt e.symm
       clear HSET HBW
       go_wp2_with fail
       go_roundg g1
       case measure => omega
       case rel => exact ⟨s + t, j + 1, _, by rw [show A.length - (s + t) = L - t by omega], congrArg (Value.int .i64) (by omega), by go_num, by omega, by omega, fun h => by have := HO.out (by omega); omega, HMG2.out, HEND.out⟩
#print axioms merge_c
end Go.Proofs.YteknifnadbmfiaaGreatDoor.L

/- The library's stable sort, its small functions: two ranges swapped, a row turned. -/
namespace Go.Proofs.YteknifnadbmfiaaGreatDoor.L
set_option maxRecDepth 100000
open Go Go.RowKit

set_option maxRecDepth 100000 in
theorem swapRange_c (g : Nat) (sp : Array Value) (cap a b n : Nat) (d : List Int) (fv : Value) (w : World) (h : Ro g sp d w) (hab : a + n <= b) (hb : b + n <= d.length) (hl : d.length < 4611686018427387904) :
  Calls Tryz.prog 152 #[.slice (some ⟨g, 0, none⟩) d.length cap, .int .i64 a, .int .i64 b, .int .i64 n, fv] w fun e w' =>
   e = .returned (.tuple #[]) /\ ∃ d', SwR d d' a b n /\ Stir a (b + n) d d' /\ Ro g sp d' w' /\ Kept (fun k => k = g) w w' := by
 have HR : Hid (Ro g sp d w) := h
 clear h
 go_enter Tryz.func152, Tryz.ntmps152
 go_wp2_with fail
 go_loopg [10] n (fun gk v10 wx => ∃ (i : Nat) (dk : List Int), i + gk = n /\ v10 = .int .i64 i /\ Hid (SwR d dk a b i /\ Stir a (b + n) d dk /\ Ro g sp dk wx /\ Kept (fun k => k = g) w wx))
 case atStart => exact ⟨0, d, by omega, rfl, SwR.start d a b, Stir.refl _ _ _, HR.out, Kept.refl _ _⟩
 case round =>
  obtain ⟨i, dk, hig, rfl, HI⟩ := hrel
  cases gk with
  | zero =>
   obtain rfl : i = n := by omega
   go_wp2_with fail
   go_end0
   exact ⟨rfl, dk, HI.out⟩
  | succ gk =>
   have hlt : (i : Int) < (n : Int) := by omega
   have hlen : dk.length = d.length := HI.out.1.len
   have cx := HI.out.2.2.1.cell (i := a + i) (by omega)
   have cy := HI.out.2.2.1.cell (i := b + i) (by omega)
   have fx := HI.out.2.2.1.free (a + i)
   have fy := HI.out.2.2.1.free (b + i)
   have hx0 : (0 : Int) <= (a : Int) + (i : Int) := by omega
   have hx1 : (a : Int) + (i : Int) < (d.length : Int) := by omega
   have hx2 : ((a : Int) + (i : Int)).toNat = a + i := by omega
   have hy0 : (0 : Int) <= (b : Int) + (i : Int) := by omega
   have hy1 : (b : Int) + (i : Int) < (d.length : Int) := by omega
   have hy2 : ((b : Int) + (i : Int)).toNat = b + i := by omega
   have HL : Hid _ := hlen
   clear hlen
   generalize hX : ln dk (a + i) = X at cx
   generalize hY : ln dk (b + i) = Y at cy
   have EX : Hid _ := hX
   have EY : Hid _ := hY
   clear hX hY
   go_wp2_with fail
   go_region
   go_wp2_with fail
   go_roundg gk
   case measure => omega
   case rel =>
    obtain ⟨a1, a2, a3, a4⟩ := HI.out
    refine ⟨i + 1, swp dk (a + i) (b + i), by omega, by go_num, a1.step (by omega) (by omega), a2.trans (Stir.swp (by omega) (by omega) (by omega) (by omega) (by rw [HL.out]; omega)), ?_, ?_⟩
    ·have := a3.swp (i := a + i) (j := b + i) (by rw [HL.out]; omega) (by rw [HL.out]; omega)
     rw [EX.out, EY.out] at this
     exact this
    ·exact ((a4.setCell (fun _ => rfl) _).setCell (fun _ => rfl) _).drew

def Left (d dk : List Int) (a m b i j : Nat) : Prop := ∀ f, Rot dk f (m - i) m (m + j) -> Rot d f a m b

set_option maxRecDepth 100000 in
theorem rotate_c (g : Nat) (sp : Array Value) (cap a m b : Nat) (d : List Int) (fv : Value) (w : World) (h : Ro g sp d w) (ham : a < m) (hmb : m < b) (hb : b <= d.length) (hl : d.length < 4611686018427387904) :
  Calls Tryz.prog 151 #[.slice (some ⟨g, 0, none⟩) d.length cap, .int .i64 a, .int .i64 m, .int .i64 b, fv] w fun e w' =>
   e = .returned (.tuple #[]) /\ ∃ d', Rot d d' a m b /\ Stir a b d d' /\ Ro g sp d' w' /\ Kept (fun k => k = g) w w' := by
 have HR : Hid (Ro g sp d w) := h
 clear h
 go_enter Tryz.func151, Tryz.ntmps151
 go_wp2_with fail
 go_loopg [10, 11] (b - a) (fun gk v10 v11 wx => ∃ (i j : Nat) (dk : List Int), i + j <= gk /\ 0 < i /\ 0 < j /\ i <= m - a /\ j <= b - m /\ v10 = .int .i64 i /\ v11 = .int .i64 j /\ Hid (Left d dk a m b i j /\ dk.length = d.length /\ Stir a b d dk /\ Ro g sp dk wx /\ Kept (fun k => k = g) w wx))
 case atStart =>
  refine ⟨m - a, b - m, d, by omega, by omega, by omega, Nat.le_refl _, Nat.le_refl _, by go_num, by go_num, ?_, rfl, Stir.refl _ _ _, HR.out, Kept.refl _ _⟩
  intro f hf
  rw [show m - (m - a) = a by omega, show m + (b - m) = b by omega] at hf
  exact hf
 case round =>
  obtain ⟨i, j, dk, hij, hi0, hj0, him, hjb, rfl, rfl, HI⟩ := hrel
  have HL : Hid (dk.length = d.length) := HI.out.2.1
  have hmi : ((m : Int) - (i : Int)) = ((m - i : Nat) : Int) := by omega
  by_cases hne : i = j
  ·subst hne
   have hc := swapRange_c g sp cap (m - i) m i dk fv wr HI.out.2.2.2.1 (by omega) (by rw [HL.out]; omega) (by rw [HL.out]; exact hl)
   rw [HL.out, <- hmi] at hc
   clear hmi
   go_wp2_with (go_at_call 152; refine hc.mono ?_; rintro e w1 ⟨rfl, K⟩; have HK : Hid _ := K; clear K)
   go_end0
   obtain ⟨d', s1, s2, s3, s4⟩ := HK.out
   obtain ⟨l1, l2, l3, l4, l5⟩ := HI.out
   exact ⟨rfl, d', l1 d' (Rot.last (by omega) s1), l3.trans (s2.wide (by omega) (by omega)), s3, l5.trans s4 (fun _ _ h => h)⟩
  ·by_cases hgt : j < i
   ·have hc := swapRange_c g sp cap (m - i) m j dk fv wr HI.out.2.2.2.1 (by omega) (by rw [HL.out]; omega) (by rw [HL.out]; exact hl)
    rw [HL.out, <- hmi] at hc
    clear hmi
    have hne' : ¬ (i : Int) = (j : Int) := by omega
    have hgt' : (j : Int) < (i : Int) := by omega
    go_wp2_with (go_at_call 152; refine hc.mono ?_; rintro e w1 ⟨rfl, K⟩; have HK : Hid _ := K; clear K)
    go_roundg (i - j + j)
    case measure => omega
    case rel =>
     obtain ⟨d', s1, s2, s3, s4⟩ := HK.out
     obtain ⟨l1, l2, l3, l4, l5⟩ := HI.out
     refine ⟨i - j, j, d', Nat.le_refl _, by omega, hj0, by omega, hjb, by go_num, rfl, ?_, s1.len.trans l2, l3.trans (s2.wide (by omega) (by omega)), s3, l5.trans s4 (fun _ _ h => h)⟩
     exact fun f hf => l1 f (Rot.more (by omega) hgt s1 hf)
   ·have hmj : ((m : Int) + (j : Int) - (i : Int)) = ((m + j - i : Nat) : Int) := by omega
    have hc := swapRange_c g sp cap (m - i) (m + j - i) i dk fv wr HI.out.2.2.2.1 (by omega) (by rw [HL.out]; omega) (by rw [HL.out]; exact hl)
    rw [HL.out, <- hmi, <- hmj] at hc
    clear hmi hmj
    have hne' : ¬ (i : Int) = (j : Int) := by omega
    have hgt' : ¬ (j : Int) < (i : Int) := by omega
    go_wp2_with (go_at_call 152; refine hc.mono ?_; rintro e w1 ⟨rfl, K⟩; have HK : Hid _ := K; clear K)
    go_roundg (i + (j - i))
    case measure => omega
    case rel =>
     obtain ⟨d', s1, s2, s3, s4⟩ := HK.out
     obtain ⟨l1, l2, l3, l4, l5⟩ := HI.out
     refine ⟨i, j - i, d', Nat.le_refl _, hi0, by omega, him, by omega, rfl, by go_num, ?_, s1.len.trans l2, l3.trans (s2.wide (by omega) (by omega)), s3, l5.trans s4 (fun _ _ h => h)⟩
     exact fun f hf => l1 f (Rot.less (by omega) (by omega) s1 hf)
#print axioms rotate_c
end Go.Proofs.YteknifnadbmfiaaGreatDoor.L
