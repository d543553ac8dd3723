/- Several texts, laid together: LGood, LLengths, LCost, LAlive. -/
import Derived.Test.YteknifnadbmfiaaGreatDoorpLg04LLen
import Derived.Test.YteknifnadbmfiaaGreatDoorpLg05LTake
import Derived.Test.YteknifnadbmfiaaGreatDoorpLg00LPar
import Derived.Deep.DeepCutAuto
import Derived.Deep.RegionWith
/- What lengthen gives the symbols are the best lengths. -/
namespace Go.Proofs.YteknifnadbmfiaaGreatDoor.L
set_option maxRecDepth 100000

def wts (xs : List (Int × Bool)) : List Nat := xs.map fun p => p.1.toNat
theorem wts_length (xs : List (Int × Bool)) : (wts xs).length = xs.length := by simp [wts]
def Pos (xs : List (Int × Bool)) : Prop := ∀ p ∈ xs, 0 <= p.1
theorem wts_mrgP (A B : List (Int × Bool)) (hA : Pos A) (hB : Pos B) : wts (mrgP A B) = mrg (wts A) (wts B) := by
 induction A generalizing B with
 | nil => simp [mrgP, wts, mrg]
 | cons x A ihA =>
  induction B with
  | nil => simp [mrgP, wts, mrg]
  | cons y B ihB =>
   have hx := hA x (by simp)
   have hy := hB y (by simp)
   have hA' : Pos A := fun p hp => hA p (by simp [hp])
   have hB' : Pos B := fun p hp => hB p (by simp [hp])
   have e1 : wts (x :: A) = x.1.toNat :: wts A := rfl
   have e2 : wts (y :: B) = y.1.toNat :: wts B := rfl
   rw [mrgP, e1, e2, mrg]
   by_cases h : x.1 <= y.1
   ·rw [if_pos h, if_pos (by omega), <- e2, <- ihA (y :: B) hA' hB]; rfl
   ·rw [if_neg h, if_neg (by omega), <- e1, <- ihB hB']; rfl
theorem cnt_mrgP (A B : List (Int × Bool)) (hA : Pos A) (hB : Pos B) (uA : ∀ p ∈ A, p.2 = false) (uB : ∀ p ∈ B, p.2 = true) (T : Nat) (hT : T <= A.length + B.length) : cnt (mrgP A B) T = fa (wts A) (wts B) T := by
 have cz : ∀ (B : List (Int × Bool)), (∀ p ∈ B, p.2 = true) -> ∀ T, T <= B.length -> cnt B T = 0 := by
  intro B h T
  induction T with
  | zero => intro _; rfl
  | succ T ih =>
   intro hT
   rw [cnt, ih (by omega), px_in (by omega), h _ (List.getElem_mem _)]
   simp
 induction A generalizing B T with
 | nil =>
  rw [show mrgP [] B = B by simp [mrgP], show wts [] = [] from rfl, fa_nil]
  exact cz B uB T (by simpa using hT)
 | cons x A ihA =>
  have hx := hA x (by simp)
  have ux := uA x (by simp)
  have hA' : Pos A := fun p hp => hA p (by simp [hp])
  have uA' : ∀ p ∈ A, p.2 = false := fun p hp => uA p (by simp [hp])
  induction B generalizing T with
  | nil =>
   cases T with
   | zero => simp [cnt, fa]
   | succ T =>
    have i := ihA [] hA' hB uA' uB T (by simp at hT ⊢; omega)
    rw [mrgP_nil] at i
    rw [show mrgP (x :: A) [] = x :: A by simp [mrgP], cnt_cons, i, ux, show wts (x :: A) = x.1.toNat :: wts A from rfl, show wts [] = [] from rfl, fa]
    simp; omega
  | cons y B ihB =>
   have hy := hB y (by simp)
   have uy := uB y (by simp)
   have hB' : Pos B := fun p hp => hB p (by simp [hp])
   have uB' : ∀ p ∈ B, p.2 = true := fun p hp => uB p (by simp [hp])
   have e1 : wts (x :: A) = x.1.toNat :: wts A := rfl
   have e2 : wts (y :: B) = y.1.toNat :: wts B := rfl
   cases T with
   | zero => simp [cnt, fa]
   | succ T =>
    rw [mrgP, e1, e2, fa]
    by_cases h : x.1 <= y.1
    ·rw [if_pos h, if_pos (by omega), cnt_cons, ux, ihA (y :: B) hA' hB uA' uB T (by simp at hT ⊢; omega), e2]
     simp; omega
    ·rw [if_neg h, if_neg (by omega), cnt_cons, uy, ihB hB' uB' T (by simp at hT ⊢; omega), e1]
     simp
theorem prs_at : ∀ (A : List Nat) (i : Nat), i < A.length / 2 -> (prs A)[i]? = some (A.getD (2 * i) 0 + A.getD (2 * i + 1) 0)
 | [], i, h => by simp at h
 | [_], i, h => by simp at h
 | x :: y :: r, 0, _ => by simp [prs]
 | x :: y :: r, i + 1, h => by
  rw [prs, List.getElem?_cons_succ, prs_at r i (by simp only [List.length_cons] at h; omega)]
  have e1 : 2 * (i + 1) = 2 * i + 1 + 1 := by omega
  rw [e1]
  simp [List.getD]
theorem wts_prsP (xs : List (Int × Bool)) (h : Pos xs) : wts (prsP xs) = prs (wts xs) := by
 apply List.ext_getElem?
 intro i
 by_cases hi : i < xs.length / 2
 ·rw [prs_at _ i (by rw [wts_length]; exact hi)]
  have e : ∀ j, j < xs.length -> (wts xs).getD j 0 = (px xs j).1.toNat := by
   intro j hj
   rw [px_in hj]; simp [wts, List.getD, hj]
  have p : ∀ j, j < xs.length -> 0 <= (px xs j).1 := by
   intro j hj
   rw [px_in hj]; exact h _ (List.getElem_mem hj)
  rw [e _ (by omega), e _ (by omega)]
  have p1 := p (2 * i) (by omega)
  have p2 := p (2 * i + 1) (by omega)
  simp [wts, prsP, hi]
  omega
 ·rw [List.getElem?_eq_none (by rw [wts_length, prsP_length]; omega), List.getElem?_eq_none (by rw [prs_length, wts_length]; omega)]
theorem mrgP_pos {A B : List (Int × Bool)} (hA : Pos A) (hB : Pos B) : Pos (mrgP A B) := by
 induction A generalizing B with
 | nil => simpa [mrgP] using hB
 | cons x A ihA =>
  induction B with
  | nil => simpa [mrgP] using hA
  | cons y B ihB =>
   intro p hp
   rw [mrgP] at hp
   split at hp
   ·rcases List.mem_cons.1 hp with rfl | hp
    ·exact hA _ (by simp)
    ·exact ihA (fun q hq => hA q (by simp [hq])) hB p hp
   ·rcases List.mem_cons.1 hp with rfl | hp
    ·exact hB _ (by simp)
    ·exact ihB (fun q hq => hB q (by simp [hq])) p hp
theorem prsP_pos {A : List (Int × Bool)} (h : Pos A) : Pos (prsP A) := by
 intro p hp
 obtain ⟨i, hi, rfl⟩ := List.mem_map.1 hp
 have hi' : i < A.length / 2 := by simpa using hi
 have p : ∀ j, j < A.length -> 0 <= (px A j).1 := by
  intro j hj
  rw [px_in hj]; exact h _ (List.getElem_mem hj)
 have p1 := p (2 * i) (by omega)
 have p2 := p (2 * i + 1) (by omega)
 simp only; omega
theorem prsP_packed (A : List (Int × Bool)) : ∀ p ∈ prsP A, p.2 = true := by
 intro p hp
 obtain ⟨i, _, rfl⟩ := List.mem_map.1 hp
 rfl
theorem rowsP_pos {S : List (Int × Bool)} (h : Pos S) (k : Nat) : Pos (rowsP S k) := by
 induction k with
 | zero => exact h
 | succ k ih => exact mrgP_pos h (prsP_pos ih)
theorem wts_rowsP {S : List (Int × Bool)} (h : Pos S) (k : Nat) : wts (rowsP S k) = pk (wts S) (k + 1) := by
 induction k with
 | zero => rw [rowsP, pk, pk, show prs [] = [] from rfl, mrg_nil]
 | succ k ih => rw [rowsP, wts_mrgP S _ h (prsP_pos (rowsP_pos h k)), wts_prsP _ (rowsP_pos h k), ih]; rfl
theorem cnt_rowsP {S : List (Int × Bool)} (h : Pos S) (u : ∀ p ∈ S, p.2 = false) (k T : Nat) (hT : T <= (rowsP S k).length) : cnt (rowsP S k) T = fa (wts S) (prs (pk (wts S) k)) T := by
 cases k with
 | zero =>
  have := cnt_mrgP S [] h (fun p hp => by simp at hp) u (fun p hp => by simp at hp) T (by simpa [rowsP] using hT)
  rw [mrgP_nil] at this
  rw [rowsP, this, pk]; rfl
 | succ k =>
  rw [rowsP] at hT ⊢
  rw [mrgP_length] at hT
  rw [cnt_mrgP S _ h (prsP_pos (rowsP_pos h k)) u (prsP_packed _) T hT, wts_prsP _ (rowsP_pos h k), wts_rowsP h k]

def cOf (A : List Nat) : Nat -> Nat -> Nat -> Nat
 | 0, _, _ => 0
 | d + 1, k, j => if j = d + 1 then fa A (prs (pk A d)) k else cOf A d (2 * (k - fa A (prs (pk A d)) k)) j
theorem cOf_chain (A : List Nat) (d k : Nat) (h : k <= (pk A d).length) : (∀ j, cOf A d k j <= A.length) /\ pre (pk A d) k = cc A (cOf A d k) d /\ sumD (fun j => cOf A d k j * 2 ^ j) d = k * 2 ^ d := by
 induction d generalizing k with
 | zero =>
  have : k = 0 := by simpa [pk] using h
  subst this
  exact ⟨fun _ => Nat.zero_le _, by simp [pre_zero, cc], by simp [sumD]⟩
 | succ d ih =>
  rw [pk_length] at h
  obtain ⟨a1, a2, a3, a4⟩ := pre_fa A (prs (pk A d)) k (by rw [prs_length]; exact h)
  rw [prs_length] at a3
  obtain ⟨b1, b2, b3⟩ := ih (2 * (k - fa A (prs (pk A d)) k)) (by omega)
  have hcc : ∀ e, e <= d -> cc A (cOf A (d + 1) k) e = cc A (cOf A d (2 * (k - fa A (prs (pk A d)) k))) e := by
   intro e he
   induction e with
   | zero => rfl
   | succ e ihe =>
    rw [cc, cc, ihe (by omega), cOf, if_neg (by omega)]
  have hsd : ∀ e, e <= d -> sumD (fun j => cOf A (d + 1) k j * 2 ^ j) e = sumD (fun j => cOf A d (2 * (k - fa A (prs (pk A d)) k)) j * 2 ^ j) e := by
   intro e he
   induction e with
   | zero => rfl
   | succ e ihe =>
    rw [sumD, sumD, ihe (by omega), cOf, if_neg (by omega)]
  refine ⟨fun j => ?_, ?_, ?_⟩
  ·rw [cOf]; split
   ·exact a1
   ·exact b1 j
  ·rw [pk, a4, cc, hcc d (Nat.le_refl _), <- b2, pre_prs (pk A d) _ (by omega), cOf, if_pos rfl]
   omega
  ·rw [sumD, hsd d (Nat.le_refl _), b3, cOf, if_pos rfl]
   rw [Nat.pow_succ, Nat.mul_comm 2 (k - fa A (prs (pk A d)) k), Nat.mul_assoc, Nat.mul_comm 2 (2 ^ d), <- Nat.add_mul]
   congr 1; omega
theorem ll_cOf (A : List Nat) (d k x : Nat) : ll (cOf A (d + 1) k) (d + 1) x = ll (cOf A d (2 * (k - fa A (prs (pk A d)) k))) d x + if x < fa A (prs (pk A d)) k then 1 else 0 := by
 unfold ll
 rw [sumD]
 have hsd : ∀ e, e <= d -> sumD (fun j => if x < cOf A (d + 1) k j then 1 else 0) e = sumD (fun j => if x < cOf A d (2 * (k - fa A (prs (pk A d)) k)) j then 1 else 0) e := by
  intro e he
  induction e with
  | zero => rfl
  | succ e ihe =>
   have e1 : cOf A (d + 1) k (e + 1) = cOf A d (2 * (k - fa A (prs (pk A d)) k)) (e + 1) := by rw [cOf, if_neg (by omega)]
   rw [sumD, sumD, ihe (by omega), e1]
 rw [hsd d (Nat.le_refl _), cOf, if_pos rfl]
theorem takeOk {S : List (Int × Bool)} (h : Pos S) (u : ∀ p ∈ S, p.2 = false) (L T : Nat) (hT : T <= (pk (wts S) L).length) : TakeOk S S.length L T := by
 induction L generalizing T with
 | zero => trivial
 | succ k ih =>
  have hl : (rowsP S k).length = (pk (wts S) (k + 1)).length := by rw [<- wts_rowsP h k, wts_length]
  have hc := cnt_rowsP h u k T (by rw [hl]; exact hT)
  rw [pk_length] at hT
  obtain ⟨a1, a2, a3, a4⟩ := pre_fa (wts S) (prs (pk (wts S) k)) T (by rw [prs_length]; exact hT)
  rw [prs_length] at a3
  refine ⟨by rw [hl, pk_length]; exact hT, by rw [hc, <- wts_length S]; exact a1, ?_⟩
  rw [hc]
  exact ih _ (by omega)

def Dist (d : List Int) (n : Nat) : Prop := (∀ i, i < d.length -> 0 <= ln d i /\ (ln d i).toNat < n) /\ (∀ i j, i < d.length -> j < d.length -> (ln d i).toNat = (ln d j).toNat -> i = j)
theorem incD_at {E d : List Int} (hd : Dist d E.length) (m x : Nat) (hm : m <= d.length) (hx : x < d.length) : ln (incD E d m) (ln d x).toNat = ln E (ln d x).toNat + if x < m then 1 else 0 := by
 induction m with
 | zero => simp [incD]
 | succ m ih =>
  rw [incD, ln_set _ _ _ (by rw [incD_length]; exact (hd.1 m (by omega)).2)]
  by_cases e : (ln d x).toNat = (ln d m).toNat
  ·have e' := hd.2 x m hx (by omega) e
   subst e'
   rw [if_pos rfl, ih (by omega), if_neg (by omega), if_pos (by omega)]; omega
  ·have e' : x ≠ m := fun h => e (by rw [h])
   rw [if_neg e, ih (by omega)]
   by_cases c : x < m
   ·rw [if_pos c, if_pos (by omega)]
   ·rw [if_neg c, if_neg (by omega)]
theorem incD_out {E d : List Int} (hd : Dist d E.length) (m y : Nat) (hm : m <= d.length) (hy : ∀ x, x < d.length -> (ln d x).toNat ≠ y) : ln (incD E d m) y = ln E y := by
 induction m with
 | zero => simp [incD]
 | succ m ih =>
  rw [incD, ln_set _ _ _ (by rw [incD_length]; exact (hd.1 m (by omega)).2), if_neg (fun e => hy m (by omega) e.symm), ih (by omega)]
theorem lenGo_length (S : List (Int × Bool)) (d : List Int) (L T : Nat) (E : List Int) : (lenGo S d L T E).length = E.length := by
 induction L generalizing T E with
 | zero => rfl
 | succ k ih => rw [lenGo, ih, incD_length]
theorem lenGo_at {S : List (Int × Bool)} (h : Pos S) (u : ∀ p ∈ S, p.2 = false) {d : List Int} (hS : S.length = d.length) (L T : Nat) (hT : T <= (pk (wts S) L).length) (E : List Int) (hd : Dist d E.length) (x : Nat) (hx : x < d.length) :
  ln (lenGo S d L T E) (ln d x).toNat = ln E (ln d x).toNat + ll (cOf (wts S) L T) L x := by
 induction L generalizing T E with
 | zero => simp [lenGo, ll, sumD]
 | succ k ih =>
  have tk := takeOk h u (k + 1) T hT
  have hl : (rowsP S k).length = (pk (wts S) (k + 1)).length := by rw [<- wts_rowsP h k, wts_length]
  have hc := cnt_rowsP h u k T (by rw [hl]; exact hT)
  have c2 := tk.2.1
  rw [pk_length] at hT
  obtain ⟨a1, a2, a3, a4⟩ := pre_fa (wts S) (prs (pk (wts S) k)) T (by rw [prs_length]; exact hT)
  rw [prs_length] at a3
  rw [lenGo, hc]
  rw [hc] at c2
  rw [ih _ (by omega) _ (by rw [incD_length]; exact hd), incD_at hd _ x (by omega) hx, ll_cOf]
  push_cast
  split <;> omega
theorem lenGo_out {S : List (Int × Bool)} {d : List Int} (hS : S.length = d.length) (L T : Nat) (ht : TakeOk S S.length L T) (E : List Int) (hd : Dist d E.length) (y : Nat) (hy : ∀ x, x < d.length -> (ln d x).toNat ≠ y) : ln (lenGo S d L T E) y = ln E y := by
 induction L generalizing T E with
 | zero => rfl
 | succ k ih =>
  obtain ⟨t1, t2, t3⟩ := ht
  rw [lenGo, ih _ t3 _ (by rw [incD_length]; exact hd), incD_out hd _ y (by omega) hy]

theorem occ_nodup (ls : List Int) (n : Nat) : (occ ls n).Nodup := by
 induction n with
 | zero => simp [occ]
 | succ n ih =>
  rw [occ]
  split
  ·refine List.nodup_append.2 ⟨ih, by simp, ?_⟩
   intro a ha b hb e
   rw [List.mem_singleton] at hb
   obtain ⟨i, h1, h2, _⟩ := (occ_mem ls n a).1 ha
   omega
  ·exact ih
theorem dist_of {ls d : List Int} (h : d.Perm (occ ls ls.length)) : Dist d ls.length := by
 have hm : ∀ i, i < d.length -> ∃ j : Nat, ln d i = j /\ j < ls.length /\ 0 < ln ls j := by
  intro i hi
  rw [ln_in hi]
  exact (occ_mem ls ls.length _).1 (h.mem_iff.1 (List.getElem_mem hi))
 have hn : d.Nodup := h.nodup_iff.2 (occ_nodup ls ls.length)
 refine ⟨fun i hi => ?_, fun i j hi hj e => ?_⟩
 ·obtain ⟨j, e, hj, _⟩ := hm i hi
  rw [e]; omega
 ·obtain ⟨x, e1, _⟩ := hm i hi
  obtain ⟨y, e2, _⟩ := hm j hj
  have e3 : d[i] = d[j] := by rw [<- ln_in hi, <- ln_in hj]; omega
  exact (List.getElem_inj hn).1 e3
def zOf (ls F d : List Int) : List (Nat × Nat) := d.map fun x => ((keyOf ls x).toNat, (keyOf F x).toNat)
theorem zOf_perm {ls F d e : List Int} (h : d.Perm e) : (zOf ls F d).Perm (zOf ls F e) := h.map _
theorem Best.perm {L : Nat} {Z Y : List (Nat × Nat)} (h : Best L Z) (p : Z.Perm Y) : Best L Y := ⟨h.feas.perm p, by rw [<- cst_perm p, h.cost, ov_perm L (p.map (·.1))]⟩
structure LGoodR (ls : List Int) (L : Nat) (F : List Int) : Prop where
 len : F.length = ls.length
 zero : ∀ i, ¬ (i < ls.length /\ 0 < ln ls i) -> ln F i = 0
 pos : ∀ i, 0 <= ln F i
 one : (occ ls ls.length).length = 1 -> ∀ i, i < ls.length -> 0 < ln ls i -> ln F i = 1
 best : 2 <= (occ ls ls.length).length -> Best L (zOf ls F (occ ls ls.length))
 is : 2 <= (occ ls ls.length).length -> ∃ d, d.Perm (occ ls ls.length) /\ (Srt (keyOf ls) d 0 d.length /\ St (keyOf ls) d) /\ F = lenGo (symP ls d) d L (2 * d.length - 2) (List.replicate ls.length 0)
theorem LGoodR.uniq {ls F G : List Int} {L : Nat} (h : LGoodR ls L F) (g : LGoodR ls L G) : F = G := by
 by_cases h2 : 2 <= (occ ls ls.length).length
 ·obtain ⟨d, p1, ⟨p2, p3⟩, rfl⟩ := h.is h2
  obtain ⟨e, q1, ⟨q2, q3⟩, rfl⟩ := g.is h2
  rw [St.one (p1.trans q1.symm) p2 p3 q2 q3]
 ·apply List.ext_getElem (h.len.trans g.len.symm)
  intro i i1 i2
  have hh : ln F i = ln G i := by
   by_cases hi : i < ls.length /\ 0 < ln ls i
   ·have hm : (i : Int) ∈ occ ls ls.length := (occ_mem ls ls.length _).2 ⟨i, rfl, hi.1, hi.2⟩
    have h1 : (occ ls ls.length).length = 1 := by have := List.length_pos_of_mem hm; omega
    rw [h.one h1 i hi.1 hi.2, g.one h1 i hi.1 hi.2]
   ·rw [h.zero i hi, g.zero i hi]
  rwa [ln_in i1, ln_in i2] at hh
theorem wts_symP (ls d : List Int) : wts (symP ls d) = d.map fun x => (keyOf ls x).toNat := by simp [wts, symP]
theorem ris_of {ls d : List Int} (h : Srt (keyOf ls) d 0 d.length) : Ris (wts (symP ls d)) := by
 rw [wts_symP]
 unfold Ris
 rw [List.pairwise_iff_getElem]
 intro i j hi hj hij
 simp only [List.length_map] at hi hj
 have := h i j (Nat.zero_le _) (by omega) hj
 rw [ln_in hi, ln_in hj] at this
 simp only [List.getElem_map]
 omega
theorem good_of {ls d : List Int} {L : Nat} (hp : d.Perm (occ ls ls.length)) (hs : Srt (keyOf ls) d 0 d.length) (hst : St (keyOf ls) d) (h2 : 2 <= d.length) (hL : d.length <= 2 ^ L) :
  TakeOk (symP ls d) d.length L (2 * d.length - 2) /\ LGoodR ls L (lenGo (symP ls d) d L (2 * d.length - 2) (List.replicate ls.length 0)) := by
 have hm : ∀ x ∈ d, ∃ j : Nat, x = j /\ j < ls.length /\ 0 < ln ls j := fun x hx => (occ_mem ls ls.length x).1 (hp.mem_iff.1 hx)
 have hpos : Pos (symP ls d) := by
  intro p hp'
  obtain ⟨x, hx, rfl⟩ := List.mem_map.1 hp'
  obtain ⟨j, rfl, _, h0⟩ := hm x hx
  simp only [keyOf, Int.toNat_natCast]; omega
 have hu : ∀ p ∈ symP ls d, p.2 = false := by
  intro p hp'
  obtain ⟨x, hx, rfl⟩ := List.mem_map.1 hp'
  rfl
 have hSl := symP_length ls d
 have hwl : (wts (symP ls d)).length = d.length := by rw [wts_length, hSl]
 have hen := pk_enough (wts (symP ls d)) L (by omega) (by omega)
 rw [hwl] at hen
 have tk := takeOk hpos hu L (2 * d.length - 2) hen
 rw [hSl] at tk
 have hdist := dist_of hp
 have hdE : Dist d (List.replicate ls.length (0 : Int)).length := by rw [List.length_replicate]; exact hdist
 have h0 : ∀ i, ln (List.replicate ls.length (0 : Int)) i = 0 := by
  intro i
  by_cases hi : i < ls.length
  ·rw [ln_in (by simpa using hi)]; simp
  ·exact ln_out (by simpa using hi)
 have hat : ∀ x, x < d.length -> ln (lenGo (symP ls d) d L (2 * d.length - 2) (List.replicate ls.length 0)) (ln d x).toNat = ll (cOf (wts (symP ls d)) L (2 * d.length - 2)) L x := by
  intro x hx
  rw [lenGo_at hpos hu hSl L _ hen _ hdE x hx, h0]; omega
 have hex : ∀ i, (i < ls.length /\ 0 < ln ls i) -> ∃ x, x < d.length /\ (ln d x).toNat = i := by
  intro i hi
  have : (i : Int) ∈ d := hp.mem_iff.2 ((occ_mem ls ls.length _).2 ⟨i, rfl, hi.1, hi.2⟩)
  obtain ⟨x, hx, e⟩ := List.getElem_of_mem this
  exact ⟨x, hx, by rw [ln_in hx, e]; simp⟩
 have hout : ∀ i, ¬ (i < ls.length /\ 0 < ln ls i) -> ln (lenGo (symP ls d) d L (2 * d.length - 2) (List.replicate ls.length 0)) i = 0 := by
  intro i hi
  rw [lenGo_out hSl L _ (by rw [hSl]; exact tk) _ hdE i ?_, h0]
  intro x hx e
  obtain ⟨j, e1, e2, e3⟩ := hm (ln d x) (by rw [ln_in hx]; exact List.getElem_mem hx)
  apply hi
  rw [<- e, e1]; simpa using ⟨e2, e3⟩
 refine ⟨tk, ⟨by rw [lenGo_length, List.length_replicate], hout, fun i => ?_, fun h1 => ?_, fun _ => ?_, fun _ => ⟨d, hp, ⟨hs, hst⟩, rfl⟩⟩⟩
 ·by_cases hi : i < ls.length /\ 0 < ln ls i
  ·obtain ⟨x, hx, e⟩ := hex i hi
   have := hat x hx
   rw [e] at this
   rw [this]; omega
  ·rw [hout i hi]; omega
 ·rw [<- hp.length_eq] at h1; omega
 ·refine Best.perm ?_ (zOf_perm hp)
  obtain ⟨c1, c2, c3⟩ := cOf_chain (wts (symP ls d)) L (2 * d.length - 2) hen
  have hb := take_best (wts (symP ls d)) (ris_of hs) (cOf (wts (symP ls d)) L (2 * d.length - 2)) c1 L (by omega) (by rw [c3, hwl]) (by rw [<- c2, hwl])
  have e : zOf ls (lenGo (symP ls d) d L (2 * d.length - 2) (List.replicate ls.length 0)) d = Zof (wts (symP ls d)) (ll (cOf (wts (symP ls d)) L (2 * d.length - 2)) L) := by
   unfold Zof
   rw [hwl]
   apply List.ext_getElem?
   intro i
   by_cases hi : i < d.length
   ·have h1 := hat i hi
    rw [ln_in hi] at h1
    simp only [zOf, List.getElem?_map, List.getElem?_eq_getElem hi, Option.map_some, List.getElem?_range hi]
    rw [show keyOf (lenGo (symP ls d) d L (2 * d.length - 2) (List.replicate ls.length 0)) d[i] = _ from h1]
    simp [wts_symP, List.getD, hi]
   ·rw [List.getElem?_eq_none (by simp [zOf]; omega), List.getElem?_eq_none (by simp; omega)]
  rw [e]; exact hb
#print axioms good_of
end Go.Proofs.YteknifnadbmfiaaGreatDoor.L

/- Lengths: what it tells. -/
namespace Go.Proofs.YteknifnadbmfiaaGreatDoor.L
set_option maxRecDepth 100000
open Go Go.RowKit

def nocc (ls : List Int) : Nat := (occ ls ls.length).length
def FitsP (ls : List Int) (most : Int) : Prop := Alw ls most /\ nocc ls <= 2 ^ most.toNat
def LensNo (w : World) (e : Ending) (w' : World) : Prop := e = .returned (.tuple #[.slice none 0 0, .bool false]) /\ Below w.heap.size w w'
def LensYes (ls : List Int) (L : Nat) (w : World) (e : Ending) (w' : World) : Prop := ∃ gl F, e = .returned (.tuple #[.slice (some ⟨gl, 0, none⟩) ls.length ls.length, .bool true]) /\ w.heap.size <= gl /\ Ro gl #[] F w' /\ LGoodR ls L F /\ Below w.heap.size w w'
theorem allowed_yes (lo hi : Nat) (a : Option Addr) (cap : Nat) (ls : List Int) (most : Int) (w : World) (hI : Ints lo hi w a ls) (h : Alw ls most) :
  Calls Tryz.prog 132 #[.slice a ls.length cap, .int .i64 most] w fun e w' => e = .returned (.bool true) /\ w' = w := by
 refine (allowed_c lo hi a cap ls most w hI).mono ?_
 rintro e w' ⟨b, rfl, hb, rfl⟩
 rw [hb.2 h]; exact ⟨rfl, rfl⟩
theorem nocc_le {ls d : List Int} (h : d.Perm (occ ls ls.length)) : d.length = nocc ls := h.length_eq

theorem few_good {ls d : List Int} {L : Nat} {F : List Int} (hp : d.Perm (occ ls ls.length)) (h1 : d.length <= 1) (hl : F.length = ls.length) (hF : ∀ i, ln F i = if ∃ x, x < d.length /\ (ln d x).toNat = i then 1 else 0) : LGoodR ls L F := by
 have hm : ∀ i, (∃ x, x < d.length /\ (ln d x).toNat = i) ↔ (i < ls.length /\ 0 < ln ls i) := by
  intro i
  constructor
  ·rintro ⟨x, hx, rfl⟩
   obtain ⟨j, e1, e2, e3⟩ := (occ_mem ls ls.length (ln d x)).1 (hp.mem_iff.1 (by rw [ln_in hx]; exact List.getElem_mem hx))
   rw [e1]; simpa using ⟨e2, e3⟩
  ·rintro ⟨h1, h2⟩
   have : (i : Int) ∈ d := hp.mem_iff.2 ((occ_mem ls ls.length _).2 ⟨i, rfl, h1, h2⟩)
   obtain ⟨x, hx, e⟩ := List.getElem_of_mem this
   exact ⟨x, hx, by rw [ln_in hx, e]; simp⟩
 refine ⟨hl, fun i hi => ?_, fun i => ?_, fun _ i hi h0 => ?_, fun h2 => ?_, fun h2 => ?_⟩
 ·rw [hF, if_neg (fun h => hi ((hm i).1 h))]
 ·rw [hF]; split <;> omega
 ·rw [hF, if_pos ((hm i).2 ⟨hi, h0⟩)]
 ·rw [<- hp.length_eq] at h2; omega
 ·rw [<- hp.length_eq] at h2; omega

theorem sym_small {ls d : List Int} {most : Int} (h : Alw ls most) (hall : All (IsSym ls) d) : Small (symP ls d) 1073741824 := by
 intro i hi
 rw [symP_length] at hi
 rw [symP_at ls d hi]
 obtain ⟨x, e, hx⟩ := hall.at hi
 rw [e]
 simp only [keyOf, Int.toNat_natCast]
 exact h.2.2.2 x hx
theorem zeros_ln (n i : Nat) : ln (List.replicate n (0 : Int)) i = 0 := by
 by_cases hi : i < n
 ·rw [ln_in (by simpa using hi)]; simp
 ·exact ln_out (by simpa using hi)

set_option maxHeartbeats 2000000 in
set_option maxRecDepth 100000 in
theorem lengths_yes (B : Nat) (a : Option Addr) (cap : Nat) (ls : List Int) (L : Nat) (w : World) (hI : Ints 0 B w a ls) (h : FitsP ls L) :
  Calls Tryz.prog 117 #[.slice a ls.length cap, .int .i64 L] w (LensYes ls L w) := by
 obtain ⟨i0, hi0, hz0, hz1', hz2'⟩ := info_parts Tryz.info3
 obtain ⟨hA, hfit⟩ := h
 have HA := hide (allowed_yes 0 B a cap ls L w hI hA)
 have HAL := hide hA
 obtain ⟨h320, hm1, hm15, halw⟩ := hA
 have HQ := hide (rarest_c B a cap ls w h320 hI)
 have HI := hide hI
 have hmk := made_ints ls.length i0 hi0 hz0 hz1' hz2' (by omega)
 have hwp := wrap_pow (show L <= 62 by omega)
 have hno : ¬ ((2 : Int) ^ L) < (nocc ls : Int) := by
  have hf : nocc ls <= 2 ^ L := by simpa using hfit
  have : ((nocc ls : Nat) : Int) <= ((2 ^ L : Nat) : Int) := Int.ofNat_le.2 hf
  have e : ((2 ^ L : Nat) : Int) = (2 : Int) ^ L := by simp
  omega
 have HFIT := hide (show nocc ls <= 2 ^ L by simpa using hfit)
 clear hI halw hfit
 by_cases h2 : nocc ls < 2
 ·have h2' : (nocc ls : Int) < 2 := by omega
  go_enter Tryz.func117, Tryz.ntmps117
  go_wp2_with (first
   | (go_at_call 132; refine HA.out.mono ?_; rintro e w1 ⟨rfl, rfl⟩)
   | (go_at_call 133; refine HQ.out.mono ?_; rintro e w2 ⟨v, d, rfl, k1, k2, k3, k4⟩; have hdl := nocc_le k2; have HO := hide k1; have HP := hide k2; obtain ⟨av, cv, rfl⟩ := own_form k1; have HB := hide k4; have HDL := hide hdl; rw [hdl]; clear k1 k2 k3 k4 hdl))
  have hs1 := HB.out.size
  go_loopg [29] (nocc ls) (fun gk v29 wx => ∃ i : Nat, i + gk = nocc ls /\ v29 = .int .i64 i /\ Hid (∃ F, F.length = ls.length /\ (∀ y, ln F y = if ∃ x, x < i /\ (ln d x).toNat = y then 1 else 0) /\ Ro w2.heap.size #[] F wx /\ Kept (fun i => i = w2.heap.size) (w2.alloc (.cells (rowA (List.replicate ls.length 0) #[]) 3)) wx))
  case atStart => exact ⟨0, by omega, rfl, List.replicate ls.length 0, by simp, fun y => by rw [zeros_ln, if_neg (by rintro ⟨x, hx, _⟩; omega)], heap_new w2 _, Kept.refl _ _⟩
  case round =>
   obtain ⟨i, hig, rfl, HF⟩ := hrel
   cases gk with
   | zero =>
    obtain rfl : i = nocc ls := by omega
    clear hno
    go_wp2_with fail
    go_ret2
    obtain ⟨F, f1, f2, f3, f4⟩ := HF.out
    rw [<- HDL.out] at f2
    have hb4 : Below w1.heap.size w1 wr := (HB.out.alloc hs1 _).trans ((f4.below (B := w1.heap.size) (by simp; omega) (fun i hi e => by omega)))
    exact ⟨w2.heap.size, F, rfl, hs1, f3, few_good HP.out (by rw [HDL.out]; omega) f1 f2, hb4⟩
   | succ g1 =>
    have hlt : (i : Int) < (nocc ls : Int) := by omega
    have hid : i < d.length := by rw [HDL.out]; omega
    obtain ⟨a3, c3, hv, hii⟩ := HO.out.ints
    simp only [Value.slice.injEq] at hv
    obtain ⟨rfl, _, rfl⟩ := hv
    obtain ⟨b2, off2, _, hb2, hb2w, rfl, hcell2⟩ := hii.resolve_left (by omega)
    obtain ⟨F, f1, f2, f3, f4⟩ := HF.out
    obtain ⟨x, hx, hxl, _⟩ := (occ_mem ls ls.length (ln d i)).1 (HP.out.mem_iff.1 (by rw [ln_in hid]; exact List.getElem_mem hid))
    have cd : wr.cell? ⟨b2, off2 + i, none⟩ = some (.int .i64 (x : Int)) := by
     rw [f4.cell (p := ⟨b2, off2 + i, none⟩) (show b2 < (w2.alloc _).heap.size by simp; omega) (show ¬ b2 = w2.heap.size by omega)]
     rw [World.cell?_of_block (w := w2) (show (w2.alloc (.cells (rowA (List.replicate ls.length 0) #[]) 3)).heap[b2]? = w2.heap[b2]? from Below.heap_alloc _ _ _ hb2w), hcell2 i hid, hx]
    have cl := f3.cell (i := x) (by rw [f1]; exact hxl)
    have fl := f3.free x
    have hxl' : (x : Int) < (ls.length : Int) := by omega
    have HST : Hid (∃ F, F.length = ls.length /\ (∀ y, ln F y = if ∃ x, x < i + 1 /\ (ln d x).toNat = y then 1 else 0) /\ Ro w2.heap.size #[] F (wr.setCell ⟨w2.heap.size, x, none⟩ (.int .i64 1)) /\ Kept (fun i => i = w2.heap.size) (w2.alloc (.cells (rowA (List.replicate ls.length 0) #[]) 3)) (wr.setCell ⟨w2.heap.size, x, none⟩ (.int .i64 1))) := by
     refine ⟨F.set x 1, by simpa using f1, fun y => ?_, f3.set (by rw [f1]; exact hxl) 1, f4.setCell (fun _ => rfl) _⟩
     rw [ln_set _ _ _ (by rw [f1]; exact hxl), f2]
     by_cases e : y = x
     ·rw [if_pos e, if_pos ⟨i, by omega, by rw [hx, e]; simp⟩]
     ·rw [if_neg e]
      by_cases c : ∃ z, z < i /\ (ln d z).toNat = y
      ·obtain ⟨z, z1, z2⟩ := c
       rw [if_pos ⟨z, z1, z2⟩, if_pos ⟨z, by omega, z2⟩]
      ·rw [if_neg c, if_neg]
       rintro ⟨z, z1, z2⟩
       by_cases ez : z = i
       ·subst ez
        rw [hx] at z2
        simp at z2
        exact e z2.symm
       ·exact c ⟨z, by omega, z2⟩
    generalize ln F x = V at cl
    clear HF hcell2 hx hii f1 f2 f3 f4 hno
    go_wp2_with fail
    go_roundg g1
    case measure => omega
    case rel => exact ⟨i + 1, by omega, by go_num, HST.out⟩
 ·have h2' : ¬ (nocc ls : Int) < 2 := by omega
  go_enter Tryz.func117, Tryz.ntmps117
  go_upto_region 14 with (first
   | (go_at_call 132; refine HA.out.mono ?_; rintro e w1 ⟨rfl, rfl⟩)
   | (go_at_call 133; refine HQ.out.mono ?_; rintro e w2 ⟨v, d, rfl, k1, k2, k3, k4⟩; have hdl := nocc_le k2; have HO := hide k1; have HP := hide k2; have HSR := hide k3; obtain ⟨av, cv, rfl⟩ := own_form k1; have HB := hide k4; have HDL := hide hdl; rw [hdl]; clear k1 k2 k3 k4 hdl))
  have hs1 := HB.out.size
  have hnl : nocc ls <= ls.length := occ_length ls ls.length
  have hall : All (IsSym ls) d := fun x hx => by
   obtain ⟨i, e1, e2, _⟩ := (occ_mem ls ls.length x).1 (HP.out.mem_iff.1 hx)
   exact ⟨i, e1, e2⟩
  obtain ⟨a3, c3, hv, hii⟩ := HO.out.ints
  simp only [Value.slice.injEq] at hv
  obtain ⟨rfl, _, rfl⟩ := hv
  obtain ⟨W3, hW3⟩ : ∃ W3, w2.alloc (.cells (rowA (List.replicate ls.length 0) #[]) 3) = W3 := ⟨_, rfl⟩
  have hBl : Below w1.heap.size w1 W3 := by rw [<- hW3]; exact HB.out.alloc hs1 _
  have hK3 : Below w2.heap.size w2 W3 := by rw [<- hW3]; exact (Below.refl _ w2).alloc (Nat.le_refl _) _
  have hsz3 : W3.heap.size = w2.heap.size + 1 := by rw [<- hW3]; simp
  have hro : Ro w2.heap.size #[] (List.replicate ls.length 0) W3 := by rw [<- hW3]; exact heap_new w2 _
  have hI3 : Ints 0 B W3 a ls := HI.out.stay hBl
  have hD3 : Ints w1.heap.size w2.heap.size W3 av d := hii.stay hK3
  have hrw := rows_c 0 B w1.heap.size w2.heap.size a av cap cv ls d L W3 (by rw [HDL.out]; omega) (by rw [HDL.out]; omega) (by omega) (by omega) hall (sym_small HAL.out hall) hI3 hD3
  obtain ⟨htk, hgd⟩ := good_of HP.out HSR.out.1 HSR.out.2 (by rw [HDL.out]; omega) (by rw [HDL.out]; exact HFIT.out)
  have hln : ∀ w4 g10 c10 gs, gs.length = L -> RowsAt W3.heap.size (symP ls d) w4 (.slice (some ⟨g10, 0, none⟩) L c10) gs -> Below W3.heap.size W3 w4 -> Calls Tryz.prog 134 #[.slice (some ⟨w2.heap.size, 0, none⟩) ls.length ls.length, .slice av (nocc ls) cv, .slice (some ⟨g10, 0, none⟩) L c10] w4 (LenOk w2.heap.size #[] (lenGo (symP ls d) d L (2 * d.length - 2) (List.replicate ls.length 0)) w4) := by
   intro w4 g10 c10 gs q1 q2 q3
   have := lengthen_c w2.heap.size #[] ls.length w1.heap.size w2.heap.size av cv W3.heap.size g10 c10 (symP ls d) ls d (List.replicate ls.length 0) gs L w4 (by rw [HDL.out]; omega) (by rw [HDL.out]; omega) (by omega) q1 (symP_length ls d) hall (by simp) (hro.kept (Kept.of_below q3) (by omega)) (fun i => by rw [zeros_ln]; omega) (hD3.below q3 (by omega)) (Nat.le_refl _) q2 (by omega) htk
   rw [<- HDL.out]
   exact this
  have HLN := hide hln
  have HGD := hide hgd
  have HB3 := hide hBl
  have hrw' : Calls Tryz.prog 135 #[.slice a ls.length cap, .slice av (nocc ls) cv, .int .i64 L] W3 (RowsOk (symP ls d) L W3) := by rw [<- HDL.out]; exact hrw
  have HRW := hide hrw'
  change Code.wp _ _ _ _ (w2.alloc (.cells (rowA (List.replicate ls.length 0) #[]) 3))
  rw [hW3]
  clear hrw hrw' hln hgd htk hI3 hD3 hro hK3 hBl hall hii hW3 hno h2' HA HQ hmk
  go_wp2_with (first
   | (go_at_call 135; refine HRW.out.mono ?_; rintro e w4 ⟨v4, gs, rfl, q1, q2, q3⟩; have HQ1 := hide q1; have ho := q2.owns; rw [q1] at ho; obtain ⟨g10, c10, rfl, hg10⟩ := own_some ho (by omega); have HQ2 := hide q2; have HQ3 := hide q3; clear q1 q2 q3 ho)
   | (go_at_call 134; refine (HLN.out _ _ _ _ HQ1.out HQ2.out HQ3.out).mono ?_; rintro e w5 ⟨rfl, r1, r2⟩; have HR1 := hide r1; have HR2 := hide r2; clear r1 r2))
  go_ret2
  have h4 : Below w1.heap.size w1 w4 := HB3.out.trans (HQ3.out.mono HB3.out.size)
  exact ⟨w2.heap.size, _, rfl, hs1, HR1.out, HGD.out, h4.trans (HR2.out.below (B := w1.heap.size) h4.size (fun i hi e => by omega))⟩
#print axioms lengths_yes
end Go.Proofs.YteknifnadbmfiaaGreatDoor.L

/- Cost: what it tells, for whatever numbers. -/
namespace Go.Proofs.YteknifnadbmfiaaGreatDoor.L
set_option maxRecDepth 100000
open Go Go.RowKit

def cw (A B : List Int) : Nat -> Int
 | 0 => 0
 | n + 1 => wrap64 (cw A B n + wrap64 (ln A n * ln B n))
theorem wrap_bd (x : Int) : -9223372036854775808 <= wrap64 x /\ wrap64 x <= 9223372036854775807 := by
 unfold wrap64; omega
theorem cw_bd (A B : List Int) (n : Nat) : -9223372036854775808 <= cw A B n /\ cw A B n <= 9223372036854775807 := by
 cases n with
 | zero => simp [cw]
 | succ n => rw [cw]; exact wrap_bd _

set_option maxHeartbeats 1000000 in
set_option maxRecDepth 100000 in
theorem cost_c (lo hi lo' hi' : Nat) (a b : Option Addr) (cap cap' : Nat) (A B : List Int) (w : World) (hA : Ints lo hi w a A) (hB : Ints lo' hi' w b B) (hla : A.length <= 17592186043904) :
  Calls Tryz.prog 116 #[.slice a A.length cap, .slice b B.length cap'] w fun e w' => e = .returned (.int .i64 (cw A B (min A.length B.length))) /\ ∃ q, w' = w.drewN q := by
 have HA := hide hA
 have HB := hide hB
 clear hA hB
 obtain ⟨N, hN⟩ : ∃ N, min A.length B.length = N := ⟨_, rfl⟩
 have hN' : min (A.length : Int) (B.length : Int) = (N : Int) := by omega
 have hNA : N <= A.length := by omega
 have hNB : N <= B.length := by omega
 rw [hN]
 clear hN
 go_enter Tryz.func116, Tryz.ntmps116
 go_upto_region 2 with fail
 go_cut [11, 12] (fun v11 v12 wx => v11 = .int .i64 N /\ v12 = .int .i64 0 /\ w = wx)
 case first =>
  go_wp2_with fail
  all_goals go_meet
  all_goals exact ⟨congrArg (Value.int .i64) (by omega), rfl, rfl⟩
 case rest =>
  obtain ⟨rfl, rfl, rfl⟩ := hcut
  go_wp2_with fail
  go_loopg [5, 12] N (fun gk v5 v12 wx => ∃ i q : Nat, i + gk = N /\ v12 = .int .i64 i /\ v5 = .int .i64 (cw A B i) /\ wx = w.drewN q)
  case atStart => exact ⟨0, 0, by omega, rfl, rfl, rfl⟩
  case round =>
   obtain ⟨i, q, hig, rfl, rfl, rfl⟩ := hrel
   cases gk with
   | zero =>
    obtain rfl : i = N := by omega
    go_wp2_with fail
    go_ret
    exact ⟨rfl, q, rfl⟩
   | succ g1 =>
    have hlt : (i : Int) < (N : Int) := by omega
    obtain ⟨ba, oa, _, _, hba, rfl, hca⟩ := HA.out.resolve_left (by omega)
    obtain ⟨bb, ob, _, _, hbb, rfl, hcb⟩ := HB.out.resolve_left (by omega)
    have ca : (w.drewN q).cell? ⟨ba, oa + i, none⟩ = some (.int .i64 (ln A i)) := hca i (by omega)
    have cb : (w.drewN q).cell? ⟨bb, ob + i, none⟩ = some (.int .i64 (ln B i)) := hcb i (by omega)
    have hla1 : (i : Int) < (A.length : Int) := by omega
    have hlb1 : (i : Int) < (B.length : Int) := by omega
    have hcw : cw A B (i + 1) = wrap64 (cw A B i + wrap64 (ln A i * ln B i)) := rfl
    have HCW := hide hcw
    have bd := cw_bd A B i
    clear hca hcb hcw
    generalize ln A i = X at ca HCW
    generalize ln B i = Y at cb HCW
    generalize cw A B i = C at HCW bd ⊢
    generalize hwq : w.drewN q = wq at ca cb ⊢
    have HWQ := hide hwq
    clear hwq
    go_wp2_with fail
    go_region
    go_wp2_with fail
    go_roundg g1
    case measure => omega
    case rel => exact ⟨i + 1, q + 1, by omega, by go_num, by rw [HCW.out], by rw [<- HWQ.out]; rfl⟩
end Go.Proofs.YteknifnadbmfiaaGreatDoor.L

/- What lengths cost; the laws' probe. -/
namespace Go.Proofs.YteknifnadbmfiaaGreatDoor.L
set_option maxRecDepth 100000
open Go Go.RowKit

def Valid (ls F : List Int) (L n : Nat) : Prop := ∀ i, i < n -> (ln ls i = 0 /\ ln F i = 0) \/ (0 < ln ls i /\ 1 <= ln F i /\ ln F i <= L)
theorem occ_succ_pos {ls : List Int} {n : Nat} (h : 0 < ln ls n) : occ ls (n + 1) = occ ls n ++ [(n : Int)] := by rw [occ, if_pos h]
theorem occ_succ_zero {ls : List Int} {n : Nat} (h : ¬ 0 < ln ls n) : occ ls (n + 1) = occ ls n := by rw [occ, if_neg h]
theorem cst_snoc (Z : List (Nat × Nat)) (z : Nat × Nat) : cst (Z ++ [z]) = cst Z + z.1 * z.2 := by simp [cst]
theorem krf_snoc (L : Nat) (Z : List (Nat × Nat)) (z : Nat × Nat) : krf L (Z ++ [z]) = krf L Z + 2 ^ (L - z.2) := by simp [krf]
theorem zOf_snoc (ls F d : List Int) (n : Nat) : zOf ls F (d ++ [(n : Int)]) = zOf ls F d ++ [((ln ls n).toNat, (ln F n).toNat)] := by simp [zOf, keyOf]
theorem mul_le_of {x y : Nat} (a b c : Nat) (hx : x <= a) (hy : y <= b) (hc : a * b = c) : x * y <= c := by rw [<- hc]; exact Nat.mul_le_mul hx hy
theorem cst_bd {ls F : List Int} {L n : Nat} (ha : AlwTo ls n) (hv : Valid ls F L n) (hL : L <= 15) : cst (zOf ls F (occ ls n)) <= 16106127360 * n := by
 induction n with
 | zero => simp [occ, zOf, cst]
 | succ n ih =>
  have i := ih (fun i hi => ha i (by omega)) (fun i hi => hv i (by omega))
  by_cases h : 0 < ln ls n
  ·rw [occ_succ_pos h, zOf_snoc, cst_snoc]
   have h1 := ha n (by omega)
   have h2 := hv n (by omega)
   have h3 : (ln ls n).toNat * (ln F n).toNat <= 16106127360 := mul_le_of 1073741824 15 16106127360 (by omega) (by omega) (by decide)
   generalize cst (zOf ls F (occ ls n)) = C at i ⊢
   show C + (ln ls n).toNat * (ln F n).toNat <= _
   generalize (ln ls n).toNat * (ln F n).toNat = P at h3 ⊢
   omega
  ·rw [occ_succ_zero h]
   generalize cst (zOf ls F (occ ls n)) = C at i ⊢
   omega
theorem wrap_sum {C P : Nat} (hC : C <= 5153960755200) (hP : P <= 16106127360) : wrap64 ((C : Int) + wrap64 ((P : Nat) : Int)) = ((C + P : Nat) : Int) := by
 unfold wrap64; omega
theorem cw_cst {ls F : List Int} {L n : Nat} (ha : AlwTo ls n) (hv : Valid ls F L n) (hL : L <= 15) (hn : n <= 320) : cw ls F n = (cst (zOf ls F (occ ls n)) : Nat) := by
 induction n with
 | zero => simp [cw, occ, zOf, cst]
 | succ n ih =>
  have i := ih (fun i hi => ha i (by omega)) (fun i hi => hv i (by omega)) (by omega)
  have hb := cst_bd (fun i hi => ha i (by omega)) (fun i hi => hv i (by omega)) hL (n := n)
  have hC : cst (zOf ls F (occ ls n)) <= 5153960755200 := Nat.le_trans hb (Nat.mul_le_mul_left 16106127360 (show n <= 320 by omega))
  rw [cw, i]
  have h1 := ha n (by omega)
  have h2 := hv n (by omega)
  by_cases h : 0 < ln ls n
  ·rw [occ_succ_pos h, zOf_snoc, cst_snoc]
   have h3 : (ln ls n).toNat * (ln F n).toNat <= 16106127360 := mul_le_of 1073741824 15 16106127360 (by omega) (by omega) (by decide)
   have e : ln ls n * ln F n = (((ln ls n).toNat * (ln F n).toNat : Nat) : Int) := by
    rw [Int.natCast_mul, Int.toNat_of_nonneg (by omega), Int.toNat_of_nonneg (by omega)]
   rw [e]
   exact wrap_sum hC h3
  ·have e0 : ln ls n = 0 := by omega
   rw [occ_succ_zero h, e0, Int.zero_mul]
   exact wrap_sum hC (Nat.zero_le _)
theorem LGoodR.valid {ls F : List Int} {L : Nat} (h : LGoodR ls L F) (ha : AlwTo ls ls.length) (hL : 1 <= L) : Valid ls F L ls.length := by
 intro i hi
 by_cases h0 : 0 < ln ls i
 ·right
  refine ⟨h0, ?_⟩
  have hm : (i : Int) ∈ occ ls ls.length := (occ_mem ls ls.length _).2 ⟨i, rfl, hi, h0⟩
  by_cases h1 : (occ ls ls.length).length = 1
  ·rw [h.one h1 i hi h0]; omega
  ·have h2 : 2 <= (occ ls ls.length).length := by have := List.length_pos_of_mem hm; omega
   have hf := (h.best h2).feas.lens ((ln ls i).toNat, (ln F i).toNat) (List.mem_map.2 ⟨(i : Int), hm, by simp [keyOf]⟩)
   have := h.pos i
   simp only at hf
   omega
 ·left
  have := ha i hi
  exact ⟨by omega, h.zero i (fun h' => h0 h'.2)⟩
theorem LGoodR.cost {ls F : List Int} {L : Nat} (h : LGoodR ls L F) (ha : Alw ls L) : cw ls F (min ls.length F.length) = (cst (zOf ls F (occ ls ls.length)) : Nat) := by
 rw [h.len, Nat.min_self]
 have h1 := ha.2.1
 have h2 := ha.2.2.1
 exact cw_cst ha.2.2.2 (h.valid ha.2.2.2 (by omega)) (by omega) ha.1

abbrev proO : Obj := .cells #[.int .i64 5, .int .i64 1, .int .i64 1, .int .i64 2] 3
end Go.Proofs.YteknifnadbmfiaaGreatDoor.L
