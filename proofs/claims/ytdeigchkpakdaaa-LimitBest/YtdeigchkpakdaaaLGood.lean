/- What lengthen gives the symbols are the best lengths. -/
import Derived.Test.YtdeigchkpakdaaaLLen
import Derived.Test.YtdeigchkpakdaaaLTake
namespace Go.Proofs.Ytdeigchkpakdaaa

def wts (xs : List (Int × Bool)) : List Nat := xs.map fun p => p.1.toNat
theorem wts_length (xs : List (Int × Bool)) : (wts xs).length = xs.length := by simp [wts]
def Pos (xs : List (Int × Bool)) : Prop := ∀ p ∈ xs, 0 ≤ p.1
theorem wts_mrgP (A B : List (Int × Bool)) (hA : Pos A) (hB : Pos B) : wts (mrgP A B) = mrg (wts A) (wts B) := by
  induction A generalizing B with
  | nil => simp [mrgP, wts, mrg]
  | cons x A ihA =>
    induction B with
    | nil => simp [mrgP, wts, mrg]
    | cons y B ihB =>
      have hx := hA x (by simp)
      have hy := hB y (by simp)
      have hA' : Pos A := fun p hp => hA p (by simp [hp])
      have hB' : Pos B := fun p hp => hB p (by simp [hp])
      have e1 : wts (x :: A) = x.1.toNat :: wts A := rfl
      have e2 : wts (y :: B) = y.1.toNat :: wts B := rfl
      rw [mrgP, e1, e2, mrg]
      by_cases h : x.1 ≤ y.1
      · rw [if_pos h, if_pos (by omega), ← e2, ← ihA (y :: B) hA' hB]; rfl
      · rw [if_neg h, if_neg (by omega), ← e1, ← ihB hB']; rfl
theorem cnt_mrgP (A B : List (Int × Bool)) (hA : Pos A) (hB : Pos B) (uA : ∀ p ∈ A, p.2 = false) (uB : ∀ p ∈ B, p.2 = true) (T : Nat) (hT : T ≤ A.length + B.length) : cnt (mrgP A B) T = fa (wts A) (wts B) T := by
  have cz : ∀ (B : List (Int × Bool)), (∀ p ∈ B, p.2 = true) → ∀ T, T ≤ B.length → cnt B T = 0 := by
    intro B h T
    induction T with
    | zero => intro _; rfl
    | succ T ih =>
      intro hT
      rw [cnt, ih (by omega), px_in (by omega), h _ (List.getElem_mem _)]
      simp
  induction A generalizing B T with
  | nil =>
    rw [show mrgP [] B = B by simp [mrgP], show wts [] = [] from rfl, fa_nil]
    exact cz B uB T (by simpa using hT)
  | cons x A ihA =>
    have hx := hA x (by simp)
    have ux := uA x (by simp)
    have hA' : Pos A := fun p hp => hA p (by simp [hp])
    have uA' : ∀ p ∈ A, p.2 = false := fun p hp => uA p (by simp [hp])
    induction B generalizing T with
    | nil =>
      cases T with
      | zero => simp [cnt, fa]
      | succ T =>
        have i := ihA [] hA' hB uA' uB T (by simp at hT ⊢; omega)
        rw [mrgP_nil] at i
        rw [show mrgP (x :: A) [] = x :: A by simp [mrgP], cnt_cons, i, ux, show wts (x :: A) = x.1.toNat :: wts A from rfl, show wts [] = [] from rfl, fa]
        simp; omega
    | cons y B ihB =>
      have hy := hB y (by simp)
      have uy := uB y (by simp)
      have hB' : Pos B := fun p hp => hB p (by simp [hp])
      have uB' : ∀ p ∈ B, p.2 = true := fun p hp => uB p (by simp [hp])
      have e1 : wts (x :: A) = x.1.toNat :: wts A := rfl
      have e2 : wts (y :: B) = y.1.toNat :: wts B := rfl
      cases T with
      | zero => simp [cnt, fa]
      | succ T =>
        rw [mrgP, e1, e2, fa]
        by_cases h : x.1 ≤ y.1
        · rw [if_pos h, if_pos (by omega), cnt_cons, ux, ihA (y :: B) hA' hB uA' uB T (by simp at hT ⊢; omega), e2]
          simp; omega
        · rw [if_neg h, if_neg (by omega), cnt_cons, uy, ihB hB' uB' T (by simp at hT ⊢; omega), e1]
          simp
theorem prs_at : ∀ (A : List Nat) (i : Nat), i < A.length / 2 → (prs A)[i]? = some (A.getD (2 * i) 0 + A.getD (2 * i + 1) 0)
  | [], i, h => by simp at h
  | [_], i, h => by simp at h
  | x :: y :: r, 0, _ => by simp [prs]
  | x :: y :: r, i + 1, h => by
    rw [prs, List.getElem?_cons_succ, prs_at r i (by simp only [List.length_cons] at h; omega)]
    have e1 : 2 * (i + 1) = 2 * i + 1 + 1 := by omega
    rw [e1]
    simp [List.getD]
theorem wts_prsP (xs : List (Int × Bool)) (h : Pos xs) : wts (prsP xs) = prs (wts xs) := by
  apply List.ext_getElem?
  intro i
  by_cases hi : i < xs.length / 2
  · rw [prs_at _ i (by rw [wts_length]; exact hi)]
    have e : ∀ j, j < xs.length → (wts xs).getD j 0 = (px xs j).1.toNat := by
      intro j hj
      rw [px_in hj]; simp [wts, List.getD, hj]
    have p : ∀ j, j < xs.length → 0 ≤ (px xs j).1 := by
      intro j hj
      rw [px_in hj]; exact h _ (List.getElem_mem hj)
    rw [e _ (by omega), e _ (by omega)]
    have p1 := p (2 * i) (by omega)
    have p2 := p (2 * i + 1) (by omega)
    simp [wts, prsP, hi]
    omega
  · rw [List.getElem?_eq_none (by rw [wts_length, prsP_length]; omega), List.getElem?_eq_none (by rw [prs_length, wts_length]; omega)]
theorem mrgP_pos {A B : List (Int × Bool)} (hA : Pos A) (hB : Pos B) : Pos (mrgP A B) := by
  induction A generalizing B with
  | nil => simpa [mrgP] using hB
  | cons x A ihA =>
    induction B with
    | nil => simpa [mrgP] using hA
    | cons y B ihB =>
      intro p hp
      rw [mrgP] at hp
      split at hp
      · rcases List.mem_cons.1 hp with rfl | hp
        · exact hA _ (by simp)
        · exact ihA (fun q hq => hA q (by simp [hq])) hB p hp
      · rcases List.mem_cons.1 hp with rfl | hp
        · exact hB _ (by simp)
        · exact ihB (fun q hq => hB q (by simp [hq])) p hp
theorem prsP_pos {A : List (Int × Bool)} (h : Pos A) : Pos (prsP A) := by
  intro p hp
  obtain ⟨i, hi, rfl⟩ := List.mem_map.1 hp
  have hi' : i < A.length / 2 := by simpa using hi
  have p : ∀ j, j < A.length → 0 ≤ (px A j).1 := by
    intro j hj
    rw [px_in hj]; exact h _ (List.getElem_mem hj)
  have p1 := p (2 * i) (by omega)
  have p2 := p (2 * i + 1) (by omega)
  simp only; omega
theorem prsP_packed (A : List (Int × Bool)) : ∀ p ∈ prsP A, p.2 = true := by
  intro p hp
  obtain ⟨i, _, rfl⟩ := List.mem_map.1 hp
  rfl
theorem rowsP_pos {S : List (Int × Bool)} (h : Pos S) (k : Nat) : Pos (rowsP S k) := by
  induction k with
  | zero => exact h
  | succ k ih => exact mrgP_pos h (prsP_pos ih)
theorem wts_rowsP {S : List (Int × Bool)} (h : Pos S) (k : Nat) : wts (rowsP S k) = pk (wts S) (k + 1) := by
  induction k with
  | zero => rw [rowsP, pk, pk, show prs [] = [] from rfl, mrg_nil]
  | succ k ih => rw [rowsP, wts_mrgP S _ h (prsP_pos (rowsP_pos h k)), wts_prsP _ (rowsP_pos h k), ih]; rfl
theorem cnt_rowsP {S : List (Int × Bool)} (h : Pos S) (u : ∀ p ∈ S, p.2 = false) (k T : Nat) (hT : T ≤ (rowsP S k).length) : cnt (rowsP S k) T = fa (wts S) (prs (pk (wts S) k)) T := by
  cases k with
  | zero =>
    have := cnt_mrgP S [] h (fun p hp => by simp at hp) u (fun p hp => by simp at hp) T (by simpa [rowsP] using hT)
    rw [mrgP_nil] at this
    rw [rowsP, this, pk]; rfl
  | succ k =>
    rw [rowsP] at hT ⊢
    rw [mrgP_length] at hT
    rw [cnt_mrgP S _ h (prsP_pos (rowsP_pos h k)) u (prsP_packed _) T hT, wts_prsP _ (rowsP_pos h k), wts_rowsP h k]

/-- How many of each level are taken. -/
def cOf (A : List Nat) : Nat → Nat → Nat → Nat
  | 0, _, _ => 0
  | d + 1, k, j => if j = d + 1 then fa A (prs (pk A d)) k else cOf A d (2 * (k - fa A (prs (pk A d)) k)) j
theorem cOf_chain (A : List Nat) (d k : Nat) (h : k ≤ (pk A d).length) : (∀ j, cOf A d k j ≤ A.length) ∧ pre (pk A d) k = cc A (cOf A d k) d ∧ sumD (fun j => cOf A d k j * 2 ^ j) d = k * 2 ^ d := by
  induction d generalizing k with
  | zero =>
    have : k = 0 := by simpa [pk] using h
    subst this
    exact ⟨fun _ => Nat.zero_le _, by simp [pre_zero, cc], by simp [sumD]⟩
  | succ d ih =>
    rw [pk_length] at h
    obtain ⟨a1, a2, a3, a4⟩ := pre_fa A (prs (pk A d)) k (by rw [prs_length]; exact h)
    rw [prs_length] at a3
    obtain ⟨b1, b2, b3⟩ := ih (2 * (k - fa A (prs (pk A d)) k)) (by omega)
    have hcc : ∀ e, e ≤ d → cc A (cOf A (d + 1) k) e = cc A (cOf A d (2 * (k - fa A (prs (pk A d)) k))) e := by
      intro e he
      induction e with
      | zero => rfl
      | succ e ihe =>
        rw [cc, cc, ihe (by omega), cOf, if_neg (by omega)]
    have hsd : ∀ e, e ≤ d → sumD (fun j => cOf A (d + 1) k j * 2 ^ j) e = sumD (fun j => cOf A d (2 * (k - fa A (prs (pk A d)) k)) j * 2 ^ j) e := by
      intro e he
      induction e with
      | zero => rfl
      | succ e ihe =>
        rw [sumD, sumD, ihe (by omega), cOf, if_neg (by omega)]
    refine ⟨fun j => ?_, ?_, ?_⟩
    · rw [cOf]; split
      · exact a1
      · exact b1 j
    · rw [pk, a4, cc, hcc d (Nat.le_refl _), ← b2, pre_prs (pk A d) _ (by omega), cOf, if_pos rfl]
      omega
    · rw [sumD, hsd d (Nat.le_refl _), b3, cOf, if_pos rfl]
      rw [Nat.pow_succ, Nat.mul_comm 2 (k - fa A (prs (pk A d)) k), Nat.mul_assoc, Nat.mul_comm 2 (2 ^ d), ← Nat.add_mul]
      congr 1; omega
theorem ll_cOf (A : List Nat) (d k x : Nat) : ll (cOf A (d + 1) k) (d + 1) x = ll (cOf A d (2 * (k - fa A (prs (pk A d)) k))) d x + if x < fa A (prs (pk A d)) k then 1 else 0 := by
  unfold ll
  rw [sumD]
  have hsd : ∀ e, e ≤ d → sumD (fun j => if x < cOf A (d + 1) k j then 1 else 0) e = sumD (fun j => if x < cOf A d (2 * (k - fa A (prs (pk A d)) k)) j then 1 else 0) e := by
    intro e he
    induction e with
    | zero => rfl
    | succ e ihe =>
      have e1 : cOf A (d + 1) k (e + 1) = cOf A d (2 * (k - fa A (prs (pk A d)) k)) (e + 1) := by rw [cOf, if_neg (by omega)]
      rw [sumD, sumD, ihe (by omega), e1]
  rw [hsd d (Nat.le_refl _), cOf, if_pos rfl]
theorem takeOk {S : List (Int × Bool)} (h : Pos S) (u : ∀ p ∈ S, p.2 = false) (L T : Nat) (hT : T ≤ (pk (wts S) L).length) : TakeOk S S.length L T := by
  induction L generalizing T with
  | zero => trivial
  | succ k ih =>
    have hl : (rowsP S k).length = (pk (wts S) (k + 1)).length := by rw [← wts_rowsP h k, wts_length]
    have hc := cnt_rowsP h u k T (by rw [hl]; exact hT)
    rw [pk_length] at hT
    obtain ⟨a1, a2, a3, a4⟩ := pre_fa (wts S) (prs (pk (wts S) k)) T (by rw [prs_length]; exact hT)
    rw [prs_length] at a3
    refine ⟨by rw [hl, pk_length]; exact hT, by rw [hc, ← wts_length S]; exact a1, ?_⟩
    rw [hc]
    exact ih _ (by omega)

/-- Symbols that are told apart. -/
def Dist (d : List Int) (n : Nat) : Prop := (∀ i, i < d.length → 0 ≤ ln d i ∧ (ln d i).toNat < n) ∧ (∀ i j, i < d.length → j < d.length → (ln d i).toNat = (ln d j).toNat → i = j)
theorem incD_at {E d : List Int} (hd : Dist d E.length) (m x : Nat) (hm : m ≤ d.length) (hx : x < d.length) : ln (incD E d m) (ln d x).toNat = ln E (ln d x).toNat + if x < m then 1 else 0 := by
  induction m with
  | zero => simp [incD]
  | succ m ih =>
    rw [incD, ln_set _ _ _ (by rw [incD_length]; exact (hd.1 m (by omega)).2)]
    by_cases e : (ln d x).toNat = (ln d m).toNat
    · have e' := hd.2 x m hx (by omega) e
      subst e'
      rw [if_pos rfl, ih (by omega), if_neg (by omega), if_pos (by omega)]; omega
    · have e' : x ≠ m := fun h => e (by rw [h])
      rw [if_neg e, ih (by omega)]
      by_cases c : x < m
      · rw [if_pos c, if_pos (by omega)]
      · rw [if_neg c, if_neg (by omega)]
theorem incD_out {E d : List Int} (hd : Dist d E.length) (m y : Nat) (hm : m ≤ d.length) (hy : ∀ x, x < d.length → (ln d x).toNat ≠ y) : ln (incD E d m) y = ln E y := by
  induction m with
  | zero => simp [incD]
  | succ m ih =>
    rw [incD, ln_set _ _ _ (by rw [incD_length]; exact (hd.1 m (by omega)).2), if_neg (fun e => hy m (by omega) e.symm), ih (by omega)]
theorem lenGo_length (S : List (Int × Bool)) (d : List Int) (L T : Nat) (E : List Int) : (lenGo S d L T E).length = E.length := by
  induction L generalizing T E with
  | zero => rfl
  | succ k ih => rw [lenGo, ih, incD_length]
theorem lenGo_at {S : List (Int × Bool)} (h : Pos S) (u : ∀ p ∈ S, p.2 = false) {d : List Int} (hS : S.length = d.length) (L T : Nat) (hT : T ≤ (pk (wts S) L).length) (E : List Int) (hd : Dist d E.length) (x : Nat) (hx : x < d.length) :
    ln (lenGo S d L T E) (ln d x).toNat = ln E (ln d x).toNat + ll (cOf (wts S) L T) L x := by
  induction L generalizing T E with
  | zero => simp [lenGo, ll, sumD]
  | succ k ih =>
    have tk := takeOk h u (k + 1) T hT
    have hl : (rowsP S k).length = (pk (wts S) (k + 1)).length := by rw [← wts_rowsP h k, wts_length]
    have hc := cnt_rowsP h u k T (by rw [hl]; exact hT)
    have c2 := tk.2.1
    rw [pk_length] at hT
    obtain ⟨a1, a2, a3, a4⟩ := pre_fa (wts S) (prs (pk (wts S) k)) T (by rw [prs_length]; exact hT)
    rw [prs_length] at a3
    rw [lenGo, hc]
    rw [hc] at c2
    rw [ih _ (by omega) _ (by rw [incD_length]; exact hd), incD_at hd _ x (by omega) hx, ll_cOf]
    push_cast
    split <;> omega
theorem lenGo_out {S : List (Int × Bool)} {d : List Int} (hS : S.length = d.length) (L T : Nat) (ht : TakeOk S S.length L T) (E : List Int) (hd : Dist d E.length) (y : Nat) (hy : ∀ x, x < d.length → (ln d x).toNat ≠ y) : ln (lenGo S d L T E) y = ln E y := by
  induction L generalizing T E with
  | zero => rfl
  | succ k ih =>
    obtain ⟨t1, t2, t3⟩ := ht
    rw [lenGo, ih _ t3 _ (by rw [incD_length]; exact hd), incD_out hd _ y (by omega) hy]

theorem occ_nodup (ls : List Int) (n : Nat) : (occ ls n).Nodup := by
  induction n with
  | zero => simp [occ]
  | succ n ih =>
    rw [occ]
    split
    · refine List.nodup_append.2 ⟨ih, by simp, ?_⟩
      intro a ha b hb e
      rw [List.mem_singleton] at hb
      obtain ⟨i, h1, h2, _⟩ := (occ_mem ls n a).1 ha
      omega
    · exact ih
theorem dist_of {ls d : List Int} (h : d.Perm (occ ls ls.length)) : Dist d ls.length := by
  have hm : ∀ i, i < d.length → ∃ j : Nat, ln d i = j ∧ j < ls.length ∧ 0 < ln ls j := by
    intro i hi
    rw [ln_in hi]
    exact (occ_mem ls ls.length _).1 (h.mem_iff.1 (List.getElem_mem hi))
  have hn : d.Nodup := h.nodup_iff.2 (occ_nodup ls ls.length)
  refine ⟨fun i hi => ?_, fun i j hi hj e => ?_⟩
  · obtain ⟨j, e, hj, _⟩ := hm i hi
    rw [e]; omega
  · obtain ⟨x, e1, _⟩ := hm i hi
    obtain ⟨y, e2, _⟩ := hm j hj
    have e3 : d[i] = d[j] := by rw [← ln_in hi, ← ln_in hj]; omega
    exact (List.getElem_inj hn).1 e3
/-- The symbols of a list with their weights and lengths. -/
def zOf (ls F d : List Int) : List (Nat × Nat) := d.map fun x => ((keyOf ls x).toNat, (keyOf F x).toNat)
theorem zOf_perm {ls F d e : List Int} (h : d.Perm e) : (zOf ls F d).Perm (zOf ls F e) := h.map _
theorem zOf_fst (ls F d : List Int) : (zOf ls F d).map (·.1) = d.map fun x => (keyOf ls x).toNat := by simp [zOf]
theorem Best.perm {L : Nat} {Z Y : List (Nat × Nat)} (h : Best L Z) (p : Z.Perm Y) : Best L Y := ⟨h.feas.perm p, by rw [← cst_perm p, h.cost, ov_perm L (p.map (·.1))]⟩
/-- What Lengths tells. -/
structure LGoodR (ls : List Int) (L : Nat) (F : List Int) : Prop where
  len : F.length = ls.length
  zero : ∀ i, ¬ (i < ls.length ∧ 0 < ln ls i) → ln F i = 0
  pos : ∀ i, 0 ≤ ln F i
  one : (occ ls ls.length).length = 1 → ∀ i, i < ls.length → 0 < ln ls i → ln F i = 1
  best : 2 ≤ (occ ls ls.length).length → Best L (zOf ls F (occ ls ls.length))
theorem wts_symP (ls d : List Int) : wts (symP ls d) = d.map fun x => (keyOf ls x).toNat := by simp [wts, symP]
theorem ris_of {ls d : List Int} (h : Srt (keyOf ls) d 0 d.length) : Ris (wts (symP ls d)) := by
  rw [wts_symP]
  unfold Ris
  rw [List.pairwise_iff_getElem]
  intro i j hi hj hij
  simp only [List.length_map] at hi hj
  have := h i j (Nat.zero_le _) (by omega) hj
  rw [ln_in hi, ln_in hj] at this
  simp only [List.getElem_map]
  omega
theorem good_of {ls d : List Int} {L : Nat} (hp : d.Perm (occ ls ls.length)) (hs : Srt (keyOf ls) d 0 d.length) (h2 : 2 ≤ d.length) (hL : d.length ≤ 2 ^ L) :
    TakeOk (symP ls d) d.length L (2 * d.length - 2) ∧ LGoodR ls L (lenGo (symP ls d) d L (2 * d.length - 2) (List.replicate ls.length 0)) := by
  have hm : ∀ x ∈ d, ∃ j : Nat, x = j ∧ j < ls.length ∧ 0 < ln ls j := fun x hx => (occ_mem ls ls.length x).1 (hp.mem_iff.1 hx)
  have hpos : Pos (symP ls d) := by
    intro p hp'
    obtain ⟨x, hx, rfl⟩ := List.mem_map.1 hp'
    obtain ⟨j, rfl, _, h0⟩ := hm x hx
    simp only [keyOf, Int.toNat_natCast]; omega
  have hu : ∀ p ∈ symP ls d, p.2 = false := by
    intro p hp'
    obtain ⟨x, hx, rfl⟩ := List.mem_map.1 hp'
    rfl
  have hSl := symP_length ls d
  have hwl : (wts (symP ls d)).length = d.length := by rw [wts_length, hSl]
  have hen := pk_enough (wts (symP ls d)) L (by omega) (by omega)
  rw [hwl] at hen
  have tk := takeOk hpos hu L (2 * d.length - 2) hen
  rw [hSl] at tk
  have hdist := dist_of hp
  have hdE : Dist d (List.replicate ls.length (0 : Int)).length := by rw [List.length_replicate]; exact hdist
  have h0 : ∀ i, ln (List.replicate ls.length (0 : Int)) i = 0 := by
    intro i
    by_cases hi : i < ls.length
    · rw [ln_in (by simpa using hi)]; simp
    · exact ln_out (by simpa using hi)
  have hat : ∀ x, x < d.length → ln (lenGo (symP ls d) d L (2 * d.length - 2) (List.replicate ls.length 0)) (ln d x).toNat = ll (cOf (wts (symP ls d)) L (2 * d.length - 2)) L x := by
    intro x hx
    rw [lenGo_at hpos hu hSl L _ hen _ hdE x hx, h0]; omega
  have hex : ∀ i, (i < ls.length ∧ 0 < ln ls i) → ∃ x, x < d.length ∧ (ln d x).toNat = i := by
    intro i hi
    have : (i : Int) ∈ d := hp.mem_iff.2 ((occ_mem ls ls.length _).2 ⟨i, rfl, hi.1, hi.2⟩)
    obtain ⟨x, hx, e⟩ := List.getElem_of_mem this
    exact ⟨x, hx, by rw [ln_in hx, e]; simp⟩
  have hout : ∀ i, ¬ (i < ls.length ∧ 0 < ln ls i) → ln (lenGo (symP ls d) d L (2 * d.length - 2) (List.replicate ls.length 0)) i = 0 := by
    intro i hi
    rw [lenGo_out hSl L _ (by rw [hSl]; exact tk) _ hdE i ?_, h0]
    intro x hx e
    obtain ⟨j, e1, e2, e3⟩ := hm (ln d x) (by rw [ln_in hx]; exact List.getElem_mem hx)
    apply hi
    rw [← e, e1]; simpa using ⟨e2, e3⟩
  refine ⟨tk, ⟨by rw [lenGo_length, List.length_replicate], hout, fun i => ?_, fun h1 => ?_, fun _ => ?_⟩⟩
  · by_cases hi : i < ls.length ∧ 0 < ln ls i
    · obtain ⟨x, hx, e⟩ := hex i hi
      have := hat x hx
      rw [e] at this
      rw [this]; omega
    · rw [hout i hi]; omega
  · rw [← hp.length_eq] at h1; omega
  · refine Best.perm ?_ (zOf_perm hp)
    obtain ⟨c1, c2, c3⟩ := cOf_chain (wts (symP ls d)) L (2 * d.length - 2) hen
    have hb := take_best (wts (symP ls d)) (ris_of hs) (cOf (wts (symP ls d)) L (2 * d.length - 2)) c1 L (by omega) (by rw [c3, hwl]) (by rw [← c2, hwl])
    have e : zOf ls (lenGo (symP ls d) d L (2 * d.length - 2) (List.replicate ls.length 0)) d = Zof (wts (symP ls d)) (ll (cOf (wts (symP ls d)) L (2 * d.length - 2)) L) := by
      unfold Zof
      rw [hwl]
      apply List.ext_getElem?
      intro i
      by_cases hi : i < d.length
      · have h1 := hat i hi
        rw [ln_in hi] at h1
        simp only [zOf, List.getElem?_map, List.getElem?_eq_getElem hi, Option.map_some, List.getElem?_range hi]
        rw [show keyOf (lenGo (symP ls d) d L (2 * d.length - 2) (List.replicate ls.length 0)) d[i] = _ from h1]
        simp [wts_symP, List.getD, hi]
      · rw [List.getElem?_eq_none (by simp [zOf]; omega), List.getElem?_eq_none (by simp; omega)]
    rw [e]; exact hb
#print axioms good_of
end Go.Proofs.Ytdeigchkpakdaaa
