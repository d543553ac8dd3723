/- Several texts, laid together: DHead, DNum, DNums. -/
import Derived.Test.YteknifnadbmfiaaGreatDoorpDg00DTok
import Derived.Test.YteknifnadbmfiaaGreatDoorpMg03MTell
/- What a dynamic block says of its codes: written, and read. Of no program. -/
namespace Go.Proofs.YteknifnadbmfiaaGreatDoor
set_option maxRecDepth 100000
open Go Go.RowKit

/-- How many are like the first one. -/
def sam (xs : List Int) : Nat := 1 + (xs.drop 1).findIdx (fun y => !(y == ln xs 0))
/-- The number for as many times as one can stand for, and how many these are. -/
def agn (x t : Nat) : Mk × Nat := if t < 3 then ((x, 0, 0), 1) else if 0 < x then ((16, min t 6 - 3, 2), min t 6) else if t < 11 then ((17, t - 3, 3), t) else ((18, min t 138 - 11, 7), min t 138)
set_option linter.unusedVariables false
theorem agn_pos (x t : Nat) (h : 0 < t) : 1 ≤ (agn x t).2 ∧ (agn x t).2 ≤ t := by
  unfold agn
  split
  · omega
  · split
    · omega
    · split <;> (try simp only) <;> omega
def rep (x t : Nat) : List Mk := if h : 0 < t then (agn x t).1 :: rep x (t - (agn x t).2) else []
termination_by t
decreasing_by have := agn_pos x t h; omega
theorem rep_zero (x : Nat) : rep x 0 = [] := by rw [rep, dif_neg (by decide)]
theorem rep_pos (x t : Nat) (h : 0 < t) : rep x t = (agn x t).1 :: rep x (t - (agn x t).2) := by rw [rep, dif_pos h]
/-- Lengths as numbers. -/
def inN (xs : List Int) : List Mk := if h : 0 < xs.length then (if 0 < ln xs 0 then ((ln xs 0).toNat, 0, 0) :: rep (ln xs 0).toNat (sam xs - 1) else rep 0 (sam xs)) ++ inN (xs.drop (sam xs)) else []
termination_by xs.length
decreasing_by simp [sam]; omega
theorem inN_nil : inN [] = [] := by rw [inN, dif_neg (by simp)]
theorem inN_pos (xs : List Int) (h : 0 < xs.length) : inN xs = (if 0 < ln xs 0 then ((ln xs 0).toNat, 0, 0) :: rep (ln xs 0).toNat (sam xs - 1) else rep 0 (sam xs)) ++ inN (xs.drop (sam xs)) := by rw [inN, dif_pos h]
theorem sam_le {xs : List Int} (h : 0 < xs.length) : 1 ≤ sam xs ∧ sam xs ≤ xs.length := by
  unfold sam
  have : (xs.drop 1).findIdx (fun y => !(y == ln xs 0)) ≤ (xs.drop 1).length := List.findIdx_le_length
  rw [List.length_drop] at this
  omega
theorem sam_same {xs : List Int} {i : Nat} (hx : 0 < xs.length) (h : i < sam xs) : ln xs i = ln xs 0 := by
  rcases Nat.eq_zero_or_pos i with h0 | h0
  · rw [h0]
  · have hl := (sam_le hx).2
    unfold sam at h
    have := List.not_of_lt_findIdx (xs := xs.drop 1) (p := fun y => !(y == ln xs 0)) (i := i - 1) (by omega)
    simp only [List.getElem_drop] at this
    have e : 1 + (i - 1) = i := by omega
    simp only [e] at this
    unfold ln at this ⊢
    rw [List.getD_eq_getElem?_getD, List.getElem?_eq_getElem (by unfold sam at hl; omega)]
    simpa using this
theorem sam_is {xs : List Int} {n : Nat} (h1 : 1 ≤ n) (h2 : n ≤ xs.length) (hs : ∀ i, i < n → ln xs i = ln xs 0) (he : n = xs.length ∨ ¬ ln xs n = ln xs 0) : sam xs = n := by
  have hx : 0 < xs.length := by omega
  have hl := sam_le hx
  rcases Nat.lt_trichotomy (sam xs) n with h | h | h
  · exfalso
    have h3 := hs (sam xs) h
    have hlt : (xs.drop 1).findIdx (fun y => !(y == ln xs 0)) < (xs.drop 1).length := by rw [List.length_drop]; unfold sam at h; omega
    have := List.findIdx_getElem (w := hlt)
    simp only [List.getElem_drop] at this
    have e : 1 + (xs.drop 1).findIdx (fun y => !(y == ln xs 0)) = sam xs := rfl
    simp only [e] at this
    unfold ln at h3
    rw [List.getD_eq_getElem?_getD, List.getElem?_eq_getElem (by omega)] at h3
    unfold ln at this
    simp only [Option.getD_some] at h3
    simp [h3] at this
  · exact h
  · exfalso
    rcases he with he | he
    · omega
    · exact he (sam_same hx h)
theorem take_sam {xs : List Int} (hx : 0 < xs.length) : xs.take (sam xs) = List.replicate (sam xs) (ln xs 0) := by
  have hl := sam_le hx
  apply List.ext_getElem
  · simp; omega
  · intro i h1 h2
    simp only [List.length_replicate] at h2
    rw [List.getElem_take, List.getElem_replicate]
    have := sam_same hx h2
    unfold ln at this
    rw [List.getD_eq_getElem?_getD, List.getElem?_eq_getElem (by omega)] at this
    exact this

/-- What a number says behind what was said. -/
def dnm (all : List Int) (m : Mk) : List Int :=
  if m.1 < 16 then all ++ [(m.1 : Int)] else all ++ List.replicate (m.2.1 + if m.1 = 18 then 11 else 3) (if m.1 = 16 then ln all (all.length - 1) else 0)
def Okm (all : List Int) (m : Mk) : Prop := (m.1 < 16 ∧ m.2.1 = 0 ∧ m.2.2 = 0) ∨ (m.1 = 16 ∧ 0 < all.length ∧ m.2.1 < 4 ∧ m.2.2 = 2) ∨ (m.1 = 17 ∧ m.2.1 < 8 ∧ m.2.2 = 3) ∨ (m.1 = 18 ∧ m.2.1 < 128 ∧ m.2.2 = 7)
/-- Numbers that say res behind all. -/
def Dns : List Int → List Mk → List Int → Prop
  | all, [], res => res = all
  | all, m :: ms, res => Okm all m ∧ Dns (dnm all m) ms res
theorem Dns.app {ms ns : List Mk} {all mid res : List Int} (h : Dns all ms mid) (k : Dns mid ns res) : Dns all (ms ++ ns) res := by
  induction ms generalizing all with
  | nil => obtain rfl : mid = all := h; exact k
  | cons m ms ih => exact ⟨h.1, ih h.2⟩
theorem ln_last (A : List Int) (x : Int) : ln (A ++ [x]) ((A ++ [x]).length - 1) = x := by simp [ln, List.getD]
theorem dnm_16 (all : List Int) (k f : Nat) : dnm all (16, k, f) = all ++ List.replicate (k + 3) (ln all (all.length - 1)) := rfl
theorem dnm_17 (all : List Int) (k f : Nat) : dnm all (17, k, f) = all ++ List.replicate (k + 3) 0 := rfl
theorem dnm_18 (all : List Int) (k f : Nat) : dnm all (18, k, f) = all ++ List.replicate (k + 11) 0 := rfl
theorem rep_add (m n : Nat) (x : Int) : List.replicate m x ++ List.replicate n x = List.replicate (m + n) x := by simp
theorem dns_rep (x : Nat) (hx : x < 16) : ∀ (t : Nat) (all : List Int), (0 < x → 0 < all.length ∧ ln all (all.length - 1) = x) → Dns all (rep x t) (all ++ List.replicate t (x : Int)) := by
  intro t
  induction t using Nat.strongRecOn with
  | ind t ih =>
    intro all h
    rcases Nat.eq_zero_or_pos t with h0 | h0
    · subst h0
      rw [rep_zero]
      simp [Dns]
    · rw [rep_pos x t h0]
      have hp := agn_pos x t h0
      have hd : dnm all (agn x t).1 = all ++ List.replicate (agn x t).2 (x : Int) ∧ Okm all (agn x t).1 := by
        by_cases c1 : t < 3
        · have e : agn x t = ((x, 0, 0), 1) := if_pos c1
          rw [e]
          refine ⟨?_, .inl ⟨hx, rfl, rfl⟩⟩
          unfold dnm
          rw [if_pos hx]; rfl
        · by_cases c2 : 0 < x
          · have e : agn x t = ((16, min t 6 - 3, 2), min t 6) := (if_neg c1).trans (if_pos c2)
            have hk := h c2
            have e6 : min t 6 = (min t 6 - 3) + 3 := by omega
            rw [e]
            refine ⟨?_, .inr (.inl ⟨rfl, hk.1, by show min t 6 - 3 < 4; omega, rfl⟩)⟩
            rw [dnm_16, hk.2, ← e6]
          · obtain rfl : x = 0 := by omega
            by_cases c3 : t < 11
            · have e : agn 0 t = ((17, t - 3, 3), t) := (if_neg c1).trans ((if_neg c2).trans (if_pos c3))
              have e6 : t = (t - 3) + 3 := by omega
              rw [e]
              refine ⟨?_, .inr (.inr (.inl ⟨rfl, by show t - 3 < 8; omega, rfl⟩))⟩
              rw [dnm_17, ← e6]; rfl
            · have e : agn 0 t = ((18, min t 138 - 11, 7), min t 138) := (if_neg c1).trans ((if_neg c2).trans (if_neg c3))
              have e6 : min t 138 = (min t 138 - 11) + 11 := by omega
              rw [e]
              refine ⟨?_, .inr (.inr (.inr ⟨rfl, by show min t 138 - 11 < 128; omega, rfl⟩))⟩
              rw [dnm_18, ← e6]; rfl
      refine ⟨hd.2, ?_⟩
      rw [hd.1]
      have := ih (t - (agn x t).2) (by omega) (all ++ List.replicate (agn x t).2 (x : Int)) (fun hx0 => by
        refine ⟨by simp; omega, ?_⟩
        rw [show (agn x t).2 = ((agn x t).2 - 1) + 1 by omega, List.replicate_succ', ← List.append_assoc, ln_last])
      rw [List.append_assoc, rep_add, show (agn x t).2 + (t - (agn x t).2) = t by omega] at this
      exact this
theorem dns_inN : ∀ (n : Nat) (xs all : List Int), xs.length = n → Fit xs → Dns all (inN xs) (all ++ xs) := by
  intro n
  induction n using Nat.strongRecOn with
  | ind n ih =>
    intro xs all hn hf
    rcases Nat.eq_zero_or_pos xs.length with h0 | h0
    · have : xs = [] := List.eq_nil_of_length_eq_zero h0
      subst this
      rw [inN_nil]
      simp [Dns]
    · rw [inN_pos xs h0]
      have hs := sam_le h0
      have h15 := ln_fit hf 0
      have hr := ih (xs.drop (sam xs)).length (by rw [List.length_drop]; omega) (xs.drop (sam xs)) (all ++ xs.take (sam xs)) rfl (fun y hy => hf y (List.mem_of_mem_drop hy))
      rw [List.append_assoc, List.take_append_drop] at hr
      refine Dns.app ?_ hr
      rw [take_sam h0]
      by_cases hp : 0 < ln xs 0
      · rw [if_pos hp]
        have e : ((ln xs 0).toNat : Int) = ln xs 0 := by omega
        refine ⟨.inl ⟨by omega, rfl, rfl⟩, ?_⟩
        have hd : dnm all ((ln xs 0).toNat, 0, 0) = all ++ [ln xs 0] := by unfold dnm; rw [if_pos (by show (ln xs 0).toNat < 16; omega), e]
        rw [hd]
        have := dns_rep (ln xs 0).toNat (by omega) (sam xs - 1) (all ++ [ln xs 0]) (fun _ => ⟨by simp, by rw [ln_last, e]⟩)
        rw [e, List.append_assoc, List.singleton_append, ← List.replicate_succ, show sam xs - 1 + 1 = sam xs by omega] at this
        exact this
      · rw [if_neg hp]
        have e : ln xs 0 = 0 := by omega
        rw [e]
        exact dns_rep 0 (by decide) (sam xs) all (fun h => by omega)

theorem iLen_low {first all : List Int} {many : Nat} {b : Nat → Nat} {T p q v : Nat} (h : iNx first b T p = .ok (q, v)) (hv : v < 16) : iLen first many b T p all = .ok (q, (decide (all.length + 1 < many), all ++ [(v : Int)])) := by
  unfold iLen; rw [iThen_of_ok h, if_pos hv]
theorem iLen_high {first all : List Int} {many : Nat} {b : Nat → Nat} {T p q v q2 x : Nat} (h : iNx first b T p = .ok (q, v)) (hv : 16 ≤ v) (h16 : v = 16 → 0 < all.length) (h2 : iTk b T q (if v = 16 then 2 else if v = 17 then 3 else 7) = .ok (q2, x)) (hm : all.length + (x + if v = 18 then 11 else 3) ≤ many) :
    iLen first many b T p all = .ok (q2, (decide (all.length + (x + if v = 18 then 11 else 3) < many), all ++ List.replicate (x + if v = 18 then 11 else 3) (if v = 16 then ln all (all.length - 1) else 0))) := by
  unfold iLen
  rw [iThen_of_ok h]
  try simp only
  rw [if_neg (by omega), if_neg (fun c => by have := h16 c.1; omega), iThen_of_ok h2]
  try simp only
  rw [if_neg (by omega)]
theorem dnm_length (all : List Int) (m : Mk) : all.length < (dnm all m).length := by
  unfold dnm
  split
  · simp
  · simp; split <;> omega
theorem Dns.len {ms : List Mk} {all res : List Int} (h : Dns all ms res) : all.length ≤ res.length ∧ (ms ≠ [] → all.length < res.length) := by
  induction ms generalizing all with
  | nil => obtain rfl : res = all := h; exact ⟨Nat.le_refl _, fun h => absurd rfl h⟩
  | cons m ms ih => have := (ih h.2).1; have := dnm_length all m; exact ⟨by omega, fun _ => by omega⟩
/-- Numbers, read. -/
theorem num_read {F : List Int} (hg : Good F) {b : Nat → Nat} (hb : ∀ i, b i ≤ 1) {T : Nat} : ∀ (ms : List Mk) (all res : List Int) (p : Nat), ms ≠ [] → Dns all ms res → (∀ m ∈ ms, Has F m.1) → BAt b T p (ms.flatMap (mkB F)) →
    iLoop T (iLen F res.length b T) p all = .ok (p + (ms.flatMap (mkB F)).length, res) := by
  intro ms
  induction ms with
  | nil => intro _ _ _ h; exact absurd rfl h
  | cons m ms ih =>
    intro all res p _ hd hh hB
    rw [List.flatMap_cons] at hB ⊢
    obtain ⟨ho, hd⟩ := hd
    have hm := hh m (by simp)
    have hx : m.2.1 < 2 ^ m.2.2 := by
      rcases ho with ⟨_, h1, h2⟩ | ⟨_, _, h1, h2⟩ | ⟨_, h1, h2⟩ | ⟨_, h1, h2⟩ <;> rw [h2] <;> omega
    obtain ⟨n1, n2⟩ := hB.left.mark hg hb hm hx
    have hlen := dnm_length all m
    have hle := hd.len
    have hstep : iLen F res.length b T p all = .ok (p + (mkB F m).length, (decide ((dnm all m).length < res.length), dnm all m)) := by
      by_cases hl : m.1 < 16
      · have e : m.2.2 = 0 := by rcases ho with ⟨_, _, h2⟩ | ⟨h1, _⟩ | ⟨h1, _⟩ | ⟨h1, _⟩ <;> omega
        rw [iLen_low n1 hl, mkB_length, e, Nat.add_zero]
        unfold dnm
        rw [if_pos hl, List.length_append]; rfl
      · have e : m.2.2 = if m.1 = 16 then 2 else if m.1 = 17 then 3 else 7 := by
          rcases ho with ⟨h1, _⟩ | ⟨h1, _, _, h2⟩ | ⟨h1, _, h2⟩ | ⟨h1, _, h2⟩
          · omega
          · rw [h1, h2]; rfl
          · rw [h1, h2]; rfl
          · rw [h1, h2]; rfl
        have h16 : m.1 = 16 → 0 < all.length := fun h => by rcases ho with ⟨h1, _⟩ | ⟨_, h1, _⟩ | ⟨h1, _⟩ | ⟨h1, _⟩ <;> omega
        rw [e] at n2
        have hdl : (dnm all m).length = all.length + (m.2.1 + if m.1 = 18 then 11 else 3) := by unfold dnm; rw [if_neg hl]; simp
        rw [iLen_high n1 (by omega) h16 n2 (by omega)]
        rw [hdl]
        unfold dnm
        rw [if_neg hl]
    by_cases hms : ms = []
    · subst hms
      obtain rfl : res = dnm all m := hd
      rw [decide_eq_false (Nat.lt_irrefl _)] at hstep
      rw [iLoop_end hstep]
      simp
    · have hlt := hle.2 hms
      rw [decide_eq_true hlt] at hstep
      have hw := hm.2
      have hpos : 1 ≤ (mkB F m).length := by rw [mkB_length]; omega
      rw [iLoop_on hstep (by omega) hB.left.1, ih (dnm all m) res _ hms hd (fun y hy => hh y (by simp [hy])) hB.right, List.length_append, Nat.add_assoc]

/-- The inner lengths, in their order. -/
def pos19 (s : Nat) : Nat := iOrd.idxOf s
def rdF (F : List Int) (n : Nat) : List Int := (List.range 19).map fun s => if pos19 s < n then ln F s else 0
theorem rdF_length (F : List Int) (n : Nat) : (rdF F n).length = 19 := by simp [rdF]
theorem ord_lt : ∀ i : Fin 19, iOrd.getD i.val 0 < 19 ∧ pos19 (iOrd.getD i.val 0) = i.val := by decide +kernel
theorem pos_lt : ∀ s : Fin 19, pos19 s.val < 19 ∧ iOrd.getD (pos19 s.val) 0 = s.val := by decide +kernel
theorem rdF_set (F : List Int) {i : Nat} (hi : i < 19) : (rdF F i).set (iOrd.getD i 0) (ln F (iOrd.getD i 0)) = rdF F (i + 1) := by
  obtain ⟨h1, h2⟩ := ord_lt ⟨i, hi⟩
  simp only at h1 h2
  apply List.ext_getElem
  · rw [List.length_set, rdF_length, rdF_length]
  · intro s k1 k2
    rw [rdF_length] at k2
    rw [List.getElem_set]
    simp only [rdF, List.getElem_map, List.getElem_range]
    split
    · rename_i e
      subst e
      rw [if_pos (by omega)]
    · rename_i e
      have hp := pos_lt ⟨s, k2⟩
      simp only at hp
      have : pos19 s ≠ i := fun h => e (by rw [← h]; exact hp.2)
      by_cases hs : pos19 s < i
      · rw [if_pos hs, if_pos (by omega)]
      · rw [if_neg hs, if_neg (by omega)]
theorem rdF_zero (F : List Int) : rdF F 0 = List.replicate 19 0 := by
  apply List.ext_getElem
  · simp [rdF]
  · intro i h1 h2
    rw [List.getElem_replicate]
    simp [rdF]
theorem rdF_all {F : List Int} (hl : F.length = 19) {n : Nat} (h : ∀ i, n ≤ i → i < 19 → ln F (iOrd.getD i 0) = 0) : rdF F n = F := by
  apply List.ext_getElem
  · rw [rdF_length, hl]
  · intro s k1 k2
    simp only [rdF, List.getElem_map, List.getElem_range]
    have hp := pos_lt ⟨s, by omega⟩
    simp only at hp
    have e : ln F s = F[s] := by simp [ln, List.getD, k2]
    split
    · exact e
    · have := h (pos19 s) (by omega) hp.1
      rw [hp.2] at this
      omega
def innB (F : List Int) (i n : Nat) : List Int := ((List.range n).flatMap fun j => bitsN (ln F (iOrd.getD (i + j) 0)) 3)
theorem innB_succ (F : List Int) (i n : Nat) : innB F i (n + 1) = bitsN (ln F (iOrd.getD i 0)) 3 ++ innB F (i + 1) n := by
  unfold innB
  rw [List.range_succ_eq_map, List.flatMap_cons, List.flatMap_map]
  simp only [Nat.add_zero, Nat.succ_eq_add_one]
  have e : (fun j => bitsN (ln F (iOrd.getD (i + (j + 1)) 0)) 3) = fun j => bitsN (ln F (iOrd.getD (i + 1 + j) 0)) 3 := by
    funext j
    rw [show i + (j + 1) = i + 1 + j by omega]
  rw [e]
theorem innB_length (F : List Int) (i n : Nat) : (innB F i n).length = 3 * n := by
  induction n generalizing i with
  | zero => rfl
  | succ n ih => rw [innB_succ, List.length_append, bitsN_length, ih]; omega
theorem rd3_read {F : List Int} (hF : ∀ i, 0 ≤ ln F i ∧ ln F i ≤ 7) {b : Nat → Nat} {T : Nat} : ∀ (n p i : Nat), i + n ≤ 19 → BAt b T p (innB F i n) → iRd3 b T n p i (rdF F i) = .ok (p + 3 * n, rdF F (i + n)) := by
  intro n
  induction n with
  | zero => intro p i _ _; rfl
  | succ n ih =>
    intro p i hi hB
    rw [innB_succ] at hB
    have h7 := hF (iOrd.getD i 0)
    obtain ⟨v, hv⟩ : ∃ v : Nat, ln F (iOrd.getD i 0) = v := ⟨(ln F (iOrd.getD i 0)).toNat, by omega⟩
    have h1 := hB.left
    have h2 := hB.right
    rw [bitsN_length] at h2
    rw [hv] at h1
    have t := h1.tk (by omega : v < 2 ^ 3)
    unfold iRd3
    rw [iThen_of_ok t]
    try simp only
    rw [← hv, rdF_set F (by omega), ih (p + 3) (i + 1) (by omega) h2]
    congr 2
    · omega
    · congr 1; omega
/-- What stands ahead of a dynamic block's data. -/
def hdB (S D F : List Int) (many : Nat) : List Int := bitsN ((S.length - 257 : Nat) : Int) 5 ++ (bitsN ((D.length - 1 : Nat) : Int) 5 ++ (bitsN ((many - 4 : Nat) : Int) 4 ++ (innB F 0 many ++ (inN (S ++ D)).flatMap (mkB F))))
structure HOk (S D F : List Int) (many : Nat) : Prop where
  s0 : 257 ≤ S.length
  s1 : S.length ≤ 286
  d0 : 1 ≤ D.length
  d1 : D.length ≤ 30
  cs : check S true = 0
  cd : check D true = 0
  e : ¬ ln S 256 = 0
  fl : F.length = 19
  f7 : ∀ i, 0 ≤ ln F i ∧ ln F i ≤ 7
  cf : check F false = 0
  m0 : 4 ≤ many
  m1 : many ≤ 19
  mz : ∀ i, many ≤ i → i < 19 → ln F (iOrd.getD i 0) = 0
  has : ∀ m ∈ inN (S ++ D), Has F m.1
theorem HOk.read {S D F : List Int} {many : Nat} (h : HOk S D F many) {b : Nat → Nat} {T p : Nat} (hb : ∀ i, b i ≤ 1) (hB : BAt b T p (hdB S D F many)) : iHdr b T p = .ok (p + (hdB S D F many).length, (S, D)) := by
  obtain ⟨s0, s1, d0, d1, cs, cd, he, fl, f7, cf, m0, m1, mz, hs⟩ := h
  have hSf := (check_ok cs).2.1
  have hDf := (check_ok cd).2.1
  unfold hdB at hB ⊢
  have b1 := hB.left
  have b2 := hB.right.left
  have b3 := hB.right.right.left
  have b4 := hB.right.right.right.left
  have b5 := hB.right.right.right.right
  simp only [bitsN_length] at b2 b3 b4 b5
  rw [innB_length] at b5
  have t1 := b1.tk (by omega : S.length - 257 < 2 ^ 5)
  have t2 := b2.tk (by omega : D.length - 1 < 2 ^ 5)
  have t3 := b3.tk (by omega : many - 4 < 2 ^ 4)
  have t4 := rd3_read f7 many (p + 5 + 5 + 4) 0 (by omega) b4
  rw [rdF_zero, Nat.zero_add, rdF_all fl mz] at t4
  have hne : inN (S ++ D) ≠ [] := by
    rw [inN_pos _ (by simp; omega)]
    intro h
    have h1 := (List.append_eq_nil_iff.1 h).1
    have h2 := (sam_le (xs := S ++ D) (by simp; omega)).1
    split at h1
    · simp at h1
    · rw [rep_pos _ _ (by omega)] at h1; simp at h1
  have t5 := num_read (check_good cf) hb (inN (S ++ D)) [] (S ++ D) _ hne (by
    have := dns_inN (S ++ D).length (S ++ D) [] rfl (fit_app hSf hDf)
    simpa using this) hs b5
  unfold iHdr
  rw [iThen_of_ok t1]
  try simp only
  rw [iThen_of_ok t2]
  try simp only
  rw [iThen_of_ok t3]
  try simp only
  rw [if_neg (by omega), show many - 4 + 4 = many by omega, iThen_of_ok t4]
  try simp only
  rw [if_neg (by simp [cf]), show S.length - 257 + 258 + (D.length - 1) = (S ++ D).length by rw [List.length_append]; omega, iThen_of_ok t5]
  try simp only
  have e1 : (S ++ D).take (S.length - 257 + 257) = S := by rw [show S.length - 257 + 257 = S.length by omega, List.take_left']; rfl
  have e2 : (S ++ D).drop (S.length - 257 + 257) = D := by rw [show S.length - 257 + 257 = S.length by omega, List.drop_left']; rfl
  have e3 : ln (S ++ D) 256 = ln S 256 := by unfold ln; exact getD_left (by omega)
  rw [e1, e2, e3, if_neg (by rintro (h | h | h); exact he h; exact h cs; exact h cd)]
  simp only [List.length_append, bitsN_length, innB_length]
  congr 2
  omega
end Go.Proofs.YteknifnadbmfiaaGreatDoor

/- Marks in memory; same, again: contracts. -/
namespace Go.Proofs.YteknifnadbmfiaaGreatDoor
set_option maxRecDepth 100000
open Go Go.RowKit

abbrev mO (m : Mk) : Obj := .cells #[.int .i64 (m.1 : Int), .int .i64 (m.2.1 : Int), .int .i64 (m.2.2 : Int)] 163
abbrev mL (m : Mk) : List Value := [.int .i64 (m.1 : Int), .int .i64 (m.2.1 : Int), .int .i64 (m.2.2 : Int)]
def mc (xs : List Mk) : List Value := xs.flatMap mL
theorem mc_snoc (xs : List Mk) (t : Mk) : mc (xs ++ [t]) = mc xs ++ mL t := by simp [mc]
theorem mc_cons (t : Mk) (xs : List Mk) : mc (t :: xs) = mL t ++ mc xs := by simp [mc]
def mkAt (xs : List Mk) (i : Nat) : Mk := xs.getD i (0, 0, 0)
theorem mkAt_in {xs : List Mk} {i : Nat} (h : i < xs.length) : mkAt xs i = xs[i] := by simp [mkAt, List.getD, h]
theorem mc_at (xs : List Mk) {i : Nat} (h : i < xs.length) : (mc xs)[i * 3]? = some (.int .i64 ((mkAt xs i).1 : Int)) ∧ (mc xs)[i * 3 + 1]? = some (.int .i64 ((mkAt xs i).2.1 : Int)) ∧ (mc xs)[i * 3 + 2]? = some (.int .i64 ((mkAt xs i).2.2 : Int)) := by
  induction xs generalizing i with
  | nil => simp at h
  | cons t xs ih =>
    cases i with
    | zero => simp [mc_cons, mkAt]
    | succ i =>
      have hi : i < xs.length := by simpa using h
      obtain ⟨h1, h2, h3⟩ := ih hi
      have e : mkAt (t :: xs) (i + 1) = mkAt xs i := by simp [mkAt]
      rw [e, mc_cons, show (i + 1) * 3 = i * 3 + 3 by omega]
      refine ⟨?_, ?_, ?_⟩
      · rw [List.getElem?_append_right (by simp)]; simpa using h1
      · rw [List.getElem?_append_right (by simp)]; simpa using h2
      · rw [List.getElem?_append_right (by simp)]; simpa using h3
/-- The marks xs lie where a slice leads. -/
def Mks (w : World) (a : Option Addr) (xs : List Mk) : Prop :=
  xs.length = 0 ∨ ∃ b off cs, a = some ⟨b, off, none⟩ ∧ w.heap[b]? = some (.cells cs 163 (0, 0)) ∧ ∀ i, i < xs.length → w.cell? ⟨b, off + i * 3, none⟩ = some (.int .i64 ((mkAt xs i).1 : Int)) ∧ w.cell? ⟨b, off + i * 3 + 1, none⟩ = some (.int .i64 ((mkAt xs i).2.1 : Int)) ∧ w.cell? ⟨b, off + i * 3 + 2, none⟩ = some (.int .i64 ((mkAt xs i).2.2 : Int))
theorem Mks.kept {P : Nat → Prop} {w w' : World} {a : Option Addr} {xs : List Mk} (h : Mks w a xs) (k : Kept P w w') (hn : ∀ b cs, w.heap[b]? = some (.cells cs 163 (0, 0)) → ¬ P b) : Mks w' a xs := by
  rcases h with h | ⟨b, off, cs, ha, hb, hc⟩
  · exact .inl h
  · refine .inr ⟨b, off, cs, ha, k.heap hb (hn b cs hb), fun i hi => ?_⟩
    obtain ⟨c0, c1, c2⟩ := hc i hi
    have hlt := lt_of_block hb
    exact ⟨(k.cell (p := ⟨b, _, none⟩) hlt (hn b cs hb)).trans c0, (k.cell (p := ⟨b, _, none⟩) hlt (hn b cs hb)).trans c1, (k.cell (p := ⟨b, _, none⟩) hlt (hn b cs hb)).trans c2⟩
theorem Mks.stay {w w' : World} {a : Option Addr} {xs : List Mk} (h : Mks w a xs) (k : Below w.heap.size w w') : Mks w' a xs := h.kept (Kept.of_below k) (fun b cs hb e => by have := lt_of_block hb; omega)
def OwnsM (w : World) (base : Nat) (v : Value) (xs : List Mk) : Prop := w.ownsRow base 163 3 v xs.length (mc xs)
theorem OwnsM.nil (w : World) (base : Nat) : OwnsM w base (.slice none 0 0) [] := World.ownsRow_nil _ _ _ _
theorem OwnsM.stay {w w' : World} {base : Nat} {v : Value} {xs : List Mk} (h : OwnsM w base v xs) (k : Below w.heap.size w w') : OwnsM w' base v xs := ownsRow_kept h (Kept.of_below k) (fun g hg e => by have := (ownsRow_lt h hg).2; omega)
theorem OwnsM.form {w : World} {base : Nat} {v : Value} {xs : List Mk} (h : OwnsM w base v xs) : ∃ a cap, v = .slice a xs.length cap ∧ Mks w a xs := by
  rcases h.2 with ⟨rfl, h2⟩ | ⟨g, cap, cur, rfl, hg, hh, hc1, hc2, hc3, hc4⟩
  · exact ⟨none, 0, by rw [h2], .inl h2⟩
  · refine ⟨_, cap, rfl, .inr ⟨g, 0, _, rfl, hh, fun i hi => ?_⟩⟩
    have key : ∀ j, j < xs.length * 3 → w.cell? ⟨g, j, none⟩ = (mc xs)[j]? := fun j hj => by
      rw [cells_of hh, ← hc4, List.getElem?_take_of_lt hj, Array.getElem?_toList]
    obtain ⟨h1, h2, h3⟩ := mc_at xs hi
    rw [Nat.zero_add]
    exact ⟨(key _ (by omega)).trans h1, (key _ (by omega)).trans h2, (key _ (by omega)).trans h3⟩
theorem Tryz.infoMark : (Tryz.prog.info? 163).map (fun i => (i.zero, i.size, i.bytes)) = some (some (.agg #[.int .i64 0, .int .i64 0, .int .i64 0]), 3, 24) := by kernel_rfl
theorem one_mk (w : World) (m : Mk) (n : Nat) (h : w.heap.size = n) : ∀ j u, (mL m)[j]? = some u → (w.alloc (mO m)).cell? ((⟨n, 0, none⟩ : Addr).add j) = some u := by
  subst h; exact World.news_of_block (heap_new w (mO m))
/-- A mark appended to a row of one's own. -/
theorem wpList_pushM {ops : Array Oper} {rest : List Oper} {o : Oper} {act : Act} {Q : Exit → Act → World → Prop} (w : World) (hgd : o.guard = none) (s x : Operand)
    (ho : o.op = .call { callee := .builtin .append, args := #[s, x], argTypes := #[186, 186] })
    (base : Nat) (v : Value) (X : List Mk) (hs : act.eval s = v) (hown : OwnsM w base v X) (t : Mk) (ad : Nat) (hx : act.eval x = .slice (some ⟨ad, 0, none⟩) 1 1)
    (hc : ∀ j u, (mL t)[j]? = some u → w.cell? ((⟨ad, 0, none⟩ : Addr).add j) = some u) (hb : X.length ≤ 1000000000) (hbase : base ≤ w.heap.size)
    (h : ∀ a' cap' w', OwnsM w' base (.slice a' (X.length + 1) cap') (X ++ [t]) → w.grownBy w' v.ownBlock → wpList Tryz.prog ops Q rest (act.put o.dst (.slice a' (X.length + 1) cap')) w') : wpList Tryz.prog ops Q (o :: rest) act w := by
  obtain ⟨i, hi, hz, hsz, hby⟩ := info_parts Tryz.infoMark
  refine wpList_append_own w hgd s x 186 ho base 163 i _ 3 24 Tryz.underlying186 hi hz hsz hby rfl (by decide) v X.length (mc X) hs hown ⟨ad, 0, none⟩ 1 1 (mL t) hx rfl hc (by intro u hu; simp at hu; rcases hu with rfl | rfl | rfl <;> rfl) (by unfold maxLen; omega) (by omega) hbase ?_
  intro v' w' h1 h2 _
  have h3 : OwnsM w' base v' (X ++ [t]) := by unfold OwnsM; rw [mc_snoc, List.length_append, List.length_singleton]; exact h1
  obtain ⟨a', cap', rfl, _⟩ := h3.form
  rw [List.length_append, List.length_singleton] at h3 ⊢
  exact h a' cap' w' h3 h2

set_option maxHeartbeats 1000000 in
theorem same_m (lo hi : Nat) (a : Option Addr) (cap : Nat) (xs : List Int) (w : World) (h : Ints lo hi w a xs) (h0 : 0 < xs.length) (hl : xs.length ≤ 1000000) :
    Calls Tryz.prog 128 #[.slice a xs.length cap] w fun e w' => e = .returned (.int .i64 (sam xs : Int)) ∧ ∃ q, w' = w.drewN q := by
  obtain ⟨b, off, _, _, hb, rfl, hc⟩ := h.resolve_left (by omega)
  have HC := hide hc
  clear hc h
  go_enter Tryz.func128, Tryz.ntmps128
  go_wp2_with fail
  go_loopg [3] (xs.length - 1) (fun gk v3 wx => ∃ n q : Nat, n + gk = xs.length ∧ 1 ≤ n ∧ v3 = .int .i64 n ∧ Hid (∀ i, i < n → ln xs i = ln xs 0) ∧ wx = w.drewN q)
  case atStart => exact ⟨1, 0, by omega, by omega, rfl, fun i hi => by rw [show i = 0 by omega], rfl⟩
  case round =>
    obtain ⟨n, q, hng, hn1, rfl, HS, rfl⟩ := hrel
    have HQ : Hid (∀ nq, (w.drewN q).drewN nq = w.drewN (q + nq)) := fun nq => World.drewN_drewN _ _ _
    cases gk with
    | zero =>
      have hge : ¬ (n : Int) < (xs.length : Int) := by omega
      have hd : decide ((n : Int) < (xs.length : Int)) = false := by simpa using hge
      have HE := hide (sam_is hn1 (by omega) HS.out (.inl (by omega)))
      generalize w.drewN q = w1 at HQ ⊢
      go_upto_region 2 with fail
      go_quiet (fail)
      go_wp2_with fail
      go_ret
      exact ⟨by rw [HE.out]; rfl, q + nq, HQ.out nq⟩
    | succ g1 =>
      have hlt : (n : Int) < (xs.length : Int) := by omega
      have hd : decide ((n : Int) < (xs.length : Int)) = true := by simpa using hlt
      have h00 : (0 : Int) < (xs.length : Int) := by omega
      have d1 : (w.drewN q).cell? ⟨b, off + n, none⟩ = some (.int .i64 (ln xs n)) := HC.out n (by omega)
      have d2 : (w.drewN q).cell? ⟨b, off, none⟩ = some (.int .i64 (ln xs 0)) := HC.out 0 h0
      obtain ⟨X, hX⟩ : ∃ X, ln xs n = X := ⟨_, rfl⟩
      obtain ⟨Y, hY⟩ : ∃ Y, ln xs 0 = Y := ⟨_, rfl⟩
      have HS2 : Hid (¬ X = Y → sam xs = n) := fun hne => sam_is hn1 (by omega) HS.out (.inr (by rw [hX, hY]; exact hne))
      have HS3 : Hid (X = Y → ∀ i, i < n + 1 → ln xs i = ln xs 0) := fun he i hi => by
        by_cases e : i = n
        · subst e; rw [hX, hY, he]
        · exact HS.out i (by omega)
      rw [hX] at d1
      rw [hY] at d2
      generalize w.drewN q = w1 at HQ d1 d2 ⊢
      clear hX hY HS
      by_cases hXY : X = Y
      · have HS4 := hide (HS3.out hXY)
        subst hXY
        clear HS2 HS3
        go_upto_region 2 with fail
        go_quiet (fail)
        go_wp2_with fail
        go_roundg g1
        case measure => omega
        case rel => exact ⟨n + 1, q + nq, by omega, by omega, by go_num, HS4, HQ.out nq⟩
      · have hne : (X == Y) = false := by simpa using hXY
        have HS5 := hide (HS2.out hXY)
        clear HS2 HS3
        go_upto_region 2 with fail
        go_quiet (fail)
        go_wp2_with fail
        go_ret
        exact ⟨by rw [HS5.out]; rfl, q + nq, HQ.out nq⟩

/-- The answer of again. -/
def AgRet (w : World) (r : Mk × Nat) (e : Ending) (w' : World) : Prop := e = .returned (.tuple #[mkV r.1, .int .i64 (r.2 : Int)]) ∧ Below w.heap.size w w'
theorem ag_ret {w W : World} {tmps : Array Value} {r : Mk × Nat} (hp : tmps.getD 4 undef = .pointer (some ⟨w.heap.size, 0, none⟩)) (hu : tmps.getD 5 undef = .int .i64 (r.2 : Int)) (hW : W = w.alloc (mO r.1)) :
    bodyPost Tryz.prog Tryz.f129 (AgRet w r) .ret { tmps := tmps, defers := [] } W := by
  refine bodyPost_ret (v := .tuple #[mkV r.1, .int .i64 (r.2 : Int)]) ?_ rfl ⟨rfl, ?_⟩
  · rw [results_cell_tmp (p := 4) (u := 5) (ty := 163) rfl]
    simp only [hp, hu]
    subst hW
    simp [asAddr, run_loadVar_row (w.alloc (mO r.1)) w.heap.size 163 163 _ (0, 0) _ (heap_new w _) Tryz.underlying163 rfl infoMk]
    rfl
  · subst hW; exact (Below.refl _ _).alloc (Nat.le_refl _) _
theorem again_c (x t : Nat) (ht : 0 < t) (ht2 : t ≤ 1000000) (w : World) :
    Calls Tryz.prog 129 #[.int .i64 (x : Int), .int .i64 (t : Int)] w (AgRet w (agn x t)) := by
  by_cases c1 : t < 3
  · have HRR : Hid (∀ {W : World} {tmps : Array Value}, tmps.getD 4 undef = .pointer (some ⟨w.heap.size, 0, none⟩) → tmps.getD 5 undef = .int .i64 1 → W = w.alloc (.cells #[.int .i64 (x : Int), .int .i64 0, .int .i64 0] 163) → bodyPost Tryz.prog Tryz.f129 (AgRet w ((x, 0, 0), 1)) .ret { tmps := tmps, defers := [] } W) := fun h1 h2 h3 => ag_ret h1 h2 h3
    rw [show agn x t = ((x, 0, 0), 1) from if_pos c1]
    generalize AgRet w ((x, 0, 0), 1) = Q at HRR ⊢
    go_enter Tryz.func129, Tryz.ntmps129
    go_wp2
    exact HRR.out rfl rfl rfl
  · by_cases c2 : 0 < x
    · have e : agn x t = ((16, min t 6 - 3, 2), min t 6) := (if_neg c1).trans (if_pos c2)
      rw [e]
      obtain ⟨T, hT⟩ : ∃ T, min t 6 = T := ⟨_, rfl⟩
      rw [hT]
      have hif : (if (6 : Int) < (t : Int) then (6 : Int) else (t : Int)) = (T : Int) := by omega
      have HRR : Hid (∀ {W : World} {tmps : Array Value}, tmps.getD 4 undef = .pointer (some ⟨w.heap.size, 0, none⟩) → tmps.getD 5 undef = .int .i64 (T : Int) → W = w.alloc (.cells #[.int .i64 16, .int .i64 ((T : Int) - 3), .int .i64 2] 163) → bodyPost Tryz.prog Tryz.f129 (AgRet w ((16, T - 3, 2), T)) .ret { tmps := tmps, defers := [] } W) := fun h1 h2 h3 => ag_ret h1 h2 (by rw [h3]; congr 3; simp; omega)
      generalize AgRet w ((16, T - 3, 2), T) = Q at HRR ⊢
      have hT3 : 3 ≤ T ∧ T ≤ 6 := by omega
      clear hT e
      go_enter Tryz.func129, Tryz.ntmps129
      go_wp2
      exact HRR.out rfl rfl rfl
    · obtain rfl : x = 0 := by omega
      by_cases c3 : t < 11
      · have e : agn 0 t = ((17, t - 3, 3), t) := (if_neg c1).trans ((if_neg c2).trans (if_pos c3))
        rw [e]
        have HRR : Hid (∀ {W : World} {tmps : Array Value}, tmps.getD 4 undef = .pointer (some ⟨w.heap.size, 0, none⟩) → tmps.getD 5 undef = .int .i64 (t : Int) → W = w.alloc (.cells #[.int .i64 17, .int .i64 ((t : Int) - 3), .int .i64 3] 163) → bodyPost Tryz.prog Tryz.f129 (AgRet w ((17, t - 3, 3), t)) .ret { tmps := tmps, defers := [] } W) := fun h1 h2 h3 => ag_ret h1 h2 (by rw [h3]; congr 3; simp; omega)
        generalize AgRet w ((17, t - 3, 3), t) = Q at HRR ⊢
        clear e
        go_enter Tryz.func129, Tryz.ntmps129
        go_wp2
        exact HRR.out rfl rfl rfl
      · have e : agn 0 t = ((18, min t 138 - 11, 7), min t 138) := (if_neg c1).trans ((if_neg c2).trans (if_neg c3))
        rw [e]
        obtain ⟨T, hT⟩ : ∃ T, min t 138 = T := ⟨_, rfl⟩
        rw [hT]
        have hif : (if (138 : Int) < (t : Int) then (138 : Int) else (t : Int)) = (T : Int) := by omega
        have HRR : Hid (∀ {W : World} {tmps : Array Value}, tmps.getD 4 undef = .pointer (some ⟨w.heap.size, 0, none⟩) → tmps.getD 5 undef = .int .i64 (T : Int) → W = w.alloc (.cells #[.int .i64 18, .int .i64 ((T : Int) - 11), .int .i64 7] 163) → bodyPost Tryz.prog Tryz.f129 (AgRet w ((18, T - 11, 7), T)) .ret { tmps := tmps, defers := [] } W) := fun h1 h2 h3 => ag_ret h1 h2 (by rw [h3]; congr 3; simp; omega)
        generalize AgRet w ((18, T - 11, 7), T) = Q at HRR ⊢
        have hT3 : 11 ≤ T ∧ T ≤ 138 := by omega
        clear hT e
        go_enter Tryz.func129, Tryz.ntmps129
        go_wp2
        exact HRR.out rfl rfl rfl
end Go.Proofs.YteknifnadbmfiaaGreatDoor

/- inNumbers: contract. -/
namespace Go.Proofs.YteknifnadbmfiaaGreatDoor
set_option maxRecDepth 100000
open Go Go.RowKit

theorem rep_len (x : Nat) : ∀ t, (rep x t).length ≤ t := by
  intro t
  induction t using Nat.strongRecOn with
  | ind t ih =>
    rcases Nat.eq_zero_or_pos t with h0 | h0
    · subst h0; rw [rep_zero]; simp
    · have hp := agn_pos x t h0
      have := ih (t - (agn x t).2) (by omega)
      rw [rep_pos x t h0]; simp; omega
theorem inN_len : ∀ (n : Nat) (xs : List Int), xs.length = n → (inN xs).length ≤ n := by
  intro n
  induction n using Nat.strongRecOn with
  | ind n ih =>
    intro xs hn
    rcases Nat.eq_zero_or_pos xs.length with h0 | h0
    · rw [List.eq_nil_of_length_eq_zero h0, inN_nil]; simp
    · have hs := sam_le h0
      have h1 := ih (n - sam xs) (by omega) (xs.drop (sam xs)) (by rw [List.length_drop]; omega)
      rw [inN_pos xs h0, List.length_append]
      split
      · have := rep_len (ln xs 0).toNat (sam xs - 1)
        rw [List.length_cons]; omega
      · have := rep_len 0 (sam xs); omega
/-- Behind the marks told so far. -/
structure NumSt (w : World) (X : List Mk) (wx : World) (v : Value) (ms : List Mk) : Prop where
  own : OwnsM wx w.heap.size v ms
  bel : Below w.heap.size w wx
  len : ms.length ≤ 1000
theorem NumSt.stay {w wx wy : World} {X ms : List Mk} {v : Value} (h : NumSt w X wx v ms) (k : Below wx.heap.size wx wy) : NumSt w X wy v ms := ⟨h.own.stay k, h.bel.trans (k.mono h.bel.size), h.len⟩
theorem NumSt.push {w wx wy : World} {X ms : List Mk} {v v' : Value} {m : Mk} (h : NumSt w X wx v ms) (ho : OwnsM wy w.heap.size v' (ms ++ [m])) (hg : wx.grownBy wy v.ownBlock) (hl : ms.length < 1000) : NumSt w X wy v' (ms ++ [m]) := by
  refine ⟨ho, h.bel.trans ((Kept.of_grown hg).below h.bel.size (fun i hi e => ?_)), by simp; omega⟩
  have := (ownsRow_lt h.own e.symm).1
  omega
set_option maxHeartbeats 4000000 in
theorem inNumbers_c (hi : Nat) (a : Option Addr) (cap : Nat) (xs : List Int) (w : World) (h : Ints 0 hi w a xs) (hf : Fit xs) (h0 : 0 < xs.length) (hl : xs.length ≤ 1000) (hcap : xs.length ≤ cap) :
    Calls Tryz.prog 109 #[.slice a xs.length cap] w fun e w' => ∃ ad cp, e = .returned (.slice ad (inN xs).length cp) ∧ OwnsM w' w.heap.size (.slice ad (inN xs).length cp) (inN xs) ∧ Below w.heap.size w w' := by
  obtain ⟨b, off, hb0, hbh, hb, rfl, hc⟩ := h.resolve_left (by omega)
  have hil := inN_len xs.length xs rfl
  have HC := hide hc
  have HF := hide hf
  obtain ⟨N, hN⟩ : ∃ N, inN xs = N := ⟨_, rfl⟩
  have HS0 : Hid ([] ++ inN (xs.drop 0) = N) := hide (by rw [← hN]; simp)
  rw [hN] at hil ⊢
  clear hc hf h hN hb0 hbh
  go_enter Tryz.func109, Tryz.ntmps109
  go_wp2_with fail
  go_loopg [0, 3] xs.length (fun gk v0 v3 wx => ∃ (k o c' : Nat) (ad : Option Addr) (cp : Nat) (ms : List Mk), k + gk = xs.length ∧ (k < xs.length → o = off + k) ∧ gk ≤ c' ∧ v0 = .slice (some ⟨b, o, none⟩) gk c' ∧ v3 = .slice ad ms.length cp ∧ Hid (NumSt w N wx (.slice ad ms.length cp) ms) ∧ Hid (ms ++ inN (xs.drop k) = N))
  case atStart => exact ⟨0, off, cap, none, 0, [], by omega, fun _ => rfl, hcap, rfl, rfl, ⟨OwnsM.nil _ _, Below.refl _ _, by simp⟩, HS0.out⟩
  case round =>
    obtain ⟨k, o, c', ad, cp, ms, hgk, ho, hc', rfl, rfl, HN, HE⟩ := hrel
    cases gk with
    | zero =>
      obtain rfl : k = xs.length := by omega
      have e : ms = N := by have := HE.out; rw [List.drop_length, inN_nil, List.append_nil] at this; exact this
      subst e
      go_wp2_with fail
      go_ret
      exact ⟨ad, cp, rfl, HN.out.own, HN.out.bel⟩
    | succ gk1 =>
      have hkl : k < xs.length := by omega
      obtain rfl := ho hkl
      obtain ⟨ys, hys⟩ : ∃ ys, xs.drop k = ys := ⟨_, rfl⟩
      have hyl : ys.length = gk1 + 1 := by rw [← hys, List.length_drop]; omega
      have hy0 : 0 < ys.length := by omega
      have hyf : Fit ys := fun y hy => HF.out y (by rw [← hys] at hy; exact List.mem_of_mem_drop hy)
      have hln : ∀ i, ln ys i = ln xs (k + i) := fun i => by rw [← hys]; simp [ln, List.getD]
      have hyI : Ints 0 wr.heap.size wr (some ⟨b, off + k, none⟩) ys := by
        have hbw := HN.out.bel.size
        refine .inr ⟨b, off + k, Nat.zero_le _, by omega, by omega, rfl, fun i hi => ?_⟩
        rw [Nat.add_assoc, hln, HN.out.bel.cell (p := ⟨b, _, none⟩) hb]
        exact HC.out (k + i) (by omega)
      have hsl := sam_le hy0
      have hE := HE.out
      rw [hys, inN_pos ys hy0] at hE
      have hdd : ys.drop (sam ys) = xs.drop (k + sam ys) := by rw [← hys, List.drop_drop]
      rw [hdd] at hE
      have hx15 := ln_fit hyf 0
      obtain ⟨x, hx⟩ : ∃ x : Nat, ln ys 0 = x := ⟨(ln ys 0).toNat, by omega⟩
      have hS := fun q => same_m 0 wr.heap.size (some ⟨b, off + k, none⟩) c' ys (wr.drewN q) (hyI.kept (Kept.drewN (Kept.refl (fun _ => False) wr) q) (fun _ _ _ e => e)) hy0 (by omega)
      have c0 : wr.cell? ⟨b, off + k, none⟩ = some (.int .i64 (x : Int)) := by
        have := hyI.resolve_left (by omega)
        obtain ⟨b', o', _, _, _, e, hc⟩ := this
        simp at e
        obtain ⟨rfl, rfl⟩ := e
        have := hc 0 hy0
        rw [hx] at this
        simpa using this
      rw [hx, Int.toNat_natCast] at hE
      obtain ⟨t, ht⟩ : ∃ t, sam ys = t := ⟨_, rfl⟩
      rw [ht] at hE hS hsl
      rw [hyl] at hS hsl
      have HS := hide hS
      have ht1 : 1 ≤ t ∧ t ≤ gk1 + 1 := hsl
      have hx15' : x ≤ 15 := by omega
      have HK : Hid (∀ M : List Mk, M = ms ++ (if 0 < x then (x, 0, 0) :: rep x (t - 1) else rep 0 t) → M ++ inN (xs.drop (k + t)) = N) := fun M hM => by
        rw [hM, List.append_assoc, ← hE]
        by_cases hx0 : 0 < x
        · rw [if_pos hx0, if_pos (by omega)]
        · rw [if_neg hx0, if_neg (by omega)]
      clear hS hyI hln hyf hys hdd ht hE HE hx hyl hy0 hsl hx15
      have g0 : (0 : Int) < ((gk1 + 1 : Nat) : Int) := by omega
      have g1 : ((t : Nat) : Int) ≤ ((gk1 + 1 : Nat) : Int) := by omega
      have g2 : (0 : Int) ≤ (t : Int) := by omega
      have hNl : N.length ≤ 1000 := by omega
      clear hil g0 HF HC
      by_cases hct : c' = t
      case' pos =>
        have hgt : gk1 + 1 - t = 0 := by omega
        subst hct
        have HOF : Hid (∃ o2 c2, Value.slice (some ⟨b, off + k, none⟩) 0 0 = .slice (some ⟨b, o2, none⟩) (gk1 + 1 - c') c2 ∧ (k + c' < xs.length → o2 = off + (k + c')) ∧ gk1 + 1 - c' ≤ c2) := ⟨off + k, 0, by rw [hgt], fun h => by omega, by omega⟩
        obtain ⟨t, htt⟩ : ∃ t, t = c' := ⟨_, rfl⟩
        go_upto_region 3 with fail
        go_quiet ((go_at_call 128; exact Calls.quiet_of (HS.out _)))
        go_upto_region 5 with fail
        obtain ⟨V0, hV0⟩ : ∃ V0, V0 = Value.slice (some ⟨b, off + k, none⟩) 0 0 := ⟨_, rfl⟩
        rw [← hV0] at HOF
        rw [← htt] at HOF HK ht1 g1 g2 ⊢
        clear htt hgt
      case' neg =>
        have hctn : ¬ ((c' : Int) = (t : Int)) := by omega
        have HOF : Hid (∃ o2 c2, Value.slice (some ⟨b, off + k + t, none⟩) (gk1 + 1 - t) (c' - t) = .slice (some ⟨b, o2, none⟩) (gk1 + 1 - t) c2 ∧ (k + t < xs.length → o2 = off + (k + t)) ∧ gk1 + 1 - t ≤ c2) := ⟨off + k + t, c' - t, rfl, fun h => by omega, by omega⟩
        go_upto_region 3 with fail
        go_quiet ((go_at_call 128; exact Calls.quiet_of (HS.out _)))
        go_upto_region 5 with fail
        obtain ⟨V0, hV0⟩ : ∃ V0, V0 = Value.slice (some ⟨b, off + k + t, none⟩) (gk1 + 1 - t) (c' - t) := ⟨_, rfl⟩
        rw [← hV0] at HOF
      all_goals
        have HN1 : Hid (NumSt w N (wr.drewN nq) (.slice ad ms.length cp) ms) := HN.out.stay ((Kept.drewN (Kept.refl (fun _ => False) wr) nq).below (Nat.le_refl _) (fun _ _ e => e))
        rw [← hV0]
        clear HN HS c0 hV0
        generalize wr.drewN nq = w1 at HN1 ⊢
        obtain ⟨MM, hMM⟩ : ∃ MM, MM = ms ++ (if 0 < x then (x, 0, 0) :: rep x (t - 1) else rep 0 t) := ⟨_, rfl⟩
        have HKM := hide (HK.out MM hMM)
        have hMl : ms.length + t ≤ 2001 ∧ (MM.length ≤ N.length) := ⟨by have := HN1.out.len; omega, by have := congrArg List.length HKM.out; simp only [List.length_append] at this; omega⟩
        clear HK
        try clear hct
        by_cases hx0 : 0 < x
        · rw [if_pos hx0] at hMM
          have hml : ms.length < 1000 := by have := congrArg List.length hMM; simp only [List.length_append, List.length_cons] at this; omega
          have HM1 : Hid (ms ++ [(x, 0, 0)] ++ rep x (t - 1) = MM) := hide (by rw [hMM]; simp)
          have htt : (t : Int) - 1 = ((t - 1 : Nat) : Int) := by omega
          have hbz : w.heap.size ≤ (w1.alloc (mO (x, 0, 0))).heap.size := by have := HN1.out.bel.size; simp; omega
          have HN2 := hide (HN1.out.stay ((Below.refl _ w1).alloc (Nat.le_refl _) (mO (x, 0, 0))))
          clear hMM HN1
          go_upto_region 8 with (at_builtin; refine wpList_pushM _ rfl (.tmp 21) (.tmp 24) rfl w.heap.size _ ms (by rfl) HN2.out.own (x, 0, 0) w1.heap.size (by rfl) (one_mk w1 (x, 0, 0) _ rfl) (by omega) hbz ?_; intro a9 c9 w9 ow9 gr9; have HN9 := hide (HN2.out.push ow9 gr9 hml); clear ow9 gr9 HN2)
          obtain ⟨T0, hT0⟩ : ∃ T0, t - 1 = T0 := ⟨_, rfl⟩
          have hT1 : T0 ≤ 1000 := by omega
          rw [hT0] at HM1 ⊢
          obtain ⟨ms1, hms1⟩ : ∃ ms1, ms ++ [(x, 0, 0)] = ms1 := ⟨_, rfl⟩
          have hml1 : ms.length + 1 = ms1.length := by rw [← hms1]; simp
          rw [hms1, hml1] at HN9
          rw [hms1] at HM1
          rw [hml1]
          clear hT0 hms1 hml1 htt
          go_loopg [3, 5] T0 (fun gk2 v3 v5 wx => ∃ (ad2 : Option Addr) (cp2 : Nat) (ms2 : List Mk), v5 = .int .i64 gk2 ∧ v3 = .slice ad2 ms2.length cp2 ∧ gk2 ≤ 1000 ∧ Hid (NumSt w N wx (.slice ad2 ms2.length cp2) ms2) ∧ Hid (ms2 ++ rep x gk2 = MM))
          case atStart => exact ⟨a9, c9, ms1, rfl, rfl, by omega, HN9.out, HM1.out⟩
          case round =>
            obtain ⟨ad2, cp2, ms2, rfl, rfl, hg2, HN3, HE3⟩ := hrel
            cases gk with
            | zero =>
              have hfin := HE3.out
              rw [rep_zero, List.append_nil] at hfin
              subst hfin
              obtain ⟨o2, c2, hV, ho2, hc2⟩ := HOF.out
              have HV := hide hV
              clear hV HE3 HM1
              go_wp2_with fail
              go_roundg (gk1 + 1 - t)
              case measure => omega
              case rel => exact ⟨k + t, o2, c2, ad2, cp2, ms2, by omega, ho2, hc2, HV.out, rfl, HN3, HKM⟩
            | succ g2 =>
              have hp := agn_pos x (g2 + 1) (by omega)
              have hrp := rep_pos x (g2 + 1) (by omega)
              have hE3 := HE3.out
              rw [hrp] at hE3
              have hml : ms2.length < 1000 := by have := congrArg List.length hE3; simp only [List.length_append, List.length_cons] at this; omega
              have HA := fun W => hide (again_c x (g2 + 1) (by omega) (by omega) W)
              obtain ⟨⟨⟨m1, m2, m3⟩, T⟩, hmT⟩ : ∃ r, agn x (g2 + 1) = r := ⟨_, rfl⟩
              rw [hmT] at hE3 HA hp
              simp only at hE3 hp
              have HE4 : Hid (ms2 ++ [(m1, m2, m3)] ++ rep x (g2 + 1 - T) = MM) := hide (by rw [List.append_assoc]; exact hE3)
              have hTg : ((g2 + 1 : Nat) : Int) - (T : Int) = ((g2 + 1 - T : Nat) : Int) := by omega
              have HH : Hid (∀ W, Below wr.heap.size wr W → NumSt w N ((W.alloc (mO (m1, m2, m3))).alloc (mO (m1, m2, m3))) (.slice ad2 ms2.length cp2) ms2 ∧ w.heap.size ≤ ((W.alloc (mO (m1, m2, m3))).alloc (mO (m1, m2, m3))).heap.size) := fun W k => by
                have h1 := (HN3.out.stay k).stay (((Below.refl _ W).alloc (Nat.le_refl _) (mO (m1, m2, m3))).alloc (by simp) (mO (m1, m2, m3)))
                exact ⟨h1, h1.bel.size⟩
              have HOM : Hid (∀ W : World, ∀ j u, (mL (m1, m2, m3))[j]? = some u → ((W.alloc (mO (m1, m2, m3))).alloc (mO (m1, m2, m3))).cell? ((⟨W.heap.size + 1, 0, none⟩ : Addr).add j) = some u) := fun W => one_mk (W.alloc (mO (m1, m2, m3))) (m1, m2, m3) _ (by simp)
              clear hE3 hrp hmT HE3 HM1 HN3
              unfold AgRet mkV at HA
              go_wp2_with (first
                | (go_at_call 129; refine (HA _).out.mono ?_; rintro e w5 ⟨rfl, b5⟩; have H5 := hide (HH.out w5 b5); have HC5 := hide (HOM.out w5); clear b5 HA HH HOM)
                | (at_builtin; refine wpList_pushM _ rfl (.tmp 36) (.tmp 38) rfl w.heap.size _ ms2 (by rfl) H5.out.1.own (m1, m2, m3) (w5.heap.size + 1) (by rfl) HC5.out (by omega) H5.out.2 ?_; intro a8 c8 w8 ow8 gr8; have HN8 := hide (H5.out.1.push ow8 gr8 hml); clear ow8 gr8 H5 HC5))
              go_roundg (g2 + 1 - T)
              case measure => omega
              case rel => exact ⟨a8, c8, ms2 ++ [(m1, m2, m3)], by go_num, by simp, by omega, hide (by simpa using HN8.out), HE4.out⟩
        · rw [if_neg hx0] at hMM
          have hxz : x = 0 := by omega
          have HM1 : Hid (ms ++ rep x t = MM) := hide (by rw [hxz]; exact hMM.symm)
          clear hMM hxz
          go_upto_region 8 with fail
          have hT1 : t ≤ 1000 := by omega
          go_loopg [3, 5] t (fun gk2 v3 v5 wx => ∃ (ad2 : Option Addr) (cp2 : Nat) (ms2 : List Mk), v5 = .int .i64 gk2 ∧ v3 = .slice ad2 ms2.length cp2 ∧ gk2 ≤ 1000 ∧ Hid (NumSt w N wx (.slice ad2 ms2.length cp2) ms2) ∧ Hid (ms2 ++ rep x gk2 = MM))
          case atStart => exact ⟨ad, cp, ms, rfl, rfl, by omega, HN1.out, HM1.out⟩
          case round =>
            obtain ⟨ad2, cp2, ms2, rfl, rfl, hg2, HN3, HE3⟩ := hrel
            cases gk with
            | zero =>
              have hfin := HE3.out
              rw [rep_zero, List.append_nil] at hfin
              subst hfin
              obtain ⟨o2, c2, hV, ho2, hc2⟩ := HOF.out
              have HV := hide hV
              clear hV HE3 HM1
              go_wp2_with fail
              go_roundg (gk1 + 1 - t)
              case measure => omega
              case rel => exact ⟨k + t, o2, c2, ad2, cp2, ms2, by omega, ho2, hc2, HV.out, rfl, HN3, HKM⟩
            | succ g2 =>
              have hp := agn_pos x (g2 + 1) (by omega)
              have hrp := rep_pos x (g2 + 1) (by omega)
              have hE3 := HE3.out
              rw [hrp] at hE3
              have hml : ms2.length < 1000 := by have := congrArg List.length hE3; simp only [List.length_append, List.length_cons] at this; omega
              have HA := fun W => hide (again_c x (g2 + 1) (by omega) (by omega) W)
              obtain ⟨⟨⟨m1, m2, m3⟩, T⟩, hmT⟩ : ∃ r, agn x (g2 + 1) = r := ⟨_, rfl⟩
              rw [hmT] at hE3 HA hp
              simp only at hE3 hp
              have HE4 : Hid (ms2 ++ [(m1, m2, m3)] ++ rep x (g2 + 1 - T) = MM) := hide (by rw [List.append_assoc]; exact hE3)
              have hTg : ((g2 + 1 : Nat) : Int) - (T : Int) = ((g2 + 1 - T : Nat) : Int) := by omega
              have HH : Hid (∀ W, Below wr.heap.size wr W → NumSt w N ((W.alloc (mO (m1, m2, m3))).alloc (mO (m1, m2, m3))) (.slice ad2 ms2.length cp2) ms2 ∧ w.heap.size ≤ ((W.alloc (mO (m1, m2, m3))).alloc (mO (m1, m2, m3))).heap.size) := fun W k => by
                have h1 := (HN3.out.stay k).stay (((Below.refl _ W).alloc (Nat.le_refl _) (mO (m1, m2, m3))).alloc (by simp) (mO (m1, m2, m3)))
                exact ⟨h1, h1.bel.size⟩
              have HOM : Hid (∀ W : World, ∀ j u, (mL (m1, m2, m3))[j]? = some u → ((W.alloc (mO (m1, m2, m3))).alloc (mO (m1, m2, m3))).cell? ((⟨W.heap.size + 1, 0, none⟩ : Addr).add j) = some u) := fun W => one_mk (W.alloc (mO (m1, m2, m3))) (m1, m2, m3) _ (by simp)
              clear hE3 hrp hmT HE3 HM1 HN3
              unfold AgRet mkV at HA
              go_wp2_with (first
                | (go_at_call 129; refine (HA _).out.mono ?_; rintro e w5 ⟨rfl, b5⟩; have H5 := hide (HH.out w5 b5); have HC5 := hide (HOM.out w5); clear b5 HA HH HOM)
                | (at_builtin; refine wpList_pushM _ rfl (.tmp 36) (.tmp 38) rfl w.heap.size _ ms2 (by rfl) H5.out.1.own (m1, m2, m3) (w5.heap.size + 1) (by rfl) HC5.out (by omega) H5.out.2 ?_; intro a8 c8 w8 ow8 gr8; have HN8 := hide (H5.out.1.push ow8 gr8 hml); clear ow8 gr8 H5 HC5))
              go_roundg (g2 + 1 - T)
              case measure => omega
              case rel => exact ⟨a8, c8, ms2 ++ [(m1, m2, m3)], by go_num, by simp, by omega, hide (by simpa using HN8.out), HE4.out⟩
end Go.Proofs.YteknifnadbmfiaaGreatDoor
