/- Several texts, laid together: DHead, MTok, MChain, MSlot. -/
import Derived.Test.YtlakgbckopjelaaGreatDoorG10DTok
import Derived.Test.YtlakgbckopjelaaGreatDoorG09PState
import Derived.Deep.WholeRow
import Derived.Deep.MidRow
import Derived.Laws.ResultCell
import Derived.Deep.LoopGhost
import Derived.BigRegion
import Derived.Laws.AppendOwnNone
import Derived.Deep.DeepCutAuto
import Derived.Deep.RegionWith
import Derived.Deep.RegionLaw
import Derived.Handy
/- What a dynamic block says of its codes: written, and read. Of no program. -/
namespace Go.Proofs.YtlakgbckopjelaaGreatDoor
set_option maxRecDepth 100000
open Go Go.RowKit

/-- How many are like the first one. -/
def sam (xs : List Int) : Nat := 1 + (xs.drop 1).findIdx (fun y => !(y == ln xs 0))
/-- The number for as many times as one can stand for, and how many these are. -/
def agn (x t : Nat) : Mk × Nat := if t < 3 then ((x, 0, 0), 1) else if 0 < x then ((16, min t 6 - 3, 2), min t 6) else if t < 11 then ((17, t - 3, 3), t) else ((18, min t 138 - 11, 7), min t 138)
set_option linter.unusedVariables false
theorem agn_pos (x t : Nat) (h : 0 < t) : 1 ≤ (agn x t).2 ∧ (agn x t).2 ≤ t := by
  unfold agn
  split
  · omega
  · split
    · omega
    · split <;> (try simp only) <;> omega
def rep (x t : Nat) : List Mk := if h : 0 < t then (agn x t).1 :: rep x (t - (agn x t).2) else []
termination_by t
decreasing_by have := agn_pos x t h; omega
theorem rep_zero (x : Nat) : rep x 0 = [] := by rw [rep, dif_neg (by decide)]
theorem rep_pos (x t : Nat) (h : 0 < t) : rep x t = (agn x t).1 :: rep x (t - (agn x t).2) := by rw [rep, dif_pos h]
/-- Lengths as numbers. -/
def inN (xs : List Int) : List Mk := if h : 0 < xs.length then (if 0 < ln xs 0 then ((ln xs 0).toNat, 0, 0) :: rep (ln xs 0).toNat (sam xs - 1) else rep 0 (sam xs)) ++ inN (xs.drop (sam xs)) else []
termination_by xs.length
decreasing_by simp [sam]; omega
theorem inN_nil : inN [] = [] := by rw [inN, dif_neg (by simp)]
theorem inN_pos (xs : List Int) (h : 0 < xs.length) : inN xs = (if 0 < ln xs 0 then ((ln xs 0).toNat, 0, 0) :: rep (ln xs 0).toNat (sam xs - 1) else rep 0 (sam xs)) ++ inN (xs.drop (sam xs)) := by rw [inN, dif_pos h]
theorem sam_le {xs : List Int} (h : 0 < xs.length) : 1 ≤ sam xs ∧ sam xs ≤ xs.length := by
  unfold sam
  have : (xs.drop 1).findIdx (fun y => !(y == ln xs 0)) ≤ (xs.drop 1).length := List.findIdx_le_length
  rw [List.length_drop] at this
  omega
theorem sam_same {xs : List Int} {i : Nat} (hx : 0 < xs.length) (h : i < sam xs) : ln xs i = ln xs 0 := by
  rcases Nat.eq_zero_or_pos i with h0 | h0
  · rw [h0]
  · have hl := (sam_le hx).2
    unfold sam at h
    have := List.not_of_lt_findIdx (xs := xs.drop 1) (p := fun y => !(y == ln xs 0)) (i := i - 1) (by omega)
    simp only [List.getElem_drop] at this
    have e : 1 + (i - 1) = i := by omega
    simp only [e] at this
    unfold ln at this ⊢
    rw [List.getD_eq_getElem?_getD, List.getElem?_eq_getElem (by unfold sam at hl; omega)]
    simpa using this
theorem sam_is {xs : List Int} {n : Nat} (h1 : 1 ≤ n) (h2 : n ≤ xs.length) (hs : ∀ i, i < n → ln xs i = ln xs 0) (he : n = xs.length ∨ ¬ ln xs n = ln xs 0) : sam xs = n := by
  have hx : 0 < xs.length := by omega
  have hl := sam_le hx
  rcases Nat.lt_trichotomy (sam xs) n with h | h | h
  · exfalso
    have h3 := hs (sam xs) h
    have hlt : (xs.drop 1).findIdx (fun y => !(y == ln xs 0)) < (xs.drop 1).length := by rw [List.length_drop]; unfold sam at h; omega
    have := List.findIdx_getElem (w := hlt)
    simp only [List.getElem_drop] at this
    have e : 1 + (xs.drop 1).findIdx (fun y => !(y == ln xs 0)) = sam xs := rfl
    simp only [e] at this
    unfold ln at h3
    rw [List.getD_eq_getElem?_getD, List.getElem?_eq_getElem (by omega)] at h3
    unfold ln at this
    simp only [Option.getD_some] at h3
    simp [h3] at this
  · exact h
  · exfalso
    rcases he with he | he
    · omega
    · exact he (sam_same hx h)
theorem take_sam {xs : List Int} (hx : 0 < xs.length) : xs.take (sam xs) = List.replicate (sam xs) (ln xs 0) := by
  have hl := sam_le hx
  apply List.ext_getElem
  · simp; omega
  · intro i h1 h2
    simp only [List.length_replicate] at h2
    rw [List.getElem_take, List.getElem_replicate]
    have := sam_same hx h2
    unfold ln at this
    rw [List.getD_eq_getElem?_getD, List.getElem?_eq_getElem (by omega)] at this
    exact this

/-- What a number says behind what was said. -/
def dnm (all : List Int) (m : Mk) : List Int :=
  if m.1 < 16 then all ++ [(m.1 : Int)] else all ++ List.replicate (m.2.1 + if m.1 = 18 then 11 else 3) (if m.1 = 16 then ln all (all.length - 1) else 0)
def Okm (all : List Int) (m : Mk) : Prop := (m.1 < 16 ∧ m.2.1 = 0 ∧ m.2.2 = 0) ∨ (m.1 = 16 ∧ 0 < all.length ∧ m.2.1 < 4 ∧ m.2.2 = 2) ∨ (m.1 = 17 ∧ m.2.1 < 8 ∧ m.2.2 = 3) ∨ (m.1 = 18 ∧ m.2.1 < 128 ∧ m.2.2 = 7)
/-- Numbers that say res behind all. -/
def Dns : List Int → List Mk → List Int → Prop
  | all, [], res => res = all
  | all, m :: ms, res => Okm all m ∧ Dns (dnm all m) ms res
theorem Dns.app {ms ns : List Mk} {all mid res : List Int} (h : Dns all ms mid) (k : Dns mid ns res) : Dns all (ms ++ ns) res := by
  induction ms generalizing all with
  | nil => obtain rfl : mid = all := h; exact k
  | cons m ms ih => exact ⟨h.1, ih h.2⟩
theorem ln_last (A : List Int) (x : Int) : ln (A ++ [x]) ((A ++ [x]).length - 1) = x := by simp [ln, List.getD]
theorem dnm_16 (all : List Int) (k f : Nat) : dnm all (16, k, f) = all ++ List.replicate (k + 3) (ln all (all.length - 1)) := rfl
theorem dnm_17 (all : List Int) (k f : Nat) : dnm all (17, k, f) = all ++ List.replicate (k + 3) 0 := rfl
theorem dnm_18 (all : List Int) (k f : Nat) : dnm all (18, k, f) = all ++ List.replicate (k + 11) 0 := rfl
theorem rep_add (m n : Nat) (x : Int) : List.replicate m x ++ List.replicate n x = List.replicate (m + n) x := by simp
theorem dns_rep (x : Nat) (hx : x < 16) : ∀ (t : Nat) (all : List Int), (0 < x → 0 < all.length ∧ ln all (all.length - 1) = x) → Dns all (rep x t) (all ++ List.replicate t (x : Int)) := by
  intro t
  induction t using Nat.strongRecOn with
  | ind t ih =>
    intro all h
    rcases Nat.eq_zero_or_pos t with h0 | h0
    · subst h0
      rw [rep_zero]
      simp [Dns]
    · rw [rep_pos x t h0]
      have hp := agn_pos x t h0
      have hd : dnm all (agn x t).1 = all ++ List.replicate (agn x t).2 (x : Int) ∧ Okm all (agn x t).1 := by
        by_cases c1 : t < 3
        · have e : agn x t = ((x, 0, 0), 1) := if_pos c1
          rw [e]
          refine ⟨?_, .inl ⟨hx, rfl, rfl⟩⟩
          unfold dnm
          rw [if_pos hx]; rfl
        · by_cases c2 : 0 < x
          · have e : agn x t = ((16, min t 6 - 3, 2), min t 6) := (if_neg c1).trans (if_pos c2)
            have hk := h c2
            have e6 : min t 6 = (min t 6 - 3) + 3 := by omega
            rw [e]
            refine ⟨?_, .inr (.inl ⟨rfl, hk.1, by show min t 6 - 3 < 4; omega, rfl⟩)⟩
            rw [dnm_16, hk.2, ← e6]
          · obtain rfl : x = 0 := by omega
            by_cases c3 : t < 11
            · have e : agn 0 t = ((17, t - 3, 3), t) := (if_neg c1).trans ((if_neg c2).trans (if_pos c3))
              have e6 : t = (t - 3) + 3 := by omega
              rw [e]
              refine ⟨?_, .inr (.inr (.inl ⟨rfl, by show t - 3 < 8; omega, rfl⟩))⟩
              rw [dnm_17, ← e6]; rfl
            · have e : agn 0 t = ((18, min t 138 - 11, 7), min t 138) := (if_neg c1).trans ((if_neg c2).trans (if_neg c3))
              have e6 : min t 138 = (min t 138 - 11) + 11 := by omega
              rw [e]
              refine ⟨?_, .inr (.inr (.inr ⟨rfl, by show min t 138 - 11 < 128; omega, rfl⟩))⟩
              rw [dnm_18, ← e6]; rfl
      refine ⟨hd.2, ?_⟩
      rw [hd.1]
      have := ih (t - (agn x t).2) (by omega) (all ++ List.replicate (agn x t).2 (x : Int)) (fun hx0 => by
        refine ⟨by simp; omega, ?_⟩
        rw [show (agn x t).2 = ((agn x t).2 - 1) + 1 by omega, List.replicate_succ', ← List.append_assoc, ln_last])
      rw [List.append_assoc, rep_add, show (agn x t).2 + (t - (agn x t).2) = t by omega] at this
      exact this
theorem dns_inN : ∀ (n : Nat) (xs all : List Int), xs.length = n → Fit xs → Dns all (inN xs) (all ++ xs) := by
  intro n
  induction n using Nat.strongRecOn with
  | ind n ih =>
    intro xs all hn hf
    rcases Nat.eq_zero_or_pos xs.length with h0 | h0
    · have : xs = [] := List.eq_nil_of_length_eq_zero h0
      subst this
      rw [inN_nil]
      simp [Dns]
    · rw [inN_pos xs h0]
      have hs := sam_le h0
      have h15 := ln_fit hf 0
      have hr := ih (xs.drop (sam xs)).length (by rw [List.length_drop]; omega) (xs.drop (sam xs)) (all ++ xs.take (sam xs)) rfl (fun y hy => hf y (List.mem_of_mem_drop hy))
      rw [List.append_assoc, List.take_append_drop] at hr
      refine Dns.app ?_ hr
      rw [take_sam h0]
      by_cases hp : 0 < ln xs 0
      · rw [if_pos hp]
        have e : ((ln xs 0).toNat : Int) = ln xs 0 := by omega
        refine ⟨.inl ⟨by omega, rfl, rfl⟩, ?_⟩
        have hd : dnm all ((ln xs 0).toNat, 0, 0) = all ++ [ln xs 0] := by unfold dnm; rw [if_pos (by show (ln xs 0).toNat < 16; omega), e]
        rw [hd]
        have := dns_rep (ln xs 0).toNat (by omega) (sam xs - 1) (all ++ [ln xs 0]) (fun _ => ⟨by simp, by rw [ln_last, e]⟩)
        rw [e, List.append_assoc, List.singleton_append, ← List.replicate_succ, show sam xs - 1 + 1 = sam xs by omega] at this
        exact this
      · rw [if_neg hp]
        have e : ln xs 0 = 0 := by omega
        rw [e]
        exact dns_rep 0 (by decide) (sam xs) all (fun h => by omega)

theorem iLen_low {first all : List Int} {many : Nat} {b : Nat → Nat} {T p q v : Nat} (h : iNx first b T p = .ok (q, v)) (hv : v < 16) : iLen first many b T p all = .ok (q, (decide (all.length + 1 < many), all ++ [(v : Int)])) := by
  unfold iLen; rw [iThen_of_ok h, if_pos hv]
theorem iLen_high {first all : List Int} {many : Nat} {b : Nat → Nat} {T p q v q2 x : Nat} (h : iNx first b T p = .ok (q, v)) (hv : 16 ≤ v) (h16 : v = 16 → 0 < all.length) (h2 : iTk b T q (if v = 16 then 2 else if v = 17 then 3 else 7) = .ok (q2, x)) (hm : all.length + (x + if v = 18 then 11 else 3) ≤ many) :
    iLen first many b T p all = .ok (q2, (decide (all.length + (x + if v = 18 then 11 else 3) < many), all ++ List.replicate (x + if v = 18 then 11 else 3) (if v = 16 then ln all (all.length - 1) else 0))) := by
  unfold iLen
  rw [iThen_of_ok h]
  try simp only
  rw [if_neg (by omega), if_neg (fun c => by have := h16 c.1; omega), iThen_of_ok h2]
  try simp only
  rw [if_neg (by omega)]
theorem dnm_length (all : List Int) (m : Mk) : all.length < (dnm all m).length := by
  unfold dnm
  split
  · simp
  · simp; split <;> omega
theorem Dns.len {ms : List Mk} {all res : List Int} (h : Dns all ms res) : all.length ≤ res.length ∧ (ms ≠ [] → all.length < res.length) := by
  induction ms generalizing all with
  | nil => obtain rfl : res = all := h; exact ⟨Nat.le_refl _, fun h => absurd rfl h⟩
  | cons m ms ih => have := (ih h.2).1; have := dnm_length all m; exact ⟨by omega, fun _ => by omega⟩
/-- Numbers, read. -/
theorem num_read {F : List Int} (hg : Good F) {b : Nat → Nat} (hb : ∀ i, b i ≤ 1) {T : Nat} : ∀ (ms : List Mk) (all res : List Int) (p : Nat), ms ≠ [] → Dns all ms res → (∀ m ∈ ms, Has F m.1) → BAt b T p (ms.flatMap (mkB F)) →
    iLoop T (iLen F res.length b T) p all = .ok (p + (ms.flatMap (mkB F)).length, res) := by
  intro ms
  induction ms with
  | nil => intro _ _ _ h; exact absurd rfl h
  | cons m ms ih =>
    intro all res p _ hd hh hB
    rw [List.flatMap_cons] at hB ⊢
    obtain ⟨ho, hd⟩ := hd
    have hm := hh m (by simp)
    have hx : m.2.1 < 2 ^ m.2.2 := by
      rcases ho with ⟨_, h1, h2⟩ | ⟨_, _, h1, h2⟩ | ⟨_, h1, h2⟩ | ⟨_, h1, h2⟩ <;> rw [h2] <;> omega
    obtain ⟨n1, n2⟩ := hB.left.mark hg hb hm hx
    have hlen := dnm_length all m
    have hle := hd.len
    have hstep : iLen F res.length b T p all = .ok (p + (mkB F m).length, (decide ((dnm all m).length < res.length), dnm all m)) := by
      by_cases hl : m.1 < 16
      · have e : m.2.2 = 0 := by rcases ho with ⟨_, _, h2⟩ | ⟨h1, _⟩ | ⟨h1, _⟩ | ⟨h1, _⟩ <;> omega
        rw [iLen_low n1 hl, mkB_length, e, Nat.add_zero]
        unfold dnm
        rw [if_pos hl, List.length_append]; rfl
      · have e : m.2.2 = if m.1 = 16 then 2 else if m.1 = 17 then 3 else 7 := by
          rcases ho with ⟨h1, _⟩ | ⟨h1, _, _, h2⟩ | ⟨h1, _, h2⟩ | ⟨h1, _, h2⟩
          · omega
          · rw [h1, h2]; rfl
          · rw [h1, h2]; rfl
          · rw [h1, h2]; rfl
        have h16 : m.1 = 16 → 0 < all.length := fun h => by rcases ho with ⟨h1, _⟩ | ⟨_, h1, _⟩ | ⟨h1, _⟩ | ⟨h1, _⟩ <;> omega
        rw [e] at n2
        have hdl : (dnm all m).length = all.length + (m.2.1 + if m.1 = 18 then 11 else 3) := by unfold dnm; rw [if_neg hl]; simp
        rw [iLen_high n1 (by omega) h16 n2 (by omega)]
        rw [hdl]
        unfold dnm
        rw [if_neg hl]
    by_cases hms : ms = []
    · subst hms
      obtain rfl : res = dnm all m := hd
      rw [decide_eq_false (Nat.lt_irrefl _)] at hstep
      rw [iLoop_end hstep]
      simp
    · have hlt := hle.2 hms
      rw [decide_eq_true hlt] at hstep
      have hw := hm.2
      have hpos : 1 ≤ (mkB F m).length := by rw [mkB_length]; omega
      rw [iLoop_on hstep (by omega) hB.left.1, ih (dnm all m) res _ hms hd (fun y hy => hh y (by simp [hy])) hB.right, List.length_append, Nat.add_assoc]

/-- The inner lengths, in their order. -/
def pos19 (s : Nat) : Nat := iOrd.idxOf s
def rdF (F : List Int) (n : Nat) : List Int := (List.range 19).map fun s => if pos19 s < n then ln F s else 0
theorem rdF_length (F : List Int) (n : Nat) : (rdF F n).length = 19 := by simp [rdF]
theorem ord_lt : ∀ i : Fin 19, iOrd.getD i.val 0 < 19 ∧ pos19 (iOrd.getD i.val 0) = i.val := by decide +kernel
theorem pos_lt : ∀ s : Fin 19, pos19 s.val < 19 ∧ iOrd.getD (pos19 s.val) 0 = s.val := by decide +kernel
theorem rdF_set (F : List Int) {i : Nat} (hi : i < 19) : (rdF F i).set (iOrd.getD i 0) (ln F (iOrd.getD i 0)) = rdF F (i + 1) := by
  obtain ⟨h1, h2⟩ := ord_lt ⟨i, hi⟩
  simp only at h1 h2
  apply List.ext_getElem
  · rw [List.length_set, rdF_length, rdF_length]
  · intro s k1 k2
    rw [rdF_length] at k2
    rw [List.getElem_set]
    simp only [rdF, List.getElem_map, List.getElem_range]
    split
    · rename_i e
      subst e
      rw [if_pos (by omega)]
    · rename_i e
      have hp := pos_lt ⟨s, k2⟩
      simp only at hp
      have : pos19 s ≠ i := fun h => e (by rw [← h]; exact hp.2)
      by_cases hs : pos19 s < i
      · rw [if_pos hs, if_pos (by omega)]
      · rw [if_neg hs, if_neg (by omega)]
theorem rdF_zero (F : List Int) : rdF F 0 = List.replicate 19 0 := by
  apply List.ext_getElem
  · simp [rdF]
  · intro i h1 h2
    rw [List.getElem_replicate]
    simp [rdF]
theorem rdF_all {F : List Int} (hl : F.length = 19) {n : Nat} (h : ∀ i, n ≤ i → i < 19 → ln F (iOrd.getD i 0) = 0) : rdF F n = F := by
  apply List.ext_getElem
  · rw [rdF_length, hl]
  · intro s k1 k2
    simp only [rdF, List.getElem_map, List.getElem_range]
    have hp := pos_lt ⟨s, by omega⟩
    simp only at hp
    have e : ln F s = F[s] := by simp [ln, List.getD, k2]
    split
    · exact e
    · have := h (pos19 s) (by omega) hp.1
      rw [hp.2] at this
      omega
def innB (F : List Int) (i n : Nat) : List Int := ((List.range n).flatMap fun j => bitsN (ln F (iOrd.getD (i + j) 0)) 3)
theorem innB_succ (F : List Int) (i n : Nat) : innB F i (n + 1) = bitsN (ln F (iOrd.getD i 0)) 3 ++ innB F (i + 1) n := by
  unfold innB
  rw [List.range_succ_eq_map, List.flatMap_cons, List.flatMap_map]
  simp only [Nat.add_zero, Nat.succ_eq_add_one]
  have e : (fun j => bitsN (ln F (iOrd.getD (i + (j + 1)) 0)) 3) = fun j => bitsN (ln F (iOrd.getD (i + 1 + j) 0)) 3 := by
    funext j
    rw [show i + (j + 1) = i + 1 + j by omega]
  rw [e]
theorem innB_length (F : List Int) (i n : Nat) : (innB F i n).length = 3 * n := by
  induction n generalizing i with
  | zero => rfl
  | succ n ih => rw [innB_succ, List.length_append, bitsN_length, ih]; omega
theorem rd3_read {F : List Int} (hF : ∀ i, 0 ≤ ln F i ∧ ln F i ≤ 7) {b : Nat → Nat} {T : Nat} : ∀ (n p i : Nat), i + n ≤ 19 → BAt b T p (innB F i n) → iRd3 b T n p i (rdF F i) = .ok (p + 3 * n, rdF F (i + n)) := by
  intro n
  induction n with
  | zero => intro p i _ _; rfl
  | succ n ih =>
    intro p i hi hB
    rw [innB_succ] at hB
    have h7 := hF (iOrd.getD i 0)
    obtain ⟨v, hv⟩ : ∃ v : Nat, ln F (iOrd.getD i 0) = v := ⟨(ln F (iOrd.getD i 0)).toNat, by omega⟩
    have h1 := hB.left
    have h2 := hB.right
    rw [bitsN_length] at h2
    rw [hv] at h1
    have t := h1.tk (by omega : v < 2 ^ 3)
    unfold iRd3
    rw [iThen_of_ok t]
    try simp only
    rw [← hv, rdF_set F (by omega), ih (p + 3) (i + 1) (by omega) h2]
    congr 2
    · omega
    · congr 1; omega
/-- What stands ahead of a dynamic block's data. -/
def hdB (S D F : List Int) (many : Nat) : List Int := bitsN ((S.length - 257 : Nat) : Int) 5 ++ (bitsN ((D.length - 1 : Nat) : Int) 5 ++ (bitsN ((many - 4 : Nat) : Int) 4 ++ (innB F 0 many ++ (inN (S ++ D)).flatMap (mkB F))))
structure HOk (S D F : List Int) (many : Nat) : Prop where
  s0 : 257 ≤ S.length
  s1 : S.length ≤ 286
  d0 : 1 ≤ D.length
  d1 : D.length ≤ 30
  cs : check S true = 0
  cd : check D true = 0
  e : ¬ ln S 256 = 0
  fl : F.length = 19
  f7 : ∀ i, 0 ≤ ln F i ∧ ln F i ≤ 7
  cf : check F false = 0
  m0 : 4 ≤ many
  m1 : many ≤ 19
  mz : ∀ i, many ≤ i → i < 19 → ln F (iOrd.getD i 0) = 0
  has : ∀ m ∈ inN (S ++ D), Has F m.1
theorem HOk.read {S D F : List Int} {many : Nat} (h : HOk S D F many) {b : Nat → Nat} {T p : Nat} (hb : ∀ i, b i ≤ 1) (hB : BAt b T p (hdB S D F many)) : iHdr b T p = .ok (p + (hdB S D F many).length, (S, D)) := by
  obtain ⟨s0, s1, d0, d1, cs, cd, he, fl, f7, cf, m0, m1, mz, hs⟩ := h
  have hSf := (check_ok cs).2.1
  have hDf := (check_ok cd).2.1
  unfold hdB at hB ⊢
  have b1 := hB.left
  have b2 := hB.right.left
  have b3 := hB.right.right.left
  have b4 := hB.right.right.right.left
  have b5 := hB.right.right.right.right
  simp only [bitsN_length] at b2 b3 b4 b5
  rw [innB_length] at b5
  have t1 := b1.tk (by omega : S.length - 257 < 2 ^ 5)
  have t2 := b2.tk (by omega : D.length - 1 < 2 ^ 5)
  have t3 := b3.tk (by omega : many - 4 < 2 ^ 4)
  have t4 := rd3_read f7 many (p + 5 + 5 + 4) 0 (by omega) b4
  rw [rdF_zero, Nat.zero_add, rdF_all fl mz] at t4
  have hne : inN (S ++ D) ≠ [] := by
    rw [inN_pos _ (by simp; omega)]
    intro h
    have h1 := (List.append_eq_nil_iff.1 h).1
    have h2 := (sam_le (xs := S ++ D) (by simp; omega)).1
    split at h1
    · simp at h1
    · rw [rep_pos _ _ (by omega)] at h1; simp at h1
  have t5 := num_read (check_good cf) hb (inN (S ++ D)) [] (S ++ D) _ hne (by
    have := dns_inN (S ++ D).length (S ++ D) [] rfl (fit_app hSf hDf)
    simpa using this) hs b5
  unfold iHdr
  rw [iThen_of_ok t1]
  try simp only
  rw [iThen_of_ok t2]
  try simp only
  rw [iThen_of_ok t3]
  try simp only
  rw [if_neg (by omega), show many - 4 + 4 = many by omega, iThen_of_ok t4]
  try simp only
  rw [if_neg (by simp [cf]), show S.length - 257 + 258 + (D.length - 1) = (S ++ D).length by rw [List.length_append]; omega, iThen_of_ok t5]
  try simp only
  have e1 : (S ++ D).take (S.length - 257 + 257) = S := by rw [show S.length - 257 + 257 = S.length by omega, List.take_left']; rfl
  have e2 : (S ++ D).drop (S.length - 257 + 257) = D := by rw [show S.length - 257 + 257 = S.length by omega, List.drop_left']; rfl
  have e3 : ln (S ++ D) 256 = ln S 256 := by unfold ln; exact getD_left (by omega)
  rw [e1, e2, e3, if_neg (by rintro (h | h | h); exact he h; exact h cs; exact h cd)]
  simp only [List.length_append, bitsN_length, innB_length]
  congr 2
  omega
end Go.Proofs.YtlakgbckopjelaaGreatDoor

/- Tokens in memory: three cells each. -/
namespace Go.Proofs.YtlakgbckopjelaaGreatDoor.M
set_option maxRecDepth 100000
open Go Go.RowKit

theorem lt_of_block' {w : World} {b : Nat} {o : Obj} (h : w.heap[b]? = some o) : b < w.heap.size := by
  rcases Nat.lt_or_ge b w.heap.size with h' | h'
  · exact h'
  · rw [Array.getElem?_eq_none h'] at h; simp at h
theorem heap_old {w : World} {o : Obj} {b : Nat} {p : Obj} (h : w.heap[b]? = some p) : (w.alloc o).heap[b]? = some p := by
  rw [Below.heap_alloc _ _ _ (lt_of_block' h)]; exact h

/-- A token's cells. -/
abbrev tA (t : Tk) : Array Value := #[.int .u8 t.1, .int .i64 t.2.1, .int .i64 t.2.2]
abbrev tO (t : Tk) : Obj := .cells #[.int .u8 t.1, .int .i64 t.2.1, .int .i64 t.2.2] 38
def tc (xs : List Tk) : List Value := xs.flatMap fun t => [.int .u8 t.1, .int .i64 t.2.1, .int .i64 t.2.2]
theorem tc_snoc (xs : List Tk) (t : Tk) : tc (xs ++ [t]) = tc xs ++ [.int .u8 t.1, .int .i64 t.2.1, .int .i64 t.2.2] := by simp [tc]
theorem tc_app (xs ys : List Tk) : tc (xs ++ ys) = tc xs ++ tc ys := by simp [tc]
theorem tc_cons (t : Tk) (xs : List Tk) : tc (t :: xs) = [.int .u8 t.1, .int .i64 t.2.1, .int .i64 t.2.2] ++ tc xs := by simp [tc]
theorem tc_length (xs : List Tk) : (tc xs).length = xs.length * 3 := by
  induction xs with
  | nil => rfl
  | cons t xs ih => rw [tc_cons, List.length_append, ih]; simp; omega
theorem tc_at (xs : List Tk) {i : Nat} (h : i < xs.length) : (tc xs)[i * 3]? = some (.int .u8 (tk xs i).1) ∧ (tc xs)[i * 3 + 1]? = some (.int .i64 (tk xs i).2.1) ∧ (tc xs)[i * 3 + 2]? = some (.int .i64 (tk xs i).2.2) := by
  induction xs generalizing i with
  | nil => simp at h
  | cons t xs ih =>
    cases i with
    | zero => simp [tc_cons, tk]
    | succ i =>
      have hi : i < xs.length := by simpa using h
      obtain ⟨h1, h2, h3⟩ := ih hi
      have e : tk (t :: xs) (i + 1) = tk xs i := by simp [tk]
      rw [e, tc_cons, show (i + 1) * 3 = i * 3 + 3 by omega]
      refine ⟨?_, ?_, ?_⟩
      · rw [List.getElem?_append_right (by simp)]; simpa using h1
      · rw [List.getElem?_append_right (by simp)]; simpa using h2
      · rw [List.getElem?_append_right (by simp)]; simpa using h3
theorem tc_one (xs : List Tk) : ∀ u ∈ tc xs, u.oneCell' = true := by
  intro u hu
  obtain ⟨t, _, h⟩ := List.mem_flatMap.1 hu
  simp at h
  rcases h with rfl | rfl | rfl <;> rfl
/-- The tokens xs lie where a slice leads. -/
def Toks (w : World) (a : Option Addr) (xs : List Tk) : Prop :=
  xs.length = 0 ∨ ∃ b off, b < w.heap.size ∧ a = some ⟨b, off, none⟩ ∧ ∀ i, i < xs.length → w.cell? ⟨b, off + i * 3, none⟩ = some (.int .u8 (tk xs i).1) ∧ w.cell? ⟨b, off + i * 3 + 1, none⟩ = some (.int .i64 (tk xs i).2.1) ∧ w.cell? ⟨b, off + i * 3 + 2, none⟩ = some (.int .i64 (tk xs i).2.2)
theorem Toks.kept {M : Nat → Prop} {w w' : World} {a : Option Addr} {xs : List Tk} (h : Toks w a xs) (k : Kept M w w') (hn : ∀ b off, a = some ⟨b, off, none⟩ → ¬ M b) : Toks w' a xs := by
  rcases h with h | ⟨b, off, h1, rfl, hc⟩
  · exact .inl h
  · have hM := hn b off rfl
    refine .inr ⟨b, off, Nat.lt_of_lt_of_le h1 k.size, rfl, fun i hi => ?_⟩
    obtain ⟨c0, c1, c2⟩ := hc i hi
    exact ⟨(k.cell (p := ⟨b, _, none⟩) h1 hM).trans c0, (k.cell (p := ⟨b, _, none⟩) h1 hM).trans c1, (k.cell (p := ⟨b, _, none⟩) h1 hM).trans c2⟩
theorem Toks.stay {w w' : World} {a : Option Addr} {xs : List Tk} (h : Toks w a xs) (k : Below w.heap.size w w') : Toks w' a xs := by
  rcases h with h | ⟨b, off, h1, rfl, hc⟩
  · exact .inl h
  · exact Toks.kept (.inr ⟨b, off, h1, rfl, hc⟩) (Kept.of_below k) (fun b' off' e => by simp at e; omega)
theorem Toks.below {B : Nat} {w w' : World} {a : Option Addr} {xs : List Tk} (h : Toks w a xs) (k : Below B w w') (hB : ∀ b off, a = some ⟨b, off, none⟩ → b < B) : Toks w' a xs :=
  h.kept (Kept.of_below k) (fun b off e => by have := hB b off e; omega)
/-- A slice value that owns tokens. -/
def OwnsT (w : World) (base : Nat) (v : Value) (L : List Tk) : Prop := w.ownsRow base 38 3 v L.length (tc L)
theorem OwnsT.nil (w : World) (base : Nat) : OwnsT w base (.slice none 0 0) [] := World.ownsRow_nil _ _ _ _
theorem OwnsT.kept {M : Nat → Prop} {w w' : World} {base : Nat} {v : Value} {L : List Tk} (h : OwnsT w base v L) (k : Kept M w w') (hn : ∀ g, v.ownBlock = some g → ¬ M g) : OwnsT w' base v L := ownsRow_kept h k hn
theorem OwnsT.stay {w w' : World} {base : Nat} {v : Value} {L : List Tk} (h : OwnsT w base v L) (k : Below w.heap.size w w') : OwnsT w' base v L := h.kept (Kept.of_below k) (fun g hg e => by have := (ownsRow_lt h hg).2; omega)
theorem OwnsT.form {w : World} {base : Nat} {v : Value} {L : List Tk} (h : OwnsT w base v L) : ∃ a cap, v = .slice a L.length cap ∧ Toks w a L ∧ (∀ b off, a = some ⟨b, off, none⟩ → base ≤ b ∧ b < w.heap.size) ∧ (a = none → L.length = 0 ∧ cap = 0) ∧ L.length ≤ cap := by
  rcases h.2 with ⟨rfl, h2⟩ | ⟨g, cap, cur, rfl, hg, hh, hc1, hc2, hc3, hc4⟩
  · exact ⟨none, 0, by rw [h2], .inl h2, fun b off e => (by cases e), fun _ => ⟨h2, rfl⟩, (by omega)⟩
  · refine ⟨_, cap, rfl, .inr ⟨g, 0, lt_of_block hh, rfl, fun i hi => ?_⟩, fun b off e => ?_, fun e => (by cases e), hc1⟩
    · have key : ∀ j, j < L.length * 3 → w.cell? ⟨g, j, none⟩ = (tc L)[j]? := fun j hj => by
        rw [cells_of hh, ← hc4, List.getElem?_take_of_lt hj, Array.getElem?_toList]
      obtain ⟨h1, h2, h3⟩ := tc_at L hi
      rw [Nat.zero_add]
      exact ⟨(key _ (by omega)).trans h1, (key _ (by omega)).trans h2, (key _ (by omega)).trans h3⟩
    · simp at e
      obtain ⟨rfl, _⟩ := e
      exact ⟨hg, lt_of_block hh⟩
theorem OwnsT.push {w : World} {base : Nat} {v : Value} {L : List Tk} {t : Tk} (h : w.ownsRow base 38 3 v (L.length + 1) (tc L ++ [.int .u8 t.1, .int .i64 t.2.1, .int .i64 t.2.2])) : OwnsT w base v (L ++ [t]) := by
  unfold OwnsT
  rw [tc_snoc, List.length_append, List.length_singleton]
  exact h
theorem Tryz.infoTok : (Tryz.prog.info? 38).map (fun i => (i.zero, i.size, i.bytes)) = some (some (.agg #[.int .u8 0, .int .i64 0, .int .i64 0]), 3, 24) := by kernel_rfl
theorem one_tok (w : World) (t : Tk) (n : Nat) (h : w.heap.size = n) : ∀ j u, ([.int .u8 t.1, .int .i64 t.2.1, .int .i64 t.2.2] : List Value)[j]? = some u → (w.alloc (tO t)).cell? ((⟨n, 0, none⟩ : Addr).add j) = some u := by
  subst h; exact World.news_of_block (heap_new w (tO t))
/-- A token in memory. -/
theorem tok_new (w : World) (t : Tk) : (w.alloc (tO t)).heap[w.heap.size]? = some (tO t) := heap_new w _

set_option maxHeartbeats 400000 in
theorem told_c (b l k : Int) (w : World) : Calls Tryz.prog 57 #[.agg #[.int .u8 b, .int .i64 l, .int .i64 k]] w fun e w' => e = .returned (.int .i64 (tl (b, l, k))) ∧ w' = w.alloc (tO (b, l, k)) := by
  by_cases h : l = 0
  · subst h
    have ht : tl (b, 0, k) = 1 := by simp [tl]
    rw [ht]
    go_enter Tryz.func57, Tryz.ntmps57
    go_wp2
    go_ret
    exact ⟨rfl, rfl⟩
  · have ht : tl (b, l, k) = l := by simp [tl, h]
    rw [ht]
    go_enter Tryz.func57, Tryz.ntmps57
    go_wp2
    go_ret
    exact ⟨rfl, rfl⟩
set_option maxHeartbeats 400000 in
theorem isByte_yes (b : Int) (w : World) : Calls Tryz.prog 55 #[.agg #[.int .u8 b, .int .i64 0, .int .i64 0]] w fun e w' => e = .returned (.bool true) ∧ w' = w.alloc (tO (b, 0, 0)) := by
  go_enter Tryz.func55, Tryz.ntmps55
  go_wp2
  go_ret
  exact ⟨rfl, rfl⟩
set_option maxHeartbeats 400000 in
theorem isByte_no (b l k : Int) (w : World) (h : ¬ (l = 0 ∧ k = 0)) : Calls Tryz.prog 55 #[.agg #[.int .u8 b, .int .i64 l, .int .i64 k]] w fun e w' => e = .returned (.bool false) ∧ w' = w.alloc (tO (b, l, k)) := by
  by_cases hl : l = 0
  · subst hl
    have hk : ¬ k = 0 := fun e => h ⟨rfl, e⟩
    have hk' : (k == 0) = false := by simpa using hk
    clear h
    go_enter Tryz.func55, Tryz.ntmps55
    go_wp2
    go_ret
    exact ⟨rfl, rfl⟩
  · clear h
    go_enter Tryz.func55, Tryz.ntmps55
    go_wp2
    go_ret
    exact ⟨rfl, rfl⟩
set_option maxHeartbeats 1000000 in
theorem isRun_yes (l k : Int) (w : World) (h1 : 3 ≤ l) (h2 : l ≤ 258) (h3 : 1 ≤ k) (h4 : k ≤ 32768) : Calls Tryz.prog 56 #[.agg #[.int .u8 0, .int .i64 l, .int .i64 k]] w fun e w' => e = .returned (.bool true) ∧ w' = w.alloc (tO (0, l, k)) := by
  go_enter Tryz.func56, Tryz.ntmps56
  go_wp2
  go_ret
  exact ⟨rfl, rfl⟩
set_option maxHeartbeats 1000000 in
theorem isRun_no (b l k : Int) (w : World) (h : ¬ (b = 0 ∧ 3 ≤ l ∧ l ≤ 258 ∧ 1 ≤ k ∧ k ≤ 32768)) : Calls Tryz.prog 56 #[.agg #[.int .u8 b, .int .i64 l, .int .i64 k]] w fun e w' => e = .returned (.bool false) ∧ w' = w.alloc (tO (b, l, k)) := by
  by_cases h0 : b = 0
  case neg =>
    clear h
    go_enter Tryz.func56, Tryz.ntmps56
    go_wp2
    go_ret
    exact ⟨rfl, rfl⟩
  subst h0
  by_cases h1 : 3 ≤ l
  case neg =>
    clear h
    go_enter Tryz.func56, Tryz.ntmps56
    go_wp2
    go_ret
    exact ⟨rfl, rfl⟩
  by_cases h2 : l ≤ 258
  case neg =>
    clear h
    go_enter Tryz.func56, Tryz.ntmps56
    go_wp2
    go_ret
    exact ⟨rfl, rfl⟩
  by_cases h3 : 1 ≤ k
  case neg =>
    clear h
    go_enter Tryz.func56, Tryz.ntmps56
    go_wp2
    go_ret
    exact ⟨rfl, rfl⟩
  have h4 : ¬ k ≤ 32768 := fun e => h ⟨rfl, h1, h2, h3, e⟩
  clear h
  go_enter Tryz.func56, Tryz.ntmps56
  go_wp2
  go_ret
  exact ⟨rfl, rfl⟩
end Go.Proofs.YtlakgbckopjelaaGreatDoor.M

/- Chains of places with the same slot: of no program. -/
namespace Go.Proofs.YtlakgbckopjelaaGreatDoor.M
set_option maxRecDepth 100000
open Go Go.RowKit

/-- Where the last place of a slot is kept, and the one ahead of a place: one more than it is, 0 for none. -/
structure Chain (sl : Nat → Nat) (n : Nat) (la be : Nat → Nat) : Prop where
  la_le : ∀ s, la s ≤ n
  la_sl : ∀ s, 0 < la s → sl (la s - 1) = s
  la_no : ∀ s i, la s ≤ i → i < n → sl i ≠ s
  be_le : ∀ j, j < n → n ≤ j + 32768 → be (j % 32768) ≤ j
  be_sl : ∀ j, j < n → n ≤ j + 32768 → 0 < be (j % 32768) → sl (be (j % 32768) - 1) = sl j
  be_no : ∀ j i, j < n → n ≤ j + 32768 → be (j % 32768) ≤ i → i < j → sl i ≠ sl j
theorem Chain.start (sl : Nat → Nat) : Chain sl 0 (fun _ => 0) (fun _ => 0) :=
  ⟨fun _ => Nat.le_refl _, fun _ h => by omega, fun _ i _ h => by omega, fun j h => by omega, fun j h => by omega, fun j i h => by omega⟩
def up (f : Nat → Nat) (i v : Nat) : Nat → Nat := fun j => if j = i then v else f j
theorem up_same (f : Nat → Nat) (i v : Nat) : up f i v i = v := if_pos rfl
theorem up_other (f : Nat → Nat) {i j : Nat} (v : Nat) (h : j ≠ i) : up f i v j = f j := if_neg h
theorem Chain.step {sl : Nat → Nat} {n : Nat} {la be : Nat → Nat} (h : Chain sl n la be) : Chain sl (n + 1) (up la (sl n) (n + 1)) (up be (n % 32768) (la (sl n))) := by
  have hne : ∀ j, j < n → n + 1 ≤ j + 32768 → j % 32768 ≠ n % 32768 := fun j h1 h2 e => by omega
  refine ⟨fun s => ?_, fun s h0 => ?_, fun s i h1 h2 => ?_, fun j h1 h2 => ?_, fun j h1 h2 h0 => ?_, fun j i h1 h2 h3 h4 => ?_⟩
  · by_cases e : s = sl n
    · subst e; rw [up_same]; exact Nat.le_refl _
    · rw [up_other _ _ e]; have := h.la_le s; omega
  · by_cases e : s = sl n
    · subst e; rw [up_same]; rfl
    · rw [up_other _ _ e] at h0 ⊢; exact h.la_sl s h0
  · by_cases e : s = sl n
    · subst e; rw [up_same] at h1; omega
    · rw [up_other _ _ e] at h1
      by_cases e2 : i = n
      · subst e2; exact fun e3 => e e3.symm
      · exact h.la_no s i h1 (by omega)
  · by_cases e : j = n
    · subst e; rw [up_same]; exact h.la_le _
    · rw [up_other _ _ (hne j (by omega) h2)]; exact h.be_le j (by omega) (by omega)
  · by_cases e : j = n
    · subst e; rw [up_same] at h0 ⊢; exact h.la_sl _ h0
    · rw [up_other _ _ (hne j (by omega) h2)] at h0 ⊢; exact h.be_sl j (by omega) (by omega) h0
  · by_cases e : j = n
    · subst e; rw [up_same] at h3; exact h.la_no _ i h3 h4
    · rw [up_other _ _ (hne j (by omega) h2)] at h3; exact h.be_no j i (by omega) (by omega) h3 h4

/-- Three bytes' slot. -/
def sH (x y z : Int) : Nat := (bits .or .u32 (bits .or .u32 x (y * 256)) (z * 65536) * 2654435761 % 4294967296 / 262144).toNat
theorem sH_eq (x y z : Int) : bits .or .u32 (bits .or .u32 x (y * 256)) (z * 65536) * 2654435761 % 4294967296 / 262144 = (sH x y z : Int) := by unfold sH; omega
def sl (zs : List Int) (i : Nat) : Nat := sH (ln zs i) (ln zs (i + 1)) (ln zs (i + 2))
theorem sl_lt (zs : List Int) (i : Nat) : sl zs i < 16384 := by unfold sl sH; omega
theorem sl_same {zs : List Int} {i j : Nat} (h : ∀ k, k < 3 → ln zs (i + k) = ln zs (j + k)) : sl zs i = sl zs j := by
  unfold sl
  have h0 := h 0 (by omega)
  have h1 := h 1 (by omega)
  have h2 := h 2 (by omega)
  rw [Nat.add_zero, Nat.add_zero] at h0
  rw [h0, h1, h2]

/-- A search for a place p, so far: A is one more than the next place to look at. -/
structure Srch (zs : List Int) (p most : Nat) (k A L B : Nat) : Prop where
  le : A + k ≤ p
  sl_ : 0 < A → sl zs (A - 1) = sl zs p
  is : (L = 2 ∧ B = 0) ∨ Run zs p L B
  lm : L ≤ most
  seen : ∀ j, A ≤ j → j < p → sl zs j = sl zs p → ∀ n, n ≤ most → (∀ x, x < n → ln zs (j + x) = ln zs (p + x)) → n ≤ L
theorem Srch.start {zs : List Int} {p most : Nat} {la be : Nat → Nat} (h : Chain (sl zs) p la be) (h3 : 3 ≤ most) : Srch zs p most 0 (la (sl zs p)) 2 0 :=
  ⟨h.la_le _, fun h0 => h.la_sl _ h0, .inl ⟨rfl, rfl⟩, by omega, fun j h1 h2 h3 => absurd h3 (h.la_no _ j h1 h2)⟩
/-- The search ends. -/
theorem Srch.done {zs : List Int} {p most k A L B : Nat} (h : Srch zs p most k A L B) (hm : most = min (zs.length - p) 258) (h3 : 3 ≤ most) (he : A = 0 ∨ 32768 < p - (A - 1) ∨ L = most ∨ 64 ≤ k) : RunOk zs p (if B = 0 then 0 else L) B := by
  have hB : (B = 0 ∧ L = 2) ∨ (0 < B ∧ Run zs p L B) := by
    rcases h.is with ⟨h1, h2⟩ | h1
    · exact .inl ⟨h2, h1⟩
    · exact .inr ⟨h1.b1, h1⟩
  refine ⟨?_, ?_⟩
  · rcases hB with ⟨rfl, _⟩ | ⟨h0, hr⟩
    · exact .inl ⟨if_pos rfl, rfl⟩
    · rw [if_neg (by omega)]; exact .inr hr
  · intro b n b1 b2 b3 hn1 hn2 hs
    have hnm : n ≤ most := by omega
    have key : n ≤ 2 ∨ n ≤ L := by
      by_cases hn3 : n ≤ 2
      · exact .inl hn3
      · right
        by_cases hLm : L = most
        · omega
        · refine h.seen (p - b) ?_ (by omega) (sl_same fun k hk => hs k (by omega)) n hnm hs
          have := h.le
          omega
    rcases hB with ⟨rfl, rfl⟩ | ⟨h0, hr⟩
    · left; omega
    · rw [if_neg (by omega)]; exact key
/-- A place is looked at, and then the one ahead of it. -/
theorem Srch.next {zs : List Int} {p most k A L B : Nat} {la be : Nat → Nat} (h : Srch zs p most k A L B) (hc : Chain (sl zs) p la be) (h0 : 0 < A) (hw : p - (A - 1) ≤ 32768) {L2 B2 : Nat} (hle : L ≤ L2) (hlm : L2 ≤ most)
    (his : (L2 = 2 ∧ B2 = 0) ∨ Run zs p L2 B2) (hcm : ∀ n, n ≤ most → (∀ x, x < n → ln zs (A - 1 + x) = ln zs (p + x)) → n ≤ L2) : Srch zs p most (k + 1) (be ((A - 1) % 32768)) L2 B2 := by
  have hl := h.le
  have h1 := hc.be_le (A - 1) (by omega) (by omega)
  refine ⟨by omega, fun h2 => ?_, his, hlm, fun j j1 j2 j3 n n1 n2 => ?_⟩
  · rw [hc.be_sl (A - 1) (by omega) (by omega) h2, h.sl_ h0]
  · by_cases e : A ≤ j
    · have := h.seen j e j2 j3 n n1 n2; omega
    · by_cases e2 : j = A - 1
      · subst e2; exact hcm n n1 n2
      · exact absurd (j3.trans (h.sl_ h0).symm) (hc.be_no (A - 1) j (by omega) (by omega) j1 (by omega))
/-- A longer run was found. -/
theorem Srch.found {zs : List Int} {p most k A L B n : Nat} (h : Srch zs p most k A L B) (h0 : 0 < A) (hw : p - (A - 1) ≤ 32768) (hm : most = min (zs.length - p) 258) (hp : p ≤ zs.length) (hn : n ≤ most) (hs : ∀ x, x < n → ln zs (A - 1 + x) = ln zs (p + x)) (hl : L < n) : Run zs p n (p - (A - 1)) := by
  have h1 := h.le
  have h2 : 2 ≤ L := by
    rcases h.is with h2 | h2
    · omega
    · have := h2.l3; omega
  exact ⟨by omega, by omega, by omega, by omega, by omega, by omega, fun k hk => by rw [show p - (p - (A - 1)) + k = A - 1 + k by omega]; exact hs k hk⟩
end Go.Proofs.YtlakgbckopjelaaGreatDoor.M

/- The finder in memory; a place's slot. -/
namespace Go.Proofs.YtlakgbckopjelaaGreatDoor.M
set_option maxRecDepth 100000
open Go Go.RowKit

/-- Bytes where a slice leads. -/
structure Bys (w : World) (a : Option Addr) (zs : List Int) : Prop where
  at_ : zs.length = 0 ∨ ∃ b off, b < w.heap.size ∧ a = some ⟨b, off, none⟩ ∧ ∀ i, i < zs.length → w.cell? ⟨b, off + i, none⟩ = some (.int .u8 (ln zs i))
  rng : ∀ i, 0 ≤ ln zs i ∧ ln zs i ≤ 255
theorem Bys.kept {M : Nat → Prop} {w w' : World} {a : Option Addr} {zs : List Int} (h : Bys w a zs) (k : Kept M w w') (hn : 0 < zs.length → ∀ b off, a = some ⟨b, off, none⟩ → ¬ M b) : Bys w' a zs := by
  refine ⟨?_, h.rng⟩
  rcases h.at_ with h | ⟨b, off, h1, rfl, hc⟩
  · exact .inl h
  · exact .inr ⟨b, off, Nat.lt_of_lt_of_le h1 k.size, rfl, fun i hi => (k.cell (p := ⟨b, _, none⟩) h1 (hn (by omega) b off rfl)).trans (hc i hi)⟩
theorem Bys.stay {w w' : World} {a : Option Addr} {zs : List Int} (h : Bys w a zs) (k : Below w.heap.size w w') : Bys w' a zs := by
  refine ⟨?_, h.rng⟩
  rcases h.at_ with h | ⟨b, off, h1, rfl, hc⟩
  · exact .inl h
  · exact .inr ⟨b, off, Nat.lt_of_lt_of_le h1 k.size, rfl, fun i hi => (k.cell (p := ⟨b, off + i, none⟩) h1).trans (hc i hi)⟩
theorem Bys.drewN {w : World} {a : Option Addr} {zs : List Int} (h : Bys w a zs) (n : Nat) : Bys (w.drewN n) a zs := ⟨h.at_, h.rng⟩

/-- The finder lies at bf, what is ahead of each place at bb; both from B on, the data ahead of B. -/
structure FinAt (B : Nat) (w : World) (bf bb : Nat) (a : Option Addr) (cap : Nat) (zs : List Int) (tr n : Nat) (la be : Nat → Nat) : Prop where
  fb : ∃ cs, w.heap[bf]? = some (.cells cs 129 (0, 0)) ∧ cs[0]? = some (.slice a zs.length cap) ∧ cs[1]? = some (.int .i64 (tr : Int)) ∧ cs[2]? = some (.int .i64 (n : Int)) ∧ (∀ s, s < 16384 → cs[3 + s]? = some (.int .i32 (la s : Int))) ∧ cs[16387]? = some (.slice (some ⟨bb, 0, none⟩) (min zs.length 32768) (min zs.length 32768))
  bk : ∃ ds, w.heap[bb]? = some (.cells ds 21 (0, 0)) ∧ ∀ x, x < min zs.length 32768 → ds[x]? = some (.int .i32 (be x : Int))
  tx : Bys w a zs
  hB : 0 < zs.length → ∀ b off, a = some ⟨b, off, none⟩ → b < B
  inb : B ≤ bf ∧ B ≤ bb
  cp : zs.length ≤ cap
section
variable {B : Nat} {w w' : World} {bf bb : Nat} {a : Option Addr} {cap : Nat} {zs : List Int} {tr n : Nat} {la be : Nat → Nat}
theorem FinAt.c0 (h : FinAt B w bf bb a cap zs tr n la be) : w.cell? ⟨bf, 0, none⟩ = some (.slice a zs.length cap) := by
  obtain ⟨cs, hb, h0, _⟩ := h.fb
  rw [cells_of hb]; exact h0
theorem FinAt.c1 (h : FinAt B w bf bb a cap zs tr n la be) : w.cell? ⟨bf, 1, none⟩ = some (.int .i64 (tr : Int)) := by
  obtain ⟨cs, hb, _, h0, _⟩ := h.fb
  rw [cells_of hb]; exact h0
theorem FinAt.c2 (h : FinAt B w bf bb a cap zs tr n la be) : w.cell? ⟨bf, 2, none⟩ = some (.int .i64 (n : Int)) := by
  obtain ⟨cs, hb, _, _, h0, _⟩ := h.fb
  rw [cells_of hb]; exact h0
theorem FinAt.c3 (h : FinAt B w bf bb a cap zs tr n la be) {s : Nat} (hs : s < 16384) : w.cell? ⟨bf, 3 + s, none⟩ = some (.int .i32 (la s : Int)) := by
  obtain ⟨cs, hb, _, _, _, h0, _⟩ := h.fb
  rw [cells_of hb]; exact h0 s hs
theorem FinAt.c4 (h : FinAt B w bf bb a cap zs tr n la be) : w.cell? ⟨bf, 16387, none⟩ = some (.slice (some ⟨bb, 0, none⟩) (min zs.length 32768) (min zs.length 32768)) := by
  obtain ⟨cs, hb, _, _, _, _, h0⟩ := h.fb
  rw [cells_of hb]; exact h0
theorem FinAt.ffree (h : FinAt B w bf bb a cap zs tr n la be) (i : Nat) : w.frozen? ⟨bf, i, none⟩ = false := by
  obtain ⟨cs, hb, _⟩ := h.fb
  exact free_of hb i
theorem FinAt.b0 (h : FinAt B w bf bb a cap zs tr n la be) {x : Nat} (hx : x < min zs.length 32768) : w.cell? ⟨bb, x, none⟩ = some (.int .i32 (be x : Int)) := by
  obtain ⟨ds, hb, h0⟩ := h.bk
  rw [cells_of hb]; exact h0 x hx
theorem FinAt.bfree (h : FinAt B w bf bb a cap zs tr n la be) (i : Nat) : w.frozen? ⟨bb, i, none⟩ = false := by
  obtain ⟨cs, hb, _⟩ := h.bk
  exact free_of hb i
theorem FinAt.ne (h : FinAt B w bf bb a cap zs tr n la be) : bf ≠ bb := fun e => by
  obtain ⟨cs, hb, _⟩ := h.fb
  obtain ⟨ds, hd, _⟩ := h.bk
  rw [e, hd] at hb
  simp at hb
theorem FinAt.flt (h : FinAt B w bf bb a cap zs tr n la be) : bf < w.heap.size := by
  obtain ⟨cs, hb, _⟩ := h.fb
  exact lt_of_block hb
theorem FinAt.blt (h : FinAt B w bf bb a cap zs tr n la be) : bb < w.heap.size := by
  obtain ⟨cs, hb, _⟩ := h.bk
  exact lt_of_block hb
theorem FinAt.kept {M : Nat → Prop} (h : FinAt B w bf bb a cap zs tr n la be) (k : Kept M w w') (h1 : ¬ M bf) (h2 : ¬ M bb) (h3 : ∀ b, b < B → ¬ M b) : FinAt B w' bf bb a cap zs tr n la be := by
  obtain ⟨cs, hb, hr⟩ := h.fb
  obtain ⟨ds, hd, hs⟩ := h.bk
  exact ⟨⟨cs, k.heap hb h1, hr⟩, ⟨ds, k.heap hd h2, hs⟩, h.tx.kept k (fun h0 b off e => h3 b (h.hB h0 b off e)), h.hB, h.inb, h.cp⟩
theorem FinAt.stay (h : FinAt B w bf bb a cap zs tr n la be) (k : Below w.heap.size w w') : FinAt B w' bf bb a cap zs tr n la be :=
  h.kept (Kept.of_below k) (by have := h.flt; omega) (by have := h.blt; omega) (fun b hb => by have := h.inb; have := h.flt; omega)
theorem FinAt.drewN (h : FinAt B w bf bb a cap zs tr n la be) (q : Nat) : FinAt B (w.drewN q) bf bb a cap zs tr n la be := ⟨h.fb, h.bk, ⟨h.tx.at_, h.tx.rng⟩, h.hB, h.inb, h.cp⟩
theorem FinAt.drew (h : FinAt B w bf bb a cap zs tr n la be) : FinAt B w.drew bf bb a cap zs tr n la be := ⟨h.fb, h.bk, ⟨h.tx.at_, h.tx.rng⟩, h.hB, h.inb, h.cp⟩
theorem FinAt.text (h : FinAt B w bf bb a cap zs tr n la be) (h0 : 0 < zs.length) : ∃ b off, a = some ⟨b, off, none⟩ ∧ b < w.heap.size ∧ ∀ i, i < zs.length → w.cell? ⟨b, off + i, none⟩ = some (.int .u8 (ln zs i)) := by
  rcases h.tx.at_ with h' | ⟨b, off, h1, h2, h3⟩
  · omega
  · exact ⟨b, off, h2, h1, h3⟩

set_option maxHeartbeats 1000000 in
theorem slot_c (h : FinAt B w bf bb a cap zs tr n la be) (p : Nat) (hp : p + 3 ≤ zs.length) (hl : zs.length ≤ 1000000000) (hcap : cap ≤ 9223372036854775807) :
    Calls Tryz.prog 99 #[.pointer (some ⟨bf, 0, none⟩), .int .i64 (p : Int)] w fun e w' => e = .returned (.int .i64 (sl zs p : Int)) ∧ ∃ q, w' = w.drewN q := by
  obtain ⟨b, off, rfl, hbl, hc⟩ := h.text (by omega)
  have c0 := h.c0
  have d0 := hc p (by omega)
  have d1 := hc (p + 1) (by omega)
  have d2 := hc (p + 2) (by omega)
  rw [show off + (p + 1) = off + p + 1 by omega] at d1
  rw [show off + (p + 2) = off + p + 2 by omega] at d2
  have hcp := h.cp
  obtain ⟨⟨x0, x1⟩, ⟨y0, y1⟩, ⟨z0, z1⟩⟩ := And.intro (h.tx.rng p) (And.intro (h.tx.rng (p + 1)) (h.tx.rng (p + 2)))
  have HSL : Hid (sl zs p = sH (ln zs p) (ln zs (p + 1)) (ln zs (p + 2))) := rfl
  clear hc h
  generalize ln zs p = x at *
  generalize ln zs (p + 1) = y at *
  generalize ln zs (p + 2) = z at *
  generalize sl zs p = s at *
  have k1 : (p : Int) + 3 ≤ (cap : Int) := by omega
  go_enter Tryz.func99, Tryz.ntmps99
  go_upto_region 2 with fail
  have e3 : p + 3 - p = 3 := by omega
  rw [e3]
  clear e3
  go_quiet (fail)
  go_wp2_with fail
  rw [sH_eq, ← HSL.out]
  go_ret
  exact ⟨rfl, nq, rfl⟩
end
end Go.Proofs.YtlakgbckopjelaaGreatDoor.M
