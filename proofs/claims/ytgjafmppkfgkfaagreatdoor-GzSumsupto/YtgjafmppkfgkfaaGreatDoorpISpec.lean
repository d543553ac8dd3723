/- What Inflate is, as plain functions of bits: no Go text in sight. Each answers an error, or the place behind what was read and what it is. -/
import Derived.Test.YtgjafmppkfgkfaaGreatDoorpAg04HRef3
namespace Go.Proofs.YtgjafmppkfgkfaaGreatDoor
set_option maxRecDepth 100000

/-- One behind the other. -/
def iThen {α γ : Type} (m : Except Int (Nat × α)) (f : Nat → α → Except Int (Nat × γ)) : Except Int (Nat × γ) :=
  match m with
  | .error e => .error e
  | .ok x => f x.1 x.2
/-- Again and again, while a step says so. -/
def iLoop {σ : Type} (T : Nat) (f : Nat → σ → Except Int (Nat × (Bool × σ))) (p : Nat) (s : σ) : Except Int (Nat × σ) :=
  match f p s with
  | .error e => .error e
  | .ok x => if x.2.1 = true then (if _h : p < x.1 ∧ x.1 ≤ T then iLoop T f x.1 x.2.2 else .error 0) else .ok (x.1, x.2.2)
termination_by T - p
decreasing_by omega

/-- n bits from p on as a number, the first one the least. -/
def iNum (b : Nat → Nat) (p : Nat) : Nat → Nat
  | 0 => 0
  | n + 1 => iNum b p n + b (p + n) * 2 ^ n
def iTk (b : Nat → Nat) (T p n : Nat) : Except Int (Nat × Nat) := if T < p + n then .error 60 else .ok (p + n, iNum b p n)

open Classical in
/-- The longest code. -/
noncomputable def iN (ls : List Int) : Nat := if h : ∃ N, Longest ls N then h.choose else 0
/-- At p the code of s stands, of n bits. -/
def iHas (ls : List Int) (b : Nat → Nat) (T p : Nat) (x : Nat × Nat) : Prop := x.2 ≤ T - p ∧ x.1 < ls.length ∧ 1 ≤ x.2 ∧ ln ls x.1 = (x.2 : Int) ∧ cd ls x.1 = vl (fun i => b (p + i)) x.2
open Classical in
/-- The next symbol. -/
noncomputable def iNx (ls : List Int) (b : Nat → Nat) (T p : Nat) : Except Int (Nat × Nat) :=
  if h : ∃ x : Nat × Nat, iHas ls b T p x then .ok (p + h.choose.2, h.choose.1) else if T - p < iN ls then .error 60 else .error 63

/-- A run's symbol: how many bits more, and its least length; likewise a distance's. -/
def iLx (v : Nat) : Nat := if v < 265 then 0 else if v = 285 then 0 else (v - 261) / 4
def iLb (v : Nat) : Nat := if v = 285 then 258 else 3 + ((List.range (v - 257)).map fun u => 2 ^ iLx (257 + u)).sum
def iDx (w : Nat) : Nat := if w < 4 then 0 else w / 2 - 1
def iDb (w : Nat) : Nat := 1 + ((List.range w).map fun u => 2 ^ iDx u).sum
/-- A run of n bytes from d ahead. -/
def iCpy (out : List Int) (d : Nat) : Nat → List Int
  | 0 => out
  | n + 1 => iCpy (out ++ [ln out (out.length - d)]) d n

/-- One symbol of the data, with what belongs to it. -/
noncomputable def iOne (S D : List Int) (b : Nat → Nat) (T most p : Nat) (out : List Int) : Except Int (Nat × (Bool × List Int)) :=
  iThen (iNx S b T p) fun q v =>
  if v < 256 then (if most ≤ out.length then .error 65 else .ok (q, (true, out ++ [(v : Int)])))
  else if v = 256 then .ok (q, (false, out))
  else if 285 < v then .error 63
  else iThen (iTk b T q (iLx v)) fun q more => iThen (iNx D b T q) fun q w =>
    if 29 < w then .error 63 else iThen (iTk b T q (iDx w)) fun q away =>
    if out.length < iDb w + away then .error 64 else if most < out.length + (iLb v + more) then .error 65
    else .ok (q, (true, iCpy out (iDb w + away) (iLb v + more)))
noncomputable def iDat (S D : List Int) (b : Nat → Nat) (T most p : Nat) (out : List Int) : Except Int (Nat × List Int) := iLoop T (iOne S D b T most) p out

def iBytes (b : Nat → Nat) (p n : Nat) : List Int := (List.range n).map fun i => (iNum b (p + 8 * i) 8 : Int)
/-- A stored block. -/
def iSto (b : Nat → Nat) (T most p : Nat) (out : List Int) : Except Int (Nat × List Int) :=
  iThen (iTk b T ((p + 7) / 8 * 8) 16) fun q n => iThen (iTk b T q 16) fun q m =>
  if ¬ n + m = 65535 then .error 62 else if most < out.length + n then .error 65 else if T < q + 8 * n then .error 60
  else .ok (q + 8 * n, out ++ iBytes b q n)

def iOrd : List Nat := [16, 17, 18, 0, 8, 7, 9, 6, 10, 5, 11, 4, 12, 3, 13, 2, 14, 1, 15]
/-- n lengths of three bits, from the i-th of the order on. -/
def iRd3 (b : Nat → Nat) (T : Nat) : Nat → Nat → Nat → List Int → Except Int (Nat × List Int)
  | 0, p, _, first => .ok (p, first)
  | n + 1, p, i, first => iThen (iTk b T p 3) fun q v => iRd3 b T n q (i + 1) (first.set (iOrd.getD i 0) (v : Int))
/-- One number of those that tell lengths. -/
noncomputable def iLen (first : List Int) (many : Nat) (b : Nat → Nat) (T p : Nat) (all : List Int) : Except Int (Nat × (Bool × List Int)) :=
  iThen (iNx first b T p) fun q v =>
  if v < 16 then .ok (q, (decide (all.length + 1 < many), all ++ [(v : Int)]))
  else if v = 16 ∧ all.length = 0 then .error 63
  else iThen (iTk b T q (if v = 16 then 2 else if v = 17 then 3 else 7)) fun q x =>
    if many < all.length + (x + if v = 18 then 11 else 3) then .error 63
    else .ok (q, (decide (all.length + (x + if v = 18 then 11 else 3) < many), all ++ List.replicate (x + if v = 18 then 11 else 3) (if v = 16 then ln all (all.length - 1) else 0)))
/-- What a dynamic block says of its codes. -/
noncomputable def iHdr (b : Nat → Nat) (T p : Nat) : Except Int (Nat × (List Int × List Int)) :=
  iThen (iTk b T p 5) fun q x => iThen (iTk b T q 5) fun q y => iThen (iTk b T q 4) fun q z =>
  if 286 < x + 257 ∨ 30 < y + 1 then .error 63 else iThen (iRd3 b T (z + 4) q 0 (List.replicate 19 0)) fun q first =>
  if ¬ check first false = 0 then .error 63 else iThen (iLoop T (iLen first (x + 258 + y) b T) q []) fun q all =>
  if ln all 256 = 0 ∨ ¬ check (all.take (x + 257)) true = 0 ∨ ¬ check (all.drop (x + 257)) true = 0 then .error 63
  else .ok (q, (all.take (x + 257), all.drop (x + 257)))

def iFix : List Int := List.replicate 144 8 ++ List.replicate 112 9 ++ List.replicate 24 7 ++ List.replicate 8 8
def iFive : List Int := List.replicate 32 5
/-- What a block's kind asks for. -/
noncomputable def iKind (b : Nat → Nat) (T most kind p : Nat) (out : List Int) : Except Int (Nat × List Int) :=
  if kind = 0 then iSto b T most p out else if kind = 1 then iDat iFix iFive b T most p out
  else if kind = 2 then iThen (iHdr b T p) (fun q sd => iDat sd.1 sd.2 b T most q out) else .error 61
/-- A block. -/
noncomputable def iBlk (b : Nat → Nat) (T most p : Nat) (out : List Int) : Except Int (Nat × (Bool × List Int)) :=
  iThen (iTk b T p 1) fun q l => iThen (iTk b T q 2) fun q kind => iThen (iKind b T most kind q out) fun q o => .ok (q, (decide (l = 0), o))
/-- The whole. -/
noncomputable def iInf (b : Nat → Nat) (T most : Nat) : Except Int (Nat × List Int) := iLoop T (iBlk b T most) 0 []

/-! What the small ones say. -/
theorem iThen_ok {α γ : Type} {m : Except Int (Nat × α)} {f : Nat → α → Except Int (Nat × γ)} {q : Nat} {c : γ} (h : iThen m f = .ok (q, c)) : ∃ p a, m = .ok (p, a) ∧ f p a = .ok (q, c) := by
  unfold iThen at h
  split at h
  · cases h
  · exact ⟨_, _, rfl, h⟩
theorem iThen_err {α γ : Type} {m : Except Int (Nat × α)} {f : Nat → α → Except Int (Nat × γ)} {e : Int} (h : iThen m f = .error e) : m = .error e ∨ ∃ p a, m = .ok (p, a) ∧ f p a = .error e := by
  unfold iThen at h
  split at h
  · cases h; exact .inl rfl
  · exact .inr ⟨_, _, rfl, h⟩
theorem iThen_of_ok {α γ : Type} {m : Except Int (Nat × α)} {f : Nat → α → Except Int (Nat × γ)} {p : Nat} {a : α} (h : m = .ok (p, a)) : iThen m f = f p a := by rw [h]; rfl
theorem iThen_of_err {α γ : Type} {m : Except Int (Nat × α)} {f : Nat → α → Except Int (Nat × γ)} {e : Int} (h : m = .error e) : iThen m f = .error e := by rw [h]; rfl

theorem iTk_ok {b : Nat → Nat} {T p n : Nat} (h : p + n ≤ T) : iTk b T p n = .ok (p + n, iNum b p n) := if_neg (by omega)
theorem iTk_err {b : Nat → Nat} {T p n : Nat} (h : T < p + n) : iTk b T p n = .error 60 := if_pos h
theorem iTk_got {b : Nat → Nat} {T p n q v : Nat} (h : iTk b T p n = .ok (q, v)) : q = p + n ∧ p + n ≤ T ∧ v = iNum b p n := by
  by_cases hl : T < p + n
  · rw [iTk_err hl] at h; cases h
  · rw [iTk_ok (by omega)] at h
    cases h
    exact ⟨rfl, by omega, rfl⟩
theorem iNum_lt {b : Nat → Nat} (hb : ∀ i, b i ≤ 1) (p n : Nat) : iNum b p n < 2 ^ n := by
  induction n with
  | zero => simp [iNum]
  | succ n ih =>
    rw [iNum, Nat.pow_succ]
    have := Nat.mul_le_mul_right (2 ^ n) (hb (p + n))
    omega
theorem iNum_congr {b c : Nat → Nat} {p k n : Nat} (h : ∀ i, i < n → c (p + k + i) = b (p + i)) : iNum c (p + k) n = iNum b p n := by
  induction n with
  | zero => rfl
  | succ n ih => rw [iNum, iNum, ih (fun i hi => h i (by omega)), h n (by omega)]

theorem longest_one {ls : List Int} {N M : Nat} (h : Longest ls N) (k : Longest ls M) : N = M := by
  rcases h.at_ with h0 | ⟨s, hs, e⟩ <;> rcases k.at_ with k0 | ⟨t, ht, f⟩
  · omega
  · have := h.up t ht; omega
  · have := k.up s hs; omega
  · have := k.up s hs; have := h.up t ht; omega
theorem longest_ex {ls : List Int} (h : Fit ls) : ∃ N, Longest ls N := by
  have key : ∀ k, k ≤ ls.length → ∃ N : Nat, N ≤ 15 ∧ (∀ s, s < k → ln ls s ≤ (N : Int)) ∧ (N = 0 ∨ ∃ s, s < k ∧ ln ls s = (N : Int)) := by
    intro k hk
    induction k with
    | zero => exact ⟨0, by omega, fun s hs => absurd hs (by omega), .inl rfl⟩
    | succ k ih =>
      obtain ⟨N, h1, h2, h3⟩ := ih (by omega)
      have hf := ln_fit h k
      by_cases hl : ln ls k ≤ (N : Int)
      · refine ⟨N, h1, fun s hs => ?_, ?_⟩
        · by_cases e : s = k
          · subst e; exact hl
          · exact h2 s (by omega)
        · rcases h3 with h3 | ⟨s, h3, h4⟩
          · exact .inl h3
          · exact .inr ⟨s, by omega, h4⟩
      · refine ⟨(ln ls k).toNat, by omega, fun s hs => ?_, .inr ⟨k, by omega, by omega⟩⟩
        by_cases e : s = k
        · subst e; omega
        · have := h2 s (by omega); omega
  obtain ⟨N, h1, h2, h3⟩ := key ls.length (Nat.le_refl _)
  exact ⟨N, h1, h2, h3⟩
theorem iN_eq {ls : List Int} {N : Nat} (h : Longest ls N) : iN ls = N := by
  unfold iN
  have hx : ∃ N, Longest ls N := ⟨N, h⟩
  rw [dif_pos hx]
  exact longest_one hx.choose_spec h

theorem iHas_one {ls : List Int} {b : Nat → Nat} (hb : ∀ i, b i ≤ 1) {T p : Nat} {x y : Nat × Nat} (h : iHas ls b T p x) (k : iHas ls b T p y) : x = y := by
  obtain ⟨h1, h2, h3, h4, h5⟩ := h
  obtain ⟨k1, k2, k3, k4, k5⟩ := k
  have := NextIs.one (ls := ls) (b := fun i => b (p + i)) (fun i => hb _) (av := T - p) (N := 0) (.inl ⟨rfl, h1, h2, h3, h4, h5⟩) (.inl ⟨rfl, k1, k2, k3, k4, k5⟩)
  exact Prod.ext this.1 this.2.1
theorem iHas_hit {ls : List Int} {b : Nat → Nat} {T p : Nat} {x : Nat × Nat} (h : iHas ls b T p x) : Hit ls (fun i => b (p + i)) x.2 := by
  obtain ⟨h1, h2, h3, h4, h5⟩ := h
  have := sym_hit h2 (b := fun i => b (p + i)) (by omega) (by rw [h4, Int.toNat_natCast]; exact h5)
  rw [h4, Int.toNat_natCast] at this
  exact this
theorem iNx_ok {ls : List Int} {b : Nat → Nat} (hb : ∀ i, b i ≤ 1) {T p s n : Nat} (h : iHas ls b T p (s, n)) : iNx ls b T p = .ok (p + n, s) := by
  have hx : ∃ x : Nat × Nat, iHas ls b T p x := ⟨_, h⟩
  have e := iHas_one hb hx.choose_spec h
  unfold iNx
  rw [dif_pos hx, e]
theorem iNx_no {ls : List Int} {b : Nat → Nat} {T p : Nat} (h : ¬ ∃ x : Nat × Nat, iHas ls b T p x) : iNx ls b T p = if T - p < iN ls then .error 60 else .error 63 := by
  unfold iNx
  rw [dif_neg h]
theorem iNx_got {ls : List Int} {b : Nat → Nat} {T p q s : Nat} (h : iNx ls b T p = .ok (q, s)) : ∃ n, q = p + n ∧ iHas ls b T p (s, n) := by
  unfold iNx at h
  split at h
  · rename_i hx
    cases h
    exact ⟨_, rfl, hx.choose_spec⟩
  · split at h <;> cases h
theorem iNx_failed {ls : List Int} {b : Nat → Nat} {T p : Nat} {e : Int} (h : iNx ls b T p = .error e) : (¬ ∃ x : Nat × Nat, iHas ls b T p x) ∧ ((T - p < iN ls ∧ e = 60) ∨ (iN ls ≤ T - p ∧ e = 63)) := by
  unfold iNx at h
  split at h
  · cases h
  · rename_i hx
    refine ⟨hx, ?_⟩
    split at h
    · cases h; exact .inl ⟨by assumption, rfl⟩
    · cases h; exact .inr ⟨by omega, rfl⟩
/-- From the contract of Next. -/
theorem iNx_of {ls : List Int} {b : Nat → Nat} (hb : ∀ i, b i ≤ 1) {T p N s n : Nat} {err : Int} (hN : Longest ls N) (h : NextIs ls (fun i => b (p + i)) (T - p) N s n err) :
    (err = 0 ∧ iHas ls b T p (s, n) ∧ iNx ls b T p = .ok (p + n, s)) ∨ (err = 42 ∧ iNx ls b T p = .error 60) ∨ (err = 43 ∧ iNx ls b T p = .error 63) := by
  rcases h with ⟨h0, h1, h2, h3, h4, h5⟩ | ⟨_, _, h3, h4⟩
  · have hh : iHas ls b T p (s, n) := ⟨h1, h2, h3, h4, h5⟩
    exact .inl ⟨h0, hh, iNx_ok hb hh⟩
  · have hno : ¬ ∃ x : Nat × Nat, iHas ls b T p x := fun ⟨x, hx⟩ => h3 x.2 hx.1 (iHas_hit hx)
    have e := iNx_no hno
    rw [iN_eq hN] at e
    rcases h4 with ⟨h4, h5⟩ | ⟨h4, h5⟩
    · exact .inr (.inl ⟨h5, by rw [e, if_pos h4]⟩)
    · exact .inr (.inr ⟨h5, by rw [e, if_neg (by omega)]⟩)
end Go.Proofs.YtgjafmppkfgkfaaGreatDoor
