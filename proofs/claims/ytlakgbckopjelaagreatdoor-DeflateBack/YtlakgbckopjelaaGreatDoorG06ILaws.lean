/- Several texts, laid together: ISpec, ISim, IFar, ILaws. -/
import Derived.Test.YtlakgbckopjelaaGreatDoorG03HRef1
import Derived.Test.YtlakgbckopjelaaGreatDoorG04HNext
/- What Inflate is, as plain functions of bits: no Go text in sight. Each answers an error, or the place behind what was read and what it is. -/
namespace Go.Proofs.YtlakgbckopjelaaGreatDoor
set_option maxRecDepth 100000

/-- One behind the other. -/
def iThen {α γ : Type} (m : Except Int (Nat × α)) (f : Nat → α → Except Int (Nat × γ)) : Except Int (Nat × γ) :=
  match m with
  | .error e => .error e
  | .ok x => f x.1 x.2
/-- Again and again, while a step says so. -/
def iLoop {σ : Type} (T : Nat) (f : Nat → σ → Except Int (Nat × (Bool × σ))) (p : Nat) (s : σ) : Except Int (Nat × σ) :=
  match f p s with
  | .error e => .error e
  | .ok x => if x.2.1 = true then (if _h : p < x.1 ∧ x.1 ≤ T then iLoop T f x.1 x.2.2 else .error 0) else .ok (x.1, x.2.2)
termination_by T - p
decreasing_by omega

/-- n bits from p on as a number, the first one the least. -/
def iNum (b : Nat → Nat) (p : Nat) : Nat → Nat
  | 0 => 0
  | n + 1 => iNum b p n + b (p + n) * 2 ^ n
def iTk (b : Nat → Nat) (T p n : Nat) : Except Int (Nat × Nat) := if T < p + n then .error 60 else .ok (p + n, iNum b p n)

open Classical in
/-- The longest code. -/
noncomputable def iN (ls : List Int) : Nat := if h : ∃ N, Longest ls N then h.choose else 0
/-- At p the code of s stands, of n bits. -/
def iHas (ls : List Int) (b : Nat → Nat) (T p : Nat) (x : Nat × Nat) : Prop := x.2 ≤ T - p ∧ x.1 < ls.length ∧ 1 ≤ x.2 ∧ ln ls x.1 = (x.2 : Int) ∧ cd ls x.1 = vl (fun i => b (p + i)) x.2
open Classical in
/-- The next symbol. -/
noncomputable def iNx (ls : List Int) (b : Nat → Nat) (T p : Nat) : Except Int (Nat × Nat) :=
  if h : ∃ x : Nat × Nat, iHas ls b T p x then .ok (p + h.choose.2, h.choose.1) else if T - p < iN ls then .error 60 else .error 63

/-- A run's symbol: how many bits more, and its least length; likewise a distance's. -/
def iLx (v : Nat) : Nat := if v < 265 then 0 else if v = 285 then 0 else (v - 261) / 4
def iLb (v : Nat) : Nat := if v = 285 then 258 else 3 + ((List.range (v - 257)).map fun u => 2 ^ iLx (257 + u)).sum
def iDx (w : Nat) : Nat := if w < 4 then 0 else w / 2 - 1
def iDb (w : Nat) : Nat := 1 + ((List.range w).map fun u => 2 ^ iDx u).sum
/-- A run of n bytes from d ahead. -/
def iCpy (out : List Int) (d : Nat) : Nat → List Int
  | 0 => out
  | n + 1 => iCpy (out ++ [ln out (out.length - d)]) d n

/-- One symbol of the data, with what belongs to it. -/
noncomputable def iOne (S D : List Int) (b : Nat → Nat) (T most p : Nat) (out : List Int) : Except Int (Nat × (Bool × List Int)) :=
  iThen (iNx S b T p) fun q v =>
  if v < 256 then (if most ≤ out.length then .error 65 else .ok (q, (true, out ++ [(v : Int)])))
  else if v = 256 then .ok (q, (false, out))
  else if 285 < v then .error 63
  else iThen (iTk b T q (iLx v)) fun q more => iThen (iNx D b T q) fun q w =>
    if 29 < w then .error 63 else iThen (iTk b T q (iDx w)) fun q away =>
    if out.length < iDb w + away then .error 64 else if most < out.length + (iLb v + more) then .error 65
    else .ok (q, (true, iCpy out (iDb w + away) (iLb v + more)))
noncomputable def iDat (S D : List Int) (b : Nat → Nat) (T most p : Nat) (out : List Int) : Except Int (Nat × List Int) := iLoop T (iOne S D b T most) p out

def iBytes (b : Nat → Nat) (p n : Nat) : List Int := (List.range n).map fun i => (iNum b (p + 8 * i) 8 : Int)
/-- A stored block. -/
def iSto (b : Nat → Nat) (T most p : Nat) (out : List Int) : Except Int (Nat × List Int) :=
  iThen (iTk b T ((p + 7) / 8 * 8) 16) fun q n => iThen (iTk b T q 16) fun q m =>
  if ¬ n + m = 65535 then .error 62 else if most < out.length + n then .error 65 else if T < q + 8 * n then .error 60
  else .ok (q + 8 * n, out ++ iBytes b q n)

def iOrd : List Nat := [16, 17, 18, 0, 8, 7, 9, 6, 10, 5, 11, 4, 12, 3, 13, 2, 14, 1, 15]
/-- n lengths of three bits, from the i-th of the order on. -/
def iRd3 (b : Nat → Nat) (T : Nat) : Nat → Nat → Nat → List Int → Except Int (Nat × List Int)
  | 0, p, _, first => .ok (p, first)
  | n + 1, p, i, first => iThen (iTk b T p 3) fun q v => iRd3 b T n q (i + 1) (first.set (iOrd.getD i 0) (v : Int))
/-- One number of those that tell lengths. -/
noncomputable def iLen (first : List Int) (many : Nat) (b : Nat → Nat) (T p : Nat) (all : List Int) : Except Int (Nat × (Bool × List Int)) :=
  iThen (iNx first b T p) fun q v =>
  if v < 16 then .ok (q, (decide (all.length + 1 < many), all ++ [(v : Int)]))
  else if v = 16 ∧ all.length = 0 then .error 63
  else iThen (iTk b T q (if v = 16 then 2 else if v = 17 then 3 else 7)) fun q x =>
    if many < all.length + (x + if v = 18 then 11 else 3) then .error 63
    else .ok (q, (decide (all.length + (x + if v = 18 then 11 else 3) < many), all ++ List.replicate (x + if v = 18 then 11 else 3) (if v = 16 then ln all (all.length - 1) else 0)))
/-- What a dynamic block says of its codes. -/
noncomputable def iHdr (b : Nat → Nat) (T p : Nat) : Except Int (Nat × (List Int × List Int)) :=
  iThen (iTk b T p 5) fun q x => iThen (iTk b T q 5) fun q y => iThen (iTk b T q 4) fun q z =>
  if 286 < x + 257 ∨ 30 < y + 1 then .error 63 else iThen (iRd3 b T (z + 4) q 0 (List.replicate 19 0)) fun q first =>
  if ¬ check first false = 0 then .error 63 else iThen (iLoop T (iLen first (x + 258 + y) b T) q []) fun q all =>
  if ln all 256 = 0 ∨ ¬ check (all.take (x + 257)) true = 0 ∨ ¬ check (all.drop (x + 257)) true = 0 then .error 63
  else .ok (q, (all.take (x + 257), all.drop (x + 257)))

def iFix : List Int := List.replicate 144 8 ++ List.replicate 112 9 ++ List.replicate 24 7 ++ List.replicate 8 8
def iFive : List Int := List.replicate 32 5
/-- What a block's kind asks for. -/
noncomputable def iKind (b : Nat → Nat) (T most kind p : Nat) (out : List Int) : Except Int (Nat × List Int) :=
  if kind = 0 then iSto b T most p out else if kind = 1 then iDat iFix iFive b T most p out
  else if kind = 2 then iThen (iHdr b T p) (fun q sd => iDat sd.1 sd.2 b T most q out) else .error 61
/-- A block. -/
noncomputable def iBlk (b : Nat → Nat) (T most p : Nat) (out : List Int) : Except Int (Nat × (Bool × List Int)) :=
  iThen (iTk b T p 1) fun q l => iThen (iTk b T q 2) fun q kind => iThen (iKind b T most kind q out) fun q o => .ok (q, (decide (l = 0), o))
/-- The whole. -/
noncomputable def iInf (b : Nat → Nat) (T most : Nat) : Except Int (Nat × List Int) := iLoop T (iBlk b T most) 0 []

/-! What the small ones say. -/
theorem iThen_ok {α γ : Type} {m : Except Int (Nat × α)} {f : Nat → α → Except Int (Nat × γ)} {q : Nat} {c : γ} (h : iThen m f = .ok (q, c)) : ∃ p a, m = .ok (p, a) ∧ f p a = .ok (q, c) := by
  unfold iThen at h
  split at h
  · cases h
  · exact ⟨_, _, rfl, h⟩
theorem iThen_err {α γ : Type} {m : Except Int (Nat × α)} {f : Nat → α → Except Int (Nat × γ)} {e : Int} (h : iThen m f = .error e) : m = .error e ∨ ∃ p a, m = .ok (p, a) ∧ f p a = .error e := by
  unfold iThen at h
  split at h
  · cases h; exact .inl rfl
  · exact .inr ⟨_, _, rfl, h⟩
theorem iThen_of_ok {α γ : Type} {m : Except Int (Nat × α)} {f : Nat → α → Except Int (Nat × γ)} {p : Nat} {a : α} (h : m = .ok (p, a)) : iThen m f = f p a := by rw [h]; rfl
theorem iThen_of_err {α γ : Type} {m : Except Int (Nat × α)} {f : Nat → α → Except Int (Nat × γ)} {e : Int} (h : m = .error e) : iThen m f = .error e := by rw [h]; rfl

theorem iTk_ok {b : Nat → Nat} {T p n : Nat} (h : p + n ≤ T) : iTk b T p n = .ok (p + n, iNum b p n) := if_neg (by omega)
theorem iTk_err {b : Nat → Nat} {T p n : Nat} (h : T < p + n) : iTk b T p n = .error 60 := if_pos h
theorem iTk_got {b : Nat → Nat} {T p n q v : Nat} (h : iTk b T p n = .ok (q, v)) : q = p + n ∧ p + n ≤ T ∧ v = iNum b p n := by
  by_cases hl : T < p + n
  · rw [iTk_err hl] at h; cases h
  · rw [iTk_ok (by omega)] at h
    cases h
    exact ⟨rfl, by omega, rfl⟩
theorem iNum_lt {b : Nat → Nat} (hb : ∀ i, b i ≤ 1) (p n : Nat) : iNum b p n < 2 ^ n := by
  induction n with
  | zero => simp [iNum]
  | succ n ih =>
    rw [iNum, Nat.pow_succ]
    have := Nat.mul_le_mul_right (2 ^ n) (hb (p + n))
    omega
theorem iNum_congr {b c : Nat → Nat} {p k n : Nat} (h : ∀ i, i < n → c (p + k + i) = b (p + i)) : iNum c (p + k) n = iNum b p n := by
  induction n with
  | zero => rfl
  | succ n ih => rw [iNum, iNum, ih (fun i hi => h i (by omega)), h n (by omega)]

theorem longest_one {ls : List Int} {N M : Nat} (h : Longest ls N) (k : Longest ls M) : N = M := by
  rcases h.at_ with h0 | ⟨s, hs, e⟩ <;> rcases k.at_ with k0 | ⟨t, ht, f⟩
  · omega
  · have := h.up t ht; omega
  · have := k.up s hs; omega
  · have := k.up s hs; have := h.up t ht; omega
theorem longest_ex {ls : List Int} (h : Fit ls) : ∃ N, Longest ls N := by
  have key : ∀ k, k ≤ ls.length → ∃ N : Nat, N ≤ 15 ∧ (∀ s, s < k → ln ls s ≤ (N : Int)) ∧ (N = 0 ∨ ∃ s, s < k ∧ ln ls s = (N : Int)) := by
    intro k hk
    induction k with
    | zero => exact ⟨0, by omega, fun s hs => absurd hs (by omega), .inl rfl⟩
    | succ k ih =>
      obtain ⟨N, h1, h2, h3⟩ := ih (by omega)
      have hf := ln_fit h k
      by_cases hl : ln ls k ≤ (N : Int)
      · refine ⟨N, h1, fun s hs => ?_, ?_⟩
        · by_cases e : s = k
          · subst e; exact hl
          · exact h2 s (by omega)
        · rcases h3 with h3 | ⟨s, h3, h4⟩
          · exact .inl h3
          · exact .inr ⟨s, by omega, h4⟩
      · refine ⟨(ln ls k).toNat, by omega, fun s hs => ?_, .inr ⟨k, by omega, by omega⟩⟩
        by_cases e : s = k
        · subst e; omega
        · have := h2 s (by omega); omega
  obtain ⟨N, h1, h2, h3⟩ := key ls.length (Nat.le_refl _)
  exact ⟨N, h1, h2, h3⟩
theorem iN_eq {ls : List Int} {N : Nat} (h : Longest ls N) : iN ls = N := by
  unfold iN
  have hx : ∃ N, Longest ls N := ⟨N, h⟩
  rw [dif_pos hx]
  exact longest_one hx.choose_spec h

theorem iHas_one {ls : List Int} {b : Nat → Nat} (hb : ∀ i, b i ≤ 1) {T p : Nat} {x y : Nat × Nat} (h : iHas ls b T p x) (k : iHas ls b T p y) : x = y := by
  obtain ⟨h1, h2, h3, h4, h5⟩ := h
  obtain ⟨k1, k2, k3, k4, k5⟩ := k
  have := NextIs.one (ls := ls) (b := fun i => b (p + i)) (fun i => hb _) (av := T - p) (N := 0) (.inl ⟨rfl, h1, h2, h3, h4, h5⟩) (.inl ⟨rfl, k1, k2, k3, k4, k5⟩)
  exact Prod.ext this.1 this.2.1
theorem iHas_hit {ls : List Int} {b : Nat → Nat} {T p : Nat} {x : Nat × Nat} (h : iHas ls b T p x) : Hit ls (fun i => b (p + i)) x.2 := by
  obtain ⟨h1, h2, h3, h4, h5⟩ := h
  have := sym_hit h2 (b := fun i => b (p + i)) (by omega) (by rw [h4, Int.toNat_natCast]; exact h5)
  rw [h4, Int.toNat_natCast] at this
  exact this
theorem hit_has {ls : List Int} {b : Nat → Nat} {T p n : Nat} (hn : n ≤ T - p) (h : Hit ls (fun i => b (p + i)) n) : ∃ x, iHas ls b T p x := by
  obtain ⟨s, h1, h2, h3⟩ := hit_sym h
  exact ⟨(s, n), hn, h1, hit_pos h, h2, h3⟩

theorem iNx_ok {ls : List Int} {b : Nat → Nat} (hb : ∀ i, b i ≤ 1) {T p s n : Nat} (h : iHas ls b T p (s, n)) : iNx ls b T p = .ok (p + n, s) := by
  have hx : ∃ x : Nat × Nat, iHas ls b T p x := ⟨_, h⟩
  have e := iHas_one hb hx.choose_spec h
  unfold iNx
  rw [dif_pos hx, e]
theorem iNx_no {ls : List Int} {b : Nat → Nat} {T p : Nat} (h : ¬ ∃ x : Nat × Nat, iHas ls b T p x) : iNx ls b T p = if T - p < iN ls then .error 60 else .error 63 := by
  unfold iNx
  rw [dif_neg h]
theorem iNx_got {ls : List Int} {b : Nat → Nat} {T p q s : Nat} (h : iNx ls b T p = .ok (q, s)) : ∃ n, q = p + n ∧ iHas ls b T p (s, n) := by
  unfold iNx at h
  split at h
  · rename_i hx
    cases h
    exact ⟨_, rfl, hx.choose_spec⟩
  · split at h <;> cases h
theorem iNx_failed {ls : List Int} {b : Nat → Nat} {T p : Nat} {e : Int} (h : iNx ls b T p = .error e) : (¬ ∃ x : Nat × Nat, iHas ls b T p x) ∧ ((T - p < iN ls ∧ e = 60) ∨ (iN ls ≤ T - p ∧ e = 63)) := by
  unfold iNx at h
  split at h
  · cases h
  · rename_i hx
    refine ⟨hx, ?_⟩
    split at h
    · cases h; exact .inl ⟨by assumption, rfl⟩
    · cases h; exact .inr ⟨by omega, rfl⟩
/-- From the contract of Next. -/
theorem iNx_of {ls : List Int} {b : Nat → Nat} (hb : ∀ i, b i ≤ 1) {T p N s n : Nat} {err : Int} (hN : Longest ls N) (h : NextIs ls (fun i => b (p + i)) (T - p) N s n err) :
    (err = 0 ∧ iHas ls b T p (s, n) ∧ iNx ls b T p = .ok (p + n, s)) ∨ (err = 42 ∧ iNx ls b T p = .error 60) ∨ (err = 43 ∧ iNx ls b T p = .error 63) := by
  rcases h with ⟨h0, h1, h2, h3, h4, h5⟩ | ⟨_, _, h3, h4⟩
  · have hh : iHas ls b T p (s, n) := ⟨h1, h2, h3, h4, h5⟩
    exact .inl ⟨h0, hh, iNx_ok hb hh⟩
  · have hno : ¬ ∃ x : Nat × Nat, iHas ls b T p x := fun ⟨x, hx⟩ => h3 x.2 hx.1 (iHas_hit hx)
    have e := iNx_no hno
    rw [iN_eq hN] at e
    rcases h4 with ⟨h4, h5⟩ | ⟨h4, h5⟩
    · exact .inr (.inl ⟨h5, by rw [e, if_pos h4]⟩)
    · exact .inr (.inr ⟨h5, by rw [e, if_neg (by omega)]⟩)
end Go.Proofs.YtlakgbckopjelaaGreatDoor

/- Two streams side by side: the same bits further on, with something told ahead, with more bits behind, with more that may be told. No Go text in sight. -/
namespace Go.Proofs.YtlakgbckopjelaaGreatDoor
set_option maxRecDepth 100000

/-- The loop, one step unfolded. -/
theorem iLoop_eq {σ : Type} (T : Nat) (f : Nat → σ → Except Int (Nat × (Bool × σ))) (p : Nat) (s : σ) :
    iLoop T f p s = match f p s with
      | .error e => .error e
      | .ok x => if x.2.1 = true then (if _h : p < x.1 ∧ x.1 ≤ T then iLoop T f x.1 x.2.2 else .error 0) else .ok (x.1, x.2.2) := by
  conv => lhs; unfold iLoop
  rfl
theorem iLoop_err {σ : Type} {T : Nat} {f : Nat → σ → Except Int (Nat × (Bool × σ))} {p : Nat} {s : σ} {e : Int} (h : f p s = .error e) : iLoop T f p s = .error e := by
  rw [iLoop_eq, h]
theorem iLoop_end {σ : Type} {T : Nat} {f : Nat → σ → Except Int (Nat × (Bool × σ))} {p q : Nat} {s t : σ} (h : f p s = .ok (q, (false, t))) : iLoop T f p s = .ok (q, t) := by
  rw [iLoop_eq, h]; rfl
theorem iLoop_on {σ : Type} {T : Nat} {f : Nat → σ → Except Int (Nat × (Bool × σ))} {p q : Nat} {s t : σ} (h : f p s = .ok (q, (true, t))) (h1 : p < q) (h2 : q ≤ T) : iLoop T f p s = iLoop T f q t := by
  conv => lhs; rw [iLoop_eq, h]
  simp [h1, h2]

/-- A step goes on, and not too far. -/
def iGo {α : Type} (T p : Nat) (r : Except Int (Nat × α)) : Prop := ∀ q a, r = .ok (q, a) → p < q ∧ q ≤ T
def iGe {α : Type} (T p : Nat) (r : Except Int (Nat × α)) : Prop := ∀ q a, r = .ok (q, a) → p ≤ q ∧ q ≤ T
theorem iGo.ge {α : Type} {T p : Nat} {r : Except Int (Nat × α)} (h : iGo T p r) : iGe T p r := fun q a e => ⟨Nat.le_of_lt (h q a e).1, (h q a e).2⟩
theorem iGe_tk (b : Nat → Nat) (T p n : Nat) : iGe T p (iTk b T p n) := fun q v h => by have := iTk_got h; omega
theorem iGo_tk (b : Nat → Nat) (T p n : Nat) (hn : 1 ≤ n) : iGo T p (iTk b T p n) := fun q v h => by have := iTk_got h; omega
theorem iGo_nx (ls : List Int) (b : Nat → Nat) (T p : Nat) : iGo T p (iNx ls b T p) := fun q v h => by
  obtain ⟨n, h1, h2⟩ := iNx_got h
  have a := h2.1; have c := h2.2.2.1
  simp at a c
  omega
theorem iGe_then {α γ : Type} {T p : Nat} {m : Except Int (Nat × α)} {f : Nat → α → Except Int (Nat × γ)} (h : iGe T p m) (hf : ∀ q a, q ≤ T → iGe T q (f q a)) : iGe T p (iThen m f) := fun q c e => by
  obtain ⟨r, a, e1, e2⟩ := iThen_ok e
  have := h r a e1; have := hf r a (by omega) q c e2
  omega
theorem iGo_then {α γ : Type} {T p : Nat} {m : Except Int (Nat × α)} {f : Nat → α → Except Int (Nat × γ)} (h : iGo T p m) (hf : ∀ q a, q ≤ T → iGe T q (f q a)) : iGo T p (iThen m f) := fun q c e => by
  obtain ⟨r, a, e1, e2⟩ := iThen_ok e
  have := h r a e1; have := hf r a (by omega) q c e2
  omega
theorem iGe_err {α : Type} (T p : Nat) (e : Int) : iGe T p (.error e : Except Int (Nat × α)) := fun q a h => by cases h
theorem iGe_ok {α : Type} {T p q : Nat} (a : α) (h : p ≤ q) (h' : q ≤ T) : iGe T p (.ok (q, a) : Except Int (Nat × α)) := fun q a h => by cases h; omega
theorem iGe_loop {σ : Type} {T : Nat} {f : Nat → σ → Except Int (Nat × (Bool × σ))} (hf : ∀ p s, iGo T p (f p s)) (p : Nat) (s : σ) : iGo T p (iLoop T f p s) := by
  intro q t
  generalize hn : T - p = n
  induction n using Nat.strongRecOn generalizing p s with
  | ind n ih =>
    intro h
    cases hfp : f p s with
    | error e => rw [iLoop_err hfp] at h; cases h
    | ok x =>
      obtain ⟨r, c, u⟩ := x
      have hg := hf p s r _ hfp
      cases c with
      | false => rw [iLoop_end hfp] at h; cases h; exact hg
      | true =>
        rw [iLoop_on hfp hg.1 hg.2] at h
        have := ih (T - r) (by omega) r u rfl h
        omega
/-- What every step keeps holds at the end. -/
theorem iLoop_inv {σ : Type} {T : Nat} {f : Nat → σ → Except Int (Nat × (Bool × σ))} (I : σ → Prop) (hf : ∀ p s q c t, I s → f p s = .ok (q, (c, t)) → I t) (hg : ∀ p s, iGo T p (f p s)) (p : Nat) (s : σ) (hs : I s) (q : Nat) (t : σ) : iLoop T f p s = .ok (q, t) → I t := by
  generalize hn : T - p = n
  induction n using Nat.strongRecOn generalizing p s with
  | ind n ih =>
    intro h
    cases hfp : f p s with
    | error e => rw [iLoop_err hfp] at h; cases h
    | ok x =>
      obtain ⟨r, c, u⟩ := x
      have hgo := hg p s r _ hfp
      have hu := hf p s r c u hs hfp
      cases c with
      | false => rw [iLoop_end hfp] at h; cases h; exact hu
      | true =>
        rw [iLoop_on hfp hgo.1 hgo.2] at h
        exact ih (T - r) (by omega) r u hu rfl h

/-- Side by side: what the one reads the other reads k bits further on; what the one misses the other misses, but for excused errors. -/
def iSim {α : Type} (X : Int → Prop) (k : Nat) (R : α → α → Prop) (r r' : Except Int (Nat × α)) : Prop :=
  (∀ e, r = .error e → X e ∨ r' = .error e) ∧ ∀ q a, r = .ok (q, a) → ∃ a', r' = .ok (q + k, a') ∧ R a a'
theorem iSim_err {α : Type} {X : Int → Prop} {k : Nat} {R : α → α → Prop} (e : Int) : iSim X k R (.error e) (.error e) := ⟨fun _ h => by cases h; exact .inr rfl, fun _ _ h => by cases h⟩
theorem iSim_x {α : Type} {X : Int → Prop} {k : Nat} {R : α → α → Prop} {e : Int} {r' : Except Int (Nat × α)} (h : X e) : iSim X k R (.error e) r' := ⟨fun _ h' => by cases h'; exact .inl h, fun _ _ h => by cases h⟩
theorem iSim_ok {α : Type} {X : Int → Prop} {k : Nat} {R : α → α → Prop} {q q' : Nat} {a a' : α} (h : R a a') (hq : q' = q + k) : iSim X k R (.ok (q, a)) (.ok (q', a')) := ⟨fun _ h' => (by cases h'), fun _ _ h' => (by cases h'; exact ⟨a', by rw [hq], h⟩)⟩
theorem iSim_then {α γ : Type} {X : Int → Prop} {k : Nat} {R : α → α → Prop} {Q : γ → γ → Prop} {m m' : Except Int (Nat × α)} {f f' : Nat → α → Except Int (Nat × γ)} (h : iSim X k R m m') (hf : ∀ q a a', m = .ok (q, a) → R a a' → iSim X k Q (f q a) (f' (q + k) a')) : iSim X k Q (iThen m f) (iThen m' f') := by
  cases hm : m with
  | error e =>
    rcases h.1 e hm with hx | hx
    · exact iSim_x hx
    · rw [hx]; exact iSim_err e
  | ok x =>
    obtain ⟨q, a⟩ := x
    obtain ⟨a', e, hr⟩ := h.2 q a hm
    rw [e]
    exact hf q a a' hm hr
theorem iSim_if {α : Type} {X : Int → Prop} {k : Nat} {R : α → α → Prop} {c c' : Prop} [Decidable c] [Decidable c'] {r r' s s' : Except Int (Nat × α)} (hc : c ↔ c') (h1 : c → iSim X k R r r') (h2 : ¬ c → iSim X k R s s') : iSim X k R (if c then r else s) (if c' then r' else s') := by
  by_cases h : c
  · rw [if_pos h, if_pos (hc.1 h)]; exact h1 h
  · rw [if_neg h, if_neg (fun h' => h (hc.2 h'))]; exact h2 h
theorem iSim_ifx {α : Type} {X : Int → Prop} {k : Nat} {R : α → α → Prop} {c c' : Prop} [Decidable c] [Decidable c'] {e : Int} {s s' : Except Int (Nat × α)} (hc : c' → c) (hx : X e ∨ (c → c')) (h2 : ¬ c → iSim X k R s s') : iSim X k R (if c then .error e else s) (if c' then .error e else s') := by
  by_cases h : c
  · rw [if_pos h]
    rcases hx with hx | hx
    · exact iSim_x hx
    · rw [if_pos (hx h)]; exact iSim_err e
  · rw [if_neg h, if_neg (fun h' => h (hc h'))]; exact h2 h
theorem iSim_loop {σ : Type} {X : Int → Prop} {k T T' : Nat} {R : σ → σ → Prop} {f f' : Nat → σ → Except Int (Nat × (Bool × σ))} (hT : T + k ≤ T') (hg : ∀ p s, iGo T p (f p s)) (hf : ∀ p s s', R s s' → iSim X k (fun x y => x.1 = y.1 ∧ R x.2 y.2) (f p s) (f' (p + k) s')) (p : Nat) (s s' : σ) (h : R s s') : iSim X k R (iLoop T f p s) (iLoop T' f' (p + k) s') := by
  generalize hn : T - p = n
  induction n using Nat.strongRecOn generalizing p s s' with
  | ind n ih =>
    cases hfp : f p s with
    | error e =>
      rw [iLoop_err hfp]
      rcases (hf p s s' h).1 e hfp with hx | hx
      · exact iSim_x hx
      · rw [iLoop_err hx]; exact iSim_err e
    | ok x =>
      obtain ⟨r, c, u⟩ := x
      have hgo := hg p s r _ hfp
      obtain ⟨⟨c', u'⟩, e, h1, h2⟩ := (hf p s s' h).2 r _ hfp
      simp only at h1 h2
      subst h1
      cases c with
      | false => rw [iLoop_end hfp, iLoop_end e]; exact iSim_ok h2 rfl
      | true =>
        rw [iLoop_on hfp hgo.1 hgo.2, iLoop_on e (by omega) (by omega)]
        exact ih (T - r) (by omega) r u u' h2 rfl

/-- The same bits, k further on, perhaps more of them. -/
structure iFar (X : Int → Prop) (k : Nat) (b b' : Nat → Nat) (T T' : Nat) : Prop where
  bit : ∀ i, i < T → b' (i + k) = b i
  le : T + k ≤ T'
  cut : T + k = T' ∨ X 60
  bin : ∀ i, b i ≤ 1
  bin' : ∀ i, b' i ≤ 1
  oct : k % 8 = 0

theorem iFar.num {X : Int → Prop} {k T T' : Nat} {b b' : Nat → Nat} (h : iFar X k b b' T T') {p n : Nat} (hn : p + n ≤ T) : iNum b' (p + k) n = iNum b p n :=
  iNum_congr fun i hi => by rw [show p + k + i = p + i + k by omega]; exact h.bit _ (by omega)
theorem iFar.tk {X : Int → Prop} {k T T' : Nat} {b b' : Nat → Nat} (h : iFar X k b b' T T') (p n : Nat) : iSim X k (fun x y => x = y) (iTk b T p n) (iTk b' T' (p + k) n) := by
  have := h.le
  by_cases hl : p + n ≤ T
  · rw [iTk_ok hl, iTk_ok (by omega)]
    exact iSim_ok (h.num hl).symm (by omega)
  · rw [iTk_err (by omega)]
    rcases h.cut with hc | hc
    · rw [iTk_err (by omega)]; exact iSim_err _
    · exact iSim_x hc
theorem iFar.vl {X : Int → Prop} {k T T' : Nat} {b b' : Nat → Nat} (h : iFar X k b b' T T') {p n : Nat} (hn : n ≤ T - p) : vl (fun i => b' (p + k + i)) n = vl (fun i => b (p + i)) n :=
  vl_congr n fun i hi => by
    show b' (p + k + i) = b (p + i)
    rw [show p + k + i = p + i + k by omega]; exact h.bit _ (by omega)
theorem iFar.nx {X : Int → Prop} {k T T' : Nat} {b b' : Nat → Nat} (h : iFar X k b b' T T') {ls : List Int} (hF : Fit ls) (p : Nat) : iSim X k (fun x y => x = y) (iNx ls b T p) (iNx ls b' T' (p + k)) := by
  have hle := h.le
  obtain ⟨N, hN⟩ := longest_ex hF
  cases hx : iNx ls b T p with
  | ok x =>
    obtain ⟨q, s⟩ := x
    obtain ⟨n, rfl, h1, h2, h3, h4, h5⟩ := iNx_got hx
    simp only at h1 h2 h3 h4 h5
    rw [iNx_ok (s := s) (n := n) h.bin' ⟨by simp only; omega, h2, h3, h4, by simp only; rw [h.vl h1]; exact h5⟩]
    exact iSim_ok rfl (by omega)
  | error e =>
    obtain ⟨hno, hw⟩ := iNx_failed hx
    rw [iN_eq hN] at hw
    have hsame : ∀ x : Nat × Nat, x.2 ≤ T - p → ¬ iHas ls b' T' (p + k) x := by
      rintro ⟨s, n⟩ hn ⟨g1, g2, g3, g4, g5⟩
      simp only at hn g1 g2 g3 g4 g5
      refine hno ⟨(s, n), hn, g2, g3, g4, ?_⟩
      rw [h.vl hn] at g5
      exact g5
    rcases hw with ⟨h1, rfl⟩ | ⟨h1, rfl⟩
    · rcases h.cut with hc | hc
      · rw [iNx_no (fun ⟨x, hx⟩ => hsame x (by have := hx.1; omega) hx), iN_eq hN, if_pos (by omega)]
        exact iSim_err _
      · exact iSim_x hc
    · rw [iNx_no (fun ⟨x, hx⟩ => hsame x ?_ hx), iN_eq hN, if_neg (by omega)]
      · exact iSim_err _
      · have := hN.up x.1 hx.2.1
        have h4 := hx.2.2.2.1
        omega
end Go.Proofs.YtlakgbckopjelaaGreatDoor

/- Inflate of two streams side by side. No Go text in sight. -/
namespace Go.Proofs.YtlakgbckopjelaaGreatDoor
set_option maxRecDepth 100000

theorem iGe_if {α : Type} {T p : Nat} {c : Prop} [Decidable c] {r s : Except Int (Nat × α)} (h1 : c → iGe T p r) (h2 : ¬ c → iGe T p s) : iGe T p (if c then r else s) := by
  by_cases h : c
  · rw [if_pos h]; exact h1 h
  · rw [if_neg h]; exact h2 h
theorem iGo_one (S D : List Int) (b : Nat → Nat) (T most p : Nat) (out : List Int) : iGo T p (iOne S D b T most p out) := by
  unfold iOne
  refine iGo_then (iGo_nx S b T p) fun q v hq => ?_
  refine iGe_if (fun _ => iGe_if (fun _ => iGe_err _ _ _) fun _ => iGe_ok _ (Nat.le_refl _) hq) fun _ => ?_
  refine iGe_if (fun _ => iGe_ok _ (Nat.le_refl _) hq) fun _ => iGe_if (fun _ => iGe_err _ _ _) fun _ => ?_
  refine iGe_then (iGe_tk b T q _) fun q m hq => iGe_then (iGo_nx D b T q).ge fun q w hq => iGe_if (fun _ => iGe_err _ _ _) fun _ => ?_
  refine iGe_then (iGe_tk b T q _) fun q y hq => iGe_if (fun _ => iGe_err _ _ _) fun _ => iGe_if (fun _ => iGe_err _ _ _) fun _ => iGe_ok _ (Nat.le_refl _) hq
theorem iGo_dat (S D : List Int) (b : Nat → Nat) (T most p : Nat) (out : List Int) : iGo T p (iDat S D b T most p out) := iGe_loop (fun p s => iGo_one S D b T most p s) p out
theorem iGe_sto (b : Nat → Nat) (T most p : Nat) (out : List Int) : iGe T p (iSto b T most p out) := by
  unfold iSto
  intro q a h
  obtain ⟨q1, n, h1, h⟩ := iThen_ok h
  obtain ⟨q2, m, h2, h⟩ := iThen_ok h
  have g1 := iTk_got h1
  have g2 := iTk_got h2
  split at h
  · cases h
  · split at h
    · cases h
    · split at h
      · cases h
      · cases h; omega
theorem iGe_rd3 (b : Nat → Nat) (T n p i : Nat) (first : List Int) (hp : p ≤ T) : iGe T p (iRd3 b T n p i first) := by
  induction n generalizing p i first with
  | zero => exact iGe_ok _ (Nat.le_refl _) hp
  | succ n ih =>
    rw [iRd3]
    exact iGe_then (iGe_tk b T p 3) fun q v hq => ih q _ _ hq
theorem iGo_len (first : List Int) (many : Nat) (b : Nat → Nat) (T p : Nat) (all : List Int) : iGo T p (iLen first many b T p all) := by
  unfold iLen
  refine iGo_then (iGo_nx first b T p) fun q v hq => ?_
  refine iGe_if (fun _ => iGe_ok _ (Nat.le_refl _) hq) fun _ => iGe_if (fun _ => iGe_err _ _ _) fun _ => ?_
  exact iGe_then (iGe_tk b T q _) fun q x hq => iGe_if (fun _ => iGe_err _ _ _) fun _ => iGe_ok _ (Nat.le_refl _) hq
theorem iGe_hdr (b : Nat → Nat) (T p : Nat) : iGe T p (iHdr b T p) := by
  unfold iHdr
  refine iGe_then (iGe_tk b T p 5) fun q x hq => iGe_then (iGe_tk b T q 5) fun q y hq => iGe_then (iGe_tk b T q 4) fun q z hq => iGe_if (fun _ => iGe_err _ _ _) fun _ => ?_
  refine iGe_then (iGe_rd3 b T _ q 0 _ hq) fun q first hq => iGe_if (fun _ => iGe_err _ _ _) fun _ => ?_
  refine iGe_then (iGe_loop (fun p s => iGo_len first _ b T p s) q []).ge fun q all hq => iGe_if (fun _ => iGe_err _ _ _) fun _ => iGe_ok _ (Nat.le_refl _) hq
theorem iGe_kind (b : Nat → Nat) (T most kind p : Nat) (out : List Int) : iGe T p (iKind b T most kind p out) := by
  unfold iKind
  refine iGe_if (fun _ => iGe_sto b T most p out) fun _ => iGe_if (fun _ => (iGo_dat _ _ b T most p out).ge) fun _ => iGe_if (fun _ => ?_) fun _ => iGe_err _ _ _
  exact iGe_then (iGe_hdr b T p) fun q sd hq => (iGo_dat _ _ b T most q out).ge
theorem iGo_blk (b : Nat → Nat) (T most p : Nat) (out : List Int) : iGo T p (iBlk b T most p out) := by
  unfold iBlk
  refine iGo_then (iGo_tk b T p 1 (by omega)) fun q l hq => iGe_then (iGe_tk b T q 2) fun q kind hq => iGe_then (iGe_kind b T most kind q out) fun q o hq => iGe_ok _ (Nat.le_refl _) hq
theorem iGo_inf (b : Nat → Nat) (T most : Nat) : iGo T 0 (iInf b T most) := iGe_loop (fun p s => iGo_blk b T most p s) 0 []

/-! A run. -/
theorem iDb_pos (w : Nat) : 1 ≤ iDb w := by unfold iDb; omega
theorem iCpy_length (out : List Int) (d n : Nat) : (iCpy out d n).length = out.length + n := by
  induction n generalizing out with
  | zero => rfl
  | succ n ih => rw [iCpy, ih]; simp; omega
theorem iCpy_ahead (s out : List Int) (d n : Nat) (h2 : d ≤ out.length) : iCpy (s ++ out) d n = s ++ iCpy out d n := by
  induction n generalizing out with
  | zero => rfl
  | succ n ih =>
    rw [iCpy, iCpy]
    have e : ln (s ++ out) ((s ++ out).length - d) = ln out (out.length - d) := by
      unfold ln
      rw [List.length_append, show s.length + out.length - d = s.length + (out.length - d) by omega]
      simp [List.getD, List.getElem?_append_right]
    rw [e, List.append_assoc, ih _ (by simp; omega)]

/-- What was told ahead, and how much more may be told. -/
structure iMay (X : Int → Prop) (s : List Int) (most most' : Nat) : Prop where
  le : most + s.length ≤ most'
  over : most + s.length = most' ∨ X 65
  back : s = [] ∨ X 64

variable {X : Int → Prop} {k T T' : Nat} {b b' : Nat → Nat} {s : List Int} {most most' : Nat}
theorem iFar.one (h : iFar X k b b' T T') (m : iMay X s most most') {S D : List Int} (hS : Fit S) (hD : Fit D) (p : Nat) (o o' : List Int) (ho : o' = s ++ o) :
    iSim X k (fun x y => x.1 = y.1 ∧ y.2 = s ++ x.2) (iOne S D b T most p o) (iOne S D b' T' most' (p + k) o') := by
  subst ho
  have hl : (s ++ o).length = s.length + o.length := List.length_append
  have hm := m.le
  unfold iOne
  refine iSim_then (h.nx hS p) ?_
  rintro q v _ - rfl
  refine iSim_if Iff.rfl (fun _ => ?_) fun _ => iSim_if Iff.rfl (fun _ => iSim_ok ⟨rfl, rfl⟩ rfl) fun _ => iSim_if Iff.rfl (fun _ => iSim_err _) fun _ => ?_
  · refine iSim_ifx (by omega) ?_ fun _ => iSim_ok ⟨rfl, by simp⟩ rfl
    exact m.over.symm.imp id fun _ _ => by omega
  · refine iSim_then (h.tk q _) ?_
    rintro q x _ - rfl
    refine iSim_then (h.nx hD q) ?_
    rintro q w _ - rfl
    refine iSim_if Iff.rfl (fun _ => iSim_err _) fun _ => ?_
    refine iSim_then (h.tk q _) ?_
    rintro q y _ - rfl
    refine iSim_ifx (by omega) ?_ fun hd => ?_
    · exact m.back.symm.imp id fun e _ => by subst e; simpa using by assumption
    refine iSim_ifx (by omega) ?_ fun _ => iSim_ok ⟨rfl, ?_⟩ rfl
    · exact m.over.symm.imp id fun _ _ => by omega
    · exact iCpy_ahead _ _ _ _ (by omega)
theorem iFar.dat (h : iFar X k b b' T T') (m : iMay X s most most') {S D : List Int} (hS : Fit S) (hD : Fit D) (p : Nat) (o : List Int) :
    iSim X k (fun x y => y = s ++ x) (iDat S D b T most p o) (iDat S D b' T' most' (p + k) (s ++ o)) :=
  iSim_loop (R := fun x y => y = s ++ x) h.le (fun p s => iGo_one S D b T most p s) (fun p o o' ho => h.one m hS hD p o o' ho) p o _ rfl
theorem iFar.bytes (h : iFar X k b b' T T') {q n : Nat} (hq : q + 8 * n ≤ T) : iBytes b' (q + k) n = iBytes b q n := by
  unfold iBytes
  refine List.map_congr_left fun i hi => ?_
  have := List.mem_range.1 hi
  rw [show q + k + 8 * i = q + 8 * i + k by omega, h.num (by omega)]
theorem iFar.sto (h : iFar X k b b' T T') (m : iMay X s most most') (p : Nat) (o : List Int) : iSim X k (fun x y => y = s ++ x) (iSto b T most p o) (iSto b' T' most' (p + k) (s ++ o)) := by
  have hl : (s ++ o).length = s.length + o.length := List.length_append
  have hm := m.le
  have hle := h.le
  have ho := h.oct
  unfold iSto
  rw [show (p + k + 7) / 8 * 8 = (p + 7) / 8 * 8 + k by omega]
  refine iSim_then (h.tk _ 16) ?_
  rintro q n _ - rfl
  refine iSim_then (h.tk q 16) ?_
  rintro q n' _ - rfl
  refine iSim_if Iff.rfl (fun _ => iSim_err _) fun _ => ?_
  refine iSim_ifx (by omega) (m.over.symm.imp id fun _ _ => by omega) fun _ => ?_
  refine iSim_ifx (by omega) (h.cut.symm.imp id fun _ _ => by omega) fun hn => iSim_ok ?_ (by omega)
  rw [h.bytes (by omega), List.append_assoc]
theorem iFar.rd3 (h : iFar X k b b' T T') (n p i : Nat) (first : List Int) : iSim X k (fun x y => x = y) (iRd3 b T n p i first) (iRd3 b' T' n (p + k) i first) := by
  induction n generalizing p i first with
  | zero => exact iSim_ok rfl rfl
  | succ n ih =>
    rw [iRd3, iRd3]
    refine iSim_then (h.tk p 3) ?_
    rintro q v _ - rfl
    exact ih q _ _
theorem iFar.len (h : iFar X k b b' T T') {first : List Int} (hf : Fit first) (many p : Nat) (all all' : List Int) (ha : all = all') : iSim X k (fun x y => x.1 = y.1 ∧ x.2 = y.2) (iLen first many b T p all) (iLen first many b' T' (p + k) all') := by
  subst ha
  unfold iLen
  refine iSim_then (h.nx hf p) ?_
  rintro q v _ - rfl
  refine iSim_if Iff.rfl (fun _ => iSim_ok ⟨rfl, rfl⟩ rfl) fun _ => iSim_if Iff.rfl (fun _ => iSim_err _) fun _ => ?_
  refine iSim_then (h.tk q _) ?_
  rintro q x _ - rfl
  exact iSim_if Iff.rfl (fun _ => iSim_err _) fun _ => iSim_ok ⟨rfl, rfl⟩ rfl
theorem iFar.hdr (h : iFar X k b b' T T') (p : Nat) : iSim X k (fun x y => x = y ∧ Fit x.1 ∧ Fit x.2) (iHdr b T p) (iHdr b' T' (p + k)) := by
  unfold iHdr
  refine iSim_then (h.tk p 5) ?_
  rintro q x _ - rfl
  refine iSim_then (h.tk q 5) ?_
  rintro q y _ - rfl
  refine iSim_then (h.tk q 4) ?_
  rintro q z _ - rfl
  refine iSim_if Iff.rfl (fun _ => iSim_err _) fun _ => ?_
  refine iSim_then (h.rd3 _ q 0 _) ?_
  rintro q first _ - rfl
  refine iSim_if Iff.rfl (fun _ => iSim_err _) fun hc => ?_
  have hF := (check_ok (Decidable.not_not.1 hc)).2.1
  refine iSim_then (iSim_loop (R := fun x y => x = y) h.le (fun p s => iGo_len first _ b T p s) (fun p a a' e => h.len hF _ p a a' e) q [] [] rfl) ?_
  rintro q all _ - rfl
  refine iSim_if Iff.rfl (fun _ => iSim_err _) fun hc => iSim_ok ⟨rfl, ?_, ?_⟩ rfl
  · exact (check_ok (Decidable.not_not.1 fun e => hc (.inr (.inl e)))).2.1
  · exact (check_ok (Decidable.not_not.1 fun e => hc (.inr (.inr e)))).2.1
theorem fit_fix : Fit iFix := by unfold Fit iFix; intro x hx; simp only [List.mem_append, List.mem_replicate] at hx; omega
theorem fit_five : Fit iFive := by unfold Fit iFive; intro x hx; simp only [List.mem_replicate] at hx; omega
theorem iFar.kind (h : iFar X k b b' T T') (m : iMay X s most most') (kind p : Nat) (o : List Int) : iSim X k (fun x y => y = s ++ x) (iKind b T most kind p o) (iKind b' T' most' kind (p + k) (s ++ o)) := by
  unfold iKind
  refine iSim_if Iff.rfl (fun _ => h.sto m p o) fun _ => iSim_if Iff.rfl (fun _ => h.dat m fit_fix fit_five p o) fun _ => iSim_if Iff.rfl (fun _ => ?_) fun _ => iSim_err _
  refine iSim_then (h.hdr p) ?_
  rintro q sd _ - ⟨rfl, h1, h2⟩
  exact h.dat m h1 h2 q o
theorem iFar.blk (h : iFar X k b b' T T') (m : iMay X s most most') (p : Nat) (o o' : List Int) (ho : o' = s ++ o) : iSim X k (fun x y => x.1 = y.1 ∧ y.2 = s ++ x.2) (iBlk b T most p o) (iBlk b' T' most' (p + k) o') := by
  subst ho
  unfold iBlk
  refine iSim_then (h.tk p 1) ?_
  rintro q l _ - rfl
  refine iSim_then (h.tk q 2) ?_
  rintro q kind _ - rfl
  refine iSim_then (h.kind m kind q o) ?_
  rintro q a a' - rfl
  exact iSim_ok ⟨rfl, rfl⟩ rfl
theorem iFar.inf (h : iFar X k b b' T T') (m : iMay X s most most') : iSim X k (fun x y => y = s ++ x) (iInf b T most) (iLoop T' (iBlk b' T' most') k s) := by
  have := iSim_loop (R := fun x y => y = s ++ x) h.le (fun p o => iGo_blk b T most p o) (fun p o o' ho => h.blk m p o o' ho) 0 [] s (by simp)
  rw [Nat.zero_add] at this
  exact this
end Go.Proofs.YtlakgbckopjelaaGreatDoor

/- What follows of Inflate: more bytes behind, more that may be told, a stream cut off, a stream behind a stored block, stored blocks alone. No Go text in sight. -/
namespace Go.Proofs.YtlakgbckopjelaaGreatDoor
set_option maxRecDepth 100000

/-! Errors are those of the document. -/
def iBad {α : Type} (r : Except Int (Nat × α)) : Prop := ∀ e, r = .error e → 60 ≤ e ∧ e ≤ 65
theorem iBad_err {α : Type} {e : Int} (h : 60 ≤ e ∧ e ≤ 65) : iBad (.error e : Except Int (Nat × α)) := fun _ h' => by cases h'; exact h
theorem iBad_ok {α : Type} (x : Nat × α) : iBad (.ok x : Except Int (Nat × α)) := fun _ h' => by cases h'
theorem iBad_if {α : Type} {c : Prop} [Decidable c] {r s : Except Int (Nat × α)} (h1 : iBad r) (h2 : iBad s) : iBad (if c then r else s) := by
  by_cases h : c
  · rw [if_pos h]; exact h1
  · rw [if_neg h]; exact h2
theorem iBad_then {α γ : Type} {m : Except Int (Nat × α)} {f : Nat → α → Except Int (Nat × γ)} (h : iBad m) (hf : ∀ q a, iBad (f q a)) : iBad (iThen m f) := fun e h' => by
  rcases iThen_err h' with h' | ⟨p, a, _, h'⟩
  · exact h e h'
  · exact hf p a e h'
theorem iBad_loop {σ : Type} {T : Nat} {f : Nat → σ → Except Int (Nat × (Bool × σ))} (hg : ∀ p s, iGo T p (f p s)) (hf : ∀ p s, iBad (f p s)) (p : Nat) (s : σ) : iBad (iLoop T f p s) := by
  intro e
  generalize hn : T - p = n
  induction n using Nat.strongRecOn generalizing p s with
  | ind n ih =>
    intro h
    cases hfp : f p s with
    | error e' => rw [iLoop_err hfp] at h; cases h; exact hf p s _ hfp
    | ok x =>
      obtain ⟨r, c, u⟩ := x
      have hgo := hg p s r _ hfp
      cases c with
      | false => rw [iLoop_end hfp] at h; cases h
      | true =>
        rw [iLoop_on hfp hgo.1 hgo.2] at h
        exact ih (T - r) (by omega) r u rfl h
theorem iBad_tk (b : Nat → Nat) (T p n : Nat) : iBad (iTk b T p n) := by unfold iTk; exact iBad_if (iBad_err (by omega)) (iBad_ok _)
theorem iBad_nx (ls : List Int) (b : Nat → Nat) (T p : Nat) : iBad (iNx ls b T p) := fun e h => by have := (iNx_failed h).2; omega
theorem iBad_one (S D : List Int) (b : Nat → Nat) (T most p : Nat) (out : List Int) : iBad (iOne S D b T most p out) := by
  unfold iOne
  refine iBad_then (iBad_nx _ _ _ _) fun q v => iBad_if (iBad_if (iBad_err (by omega)) (iBad_ok _)) (iBad_if (iBad_ok _) (iBad_if (iBad_err (by omega)) ?_))
  exact iBad_then (iBad_tk _ _ _ _) fun q m => iBad_then (iBad_nx _ _ _ _) fun q w => iBad_if (iBad_err (by omega)) (iBad_then (iBad_tk _ _ _ _) fun q y => iBad_if (iBad_err (by omega)) (iBad_if (iBad_err (by omega)) (iBad_ok _)))
theorem iBad_dat (S D : List Int) (b : Nat → Nat) (T most p : Nat) (out : List Int) : iBad (iDat S D b T most p out) := iBad_loop (fun p s => iGo_one S D b T most p s) (fun p s => iBad_one S D b T most p s) p out
theorem iBad_rd3 (b : Nat → Nat) (T n p i : Nat) (first : List Int) : iBad (iRd3 b T n p i first) := by
  induction n generalizing p i first with
  | zero => exact iBad_ok _
  | succ n ih => rw [iRd3]; exact iBad_then (iBad_tk _ _ _ _) fun q v => ih _ _ _
theorem iBad_len (first : List Int) (many : Nat) (b : Nat → Nat) (T p : Nat) (all : List Int) : iBad (iLen first many b T p all) := by
  unfold iLen
  exact iBad_then (iBad_nx _ _ _ _) fun q v => iBad_if (iBad_ok _) (iBad_if (iBad_err (by omega)) (iBad_then (iBad_tk _ _ _ _) fun q x => iBad_if (iBad_err (by omega)) (iBad_ok _)))
theorem iBad_hdr (b : Nat → Nat) (T p : Nat) : iBad (iHdr b T p) := by
  unfold iHdr
  refine iBad_then (iBad_tk _ _ _ _) fun q x => iBad_then (iBad_tk _ _ _ _) fun q y => iBad_then (iBad_tk _ _ _ _) fun q z => iBad_if (iBad_err (by omega)) ?_
  exact iBad_then (iBad_rd3 _ _ _ _ _ _) fun q first => iBad_if (iBad_err (by omega)) (iBad_then (iBad_loop (fun p s => iGo_len first _ b T p s) (fun p s => iBad_len first _ b T p s) q []) fun q all => iBad_if (iBad_err (by omega)) (iBad_ok _))
theorem iBad_sto (b : Nat → Nat) (T most p : Nat) (out : List Int) : iBad (iSto b T most p out) := by
  unfold iSto
  exact iBad_then (iBad_tk _ _ _ _) fun q n => iBad_then (iBad_tk _ _ _ _) fun q m => iBad_if (iBad_err (by omega)) (iBad_if (iBad_err (by omega)) (iBad_if (iBad_err (by omega)) (iBad_ok _)))
theorem iBad_kind (b : Nat → Nat) (T most kind p : Nat) (out : List Int) : iBad (iKind b T most kind p out) := by
  unfold iKind
  exact iBad_if (iBad_sto _ _ _ _ _) (iBad_if (iBad_dat _ _ _ _ _ _ _) (iBad_if (iBad_then (iBad_hdr _ _ _) fun q sd => iBad_dat _ _ _ _ _ _ _) (iBad_err (by omega))))
theorem iBad_blk (b : Nat → Nat) (T most p : Nat) (out : List Int) : iBad (iBlk b T most p out) := by
  unfold iBlk
  exact iBad_then (iBad_tk _ _ _ _) fun q l => iBad_then (iBad_tk _ _ _ _) fun q kind => iBad_then (iBad_kind _ _ _ _ _ _) fun q o => iBad_ok _
theorem iBad_inf (b : Nat → Nat) (T most : Nat) : iBad (iInf b T most) := iBad_loop (fun p s => iGo_blk b T most p s) (fun p s => iBad_blk b T most p s) 0 []

/-! What is told: bytes, and at most most. -/
theorem iLoop_fin {σ : Type} {T : Nat} {f : Nat → σ → Except Int (Nat × (Bool × σ))} (I : σ → Prop) (hf : ∀ p s q t, I s → f p s = .ok (q, (true, t)) → I t) (hg : ∀ p s, iGo T p (f p s)) (p : Nat) (s : σ) (hs : I s) (q : Nat) (t : σ) : iLoop T f p s = .ok (q, t) → ∃ p' s', I s' ∧ f p' s' = .ok (q, (false, t)) := by
  generalize hn : T - p = n
  induction n using Nat.strongRecOn generalizing p s with
  | ind n ih =>
    intro h
    cases hfp : f p s with
    | error e => rw [iLoop_err hfp] at h; cases h
    | ok x =>
      obtain ⟨r, c, u⟩ := x
      have hgo := hg p s r _ hfp
      cases c with
      | false => rw [iLoop_end hfp] at h; cases h; exact ⟨p, s, hs, hfp⟩
      | true =>
        rw [iLoop_on hfp hgo.1 hgo.2] at h
        exact ih (T - r) (by omega) r u (hf p s r u hs hfp) rfl h

/-- Bytes, at most most. -/
def iBy (most : Nat) (o : List Int) : Prop := o.length ≤ most ∧ ∀ x ∈ o, 0 ≤ x ∧ x ≤ 255
theorem iBy_ln {most : Nat} {o : List Int} (h : iBy most o) (i : Nat) : 0 ≤ ln o i ∧ ln o i ≤ 255 := by
  unfold ln
  by_cases hi : i < o.length
  · have := h.2 _ (List.getElem_mem hi)
    simpa [List.getD, hi] using this
  · simp [List.getD, List.getElem?_eq_none (show o.length ≤ i by omega)]
theorem iCpy_by {o : List Int} (h : ∀ x ∈ o, 0 ≤ x ∧ x ≤ 255) (d n : Nat) : ∀ x ∈ iCpy o d n, 0 ≤ x ∧ x ≤ 255 := by
  induction n generalizing o with
  | zero => exact h
  | succ n ih =>
    rw [iCpy]
    refine ih fun x hx => ?_
    rcases List.mem_append.1 hx with hx | hx
    · exact h x hx
    · rw [List.mem_singleton.1 hx]
      exact iBy_ln (most := o.length) ⟨Nat.le_refl _, h⟩ _
theorem iOne_by {S D : List Int} {b : Nat → Nat} {T most p : Nat} {o : List Int} {q : Nat} {c : Bool} {t : List Int} (ho : iBy most o) (h : iOne S D b T most p o = .ok (q, (c, t))) : iBy most t := by
  unfold iOne at h
  obtain ⟨q1, v, -, h⟩ := iThen_ok h
  split at h
  · split at h
    · cases h
    · cases h
      refine ⟨by simp; omega, fun x hx => ?_⟩
      rcases List.mem_append.1 hx with hx | hx
      · exact ho.2 x hx
      · rw [List.mem_singleton.1 hx]; omega
  · split at h
    · cases h; exact ho
    · split at h
      · cases h
      · obtain ⟨q2, m, -, h⟩ := iThen_ok h
        obtain ⟨q3, w, -, h⟩ := iThen_ok h
        split at h
        · cases h
        · obtain ⟨q4, y, -, h⟩ := iThen_ok h
          split at h
          · cases h
          · split at h
            · cases h
            · cases h
              exact ⟨by rw [iCpy_length]; omega, iCpy_by ho.2 _ _⟩
theorem iDat_by {S D : List Int} {b : Nat → Nat} {T most p : Nat} {o : List Int} {q : Nat} {t : List Int} (ho : iBy most o) (h : iDat S D b T most p o = .ok (q, t)) : iBy most t := by
  obtain ⟨p', s', h1, h2⟩ := iLoop_fin (iBy most) (fun p s q t hs e => iOne_by hs e) (fun p s => iGo_one S D b T most p s) p o ho q t h
  exact iOne_by h1 h2
theorem iBytes_by {b : Nat → Nat} (hb : ∀ i, b i ≤ 1) (p n : Nat) : ∀ x ∈ iBytes b p n, 0 ≤ x ∧ x ≤ 255 := by
  intro x hx
  unfold iBytes at hx
  obtain ⟨i, -, rfl⟩ := List.mem_map.1 hx
  have := iNum_lt hb (p + 8 * i) 8
  omega
theorem iBytes_length (b : Nat → Nat) (p n : Nat) : (iBytes b p n).length = n := by simp [iBytes]
theorem iSto_by {b : Nat → Nat} (hb : ∀ i, b i ≤ 1) {T most p : Nat} {o : List Int} {q : Nat} {t : List Int} (ho : iBy most o) (h : iSto b T most p o = .ok (q, t)) : iBy most t := by
  unfold iSto at h
  obtain ⟨q1, n, -, h⟩ := iThen_ok h
  obtain ⟨q2, m, -, h⟩ := iThen_ok h
  split at h
  · cases h
  · split at h
    · cases h
    · split at h
      · cases h
      · cases h
        refine ⟨by rw [List.length_append, iBytes_length]; omega, fun x hx => ?_⟩
        rcases List.mem_append.1 hx with hx | hx
        · exact ho.2 x hx
        · exact iBytes_by hb _ _ x hx
theorem iBlk_by {b : Nat → Nat} (hb : ∀ i, b i ≤ 1) {T most p : Nat} {o : List Int} {q : Nat} {c : Bool} {t : List Int} (ho : iBy most o) (h : iBlk b T most p o = .ok (q, (c, t))) : iBy most t := by
  unfold iBlk at h
  obtain ⟨q1, l, -, h⟩ := iThen_ok h
  obtain ⟨q2, kind, -, h⟩ := iThen_ok h
  obtain ⟨q3, o2, h3, h⟩ := iThen_ok h
  cases h
  unfold iKind at h3
  split at h3
  · exact iSto_by hb ho h3
  · split at h3
    · exact iDat_by ho h3
    · split at h3
      · obtain ⟨q4, sd, -, h4⟩ := iThen_ok h3
        exact iDat_by ho h4
      · cases h3
theorem iInf_by {b : Nat → Nat} (hb : ∀ i, b i ≤ 1) {T most q : Nat} {t : List Int} (h : iInf b T most = .ok (q, t)) : iBy most t := by
  obtain ⟨p', s', h1, h2⟩ := iLoop_fin (iBy most) (fun p s q t hs e => iBlk_by hb hs e) (fun p s => iGo_blk b T most p s) 0 [] ⟨Nat.zero_le _, fun x hx => absurd hx (by simp)⟩ q t h
  exact iBlk_by hb h1 h2

/-! Over bytes. -/
/-- Bit i of bytes. -/
def ib (zs : List Int) (i : Nat) : Nat := (zs.getD (i / 8) 0 / 2 ^ (i % 8) % 2).toNat
theorem ib_le (zs : List Int) (i : Nat) : ib zs i ≤ 1 := by unfold ib; omega
noncomputable def iRes (r : Except Int (Nat × List Int)) : List Int × Nat × Int :=
  match r with
  | .error e => ([], 0, e)
  | .ok x => (x.2, (x.1 + 7) / 8, 0)
/-- What Inflate answers. -/
noncomputable def iAns (zs : List Int) (most : Nat) : List Int × Nat × Int := iRes (iInf (ib zs) (8 * zs.length) most)

theorem ib_app (zs ys : List Int) (i : Nat) (hi : i < 8 * zs.length) : ib (zs ++ ys) i = ib zs i := by
  unfold ib
  have : i / 8 < zs.length := by omega
  simp [List.getD, List.getElem?_append_left this]
theorem ib_far (zs ys : List Int) (i : Nat) : ib (ys ++ zs) (i + 8 * ys.length) = ib zs i := by
  unfold ib
  rw [show (i + 8 * ys.length) / 8 = ys.length + i / 8 by omega, show (i + 8 * ys.length) % 8 = i % 8 by omega]
  simp [List.getD, List.getElem?_append_right]
theorem iAns_more (zs ys : List Int) (most : Nat) : (iAns zs most).2.2 = 60 ∨ iAns (zs ++ ys) most = iAns zs most := by
  have h : iFar (fun e => e = 60) 0 (ib zs) (ib (zs ++ ys)) (8 * zs.length) (8 * (zs ++ ys).length) := ⟨fun i hi => ib_app zs ys i hi, by simp; omega, .inr rfl, ib_le _, ib_le _, rfl⟩
  have hs := h.inf (s := []) (most := most) (most' := most) ⟨by simp, .inl (by simp), .inl rfl⟩
  unfold iAns
  cases hr : iInf (ib zs) (8 * zs.length) most with
  | error e =>
    rcases hs.1 e hr with rfl | h2
    · exact .inl rfl
    · right; unfold iInf; rw [h2]
  | ok x =>
    obtain ⟨q, o⟩ := x
    obtain ⟨o', h2, h3⟩ := hs.2 q o hr
    right; unfold iInf; rw [h2, h3]; rfl
theorem iAns_most (zs : List Int) (most more : Nat) : (iAns zs most).2.2 = 65 ∨ iAns zs (most + more) = iAns zs most := by
  have h : iFar (fun e => e = 65) 0 (ib zs) (ib zs) (8 * zs.length) (8 * zs.length) := ⟨fun i hi => rfl, by simp, .inl rfl, ib_le _, ib_le _, rfl⟩
  have hs := h.inf (s := []) (most := most) (most' := most + more) ⟨by simp, .inr rfl, .inl rfl⟩
  unfold iAns
  cases hr : iInf (ib zs) (8 * zs.length) most with
  | error e =>
    rcases hs.1 e hr with rfl | h2
    · exact .inl rfl
    · right; unfold iInf; rw [h2]
  | ok x =>
    obtain ⟨q, o⟩ := x
    obtain ⟨o', h2, h3⟩ := hs.2 q o hr
    right; unfold iInf; rw [h2, h3]; rfl
theorem iAns_by (zs : List Int) (most : Nat) : iBy most (iAns zs most).1 := by
  unfold iAns
  cases hr : iInf (ib zs) (8 * zs.length) most with
  | error e => exact ⟨Nat.zero_le _, fun x hx => absurd hx (by simp [iRes])⟩
  | ok x => exact iInf_by (ib_le _) (q := x.1) (t := x.2) hr
theorem iAns_err (zs : List Int) (most : Nat) : (iAns zs most).2.2 = 0 ∨ (60 ≤ (iAns zs most).2.2 ∧ (iAns zs most).2.2 ≤ 65 ∧ (iAns zs most).1 = [] ∧ (iAns zs most).2.1 = 0) := by
  unfold iAns
  cases hr : iInf (ib zs) (8 * zs.length) most with
  | error e => have := iBad_inf _ _ _ e hr; exact .inr ⟨this.1, this.2, rfl, rfl⟩
  | ok x => exact .inl rfl
theorem iAns_read (zs : List Int) (most : Nat) : (iAns zs most).2.1 ≤ zs.length := by
  unfold iAns
  cases hr : iInf (ib zs) (8 * zs.length) most with
  | error e => exact Nat.zero_le _
  | ok x => have := (iGo_inf _ _ _ x.1 x.2 hr).2; show (x.1 + 7) / 8 ≤ _; omega
theorem iAns_cut (zs : List Int) (most cut : Nat) (hc : cut < (iAns zs most).2.1) : (iAns (zs.take cut) most).2.2 = 60 := by
  have hr := iAns_read zs most
  rcases iAns_more (zs.take cut) (zs.drop cut) most with h | h
  · exact h
  · rw [List.take_append_drop] at h
    exfalso
    have := iAns_read (zs.take cut) most
    rw [← h] at this
    rw [List.length_take] at this
    omega
end Go.Proofs.YtlakgbckopjelaaGreatDoor
