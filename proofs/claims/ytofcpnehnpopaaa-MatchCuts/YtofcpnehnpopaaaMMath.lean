/- Tokens and what they tell; runs; chains of places: of no program. -/
import Derived.Test.YtofcpnehnpopaaaWorld
namespace Go.Proofs.Ytofcpnehnpopaaa
set_option maxRecDepth 100000
open Go Go.RowKit

theorem hide {p : Prop} (h : p) : Hid p := h
/-- A number of a list. -/
def ln (xs : List Int) (i : Nat) : Int := xs.getD i 0
theorem ln_in {xs : List Int} {i : Nat} (h : i < xs.length) : ln xs i = xs[i] := by simp [ln, List.getD, h]
theorem ln_left {A B : List Int} {i : Nat} (h : i < A.length) : ln (A ++ B) i = ln A i := by simp [ln, List.getD, List.getElem?_append_left h]
theorem ln_right {A B : List Int} {i : Nat} (h : A.length ≤ i) : ln (A ++ B) i = ln B (i - A.length) := by simp [ln, List.getD, List.getElem?_append_right h]
theorem ln_take {A : List Int} {t i : Nat} (h : i < t) : ln (A.take t) i = ln A i := by simp [ln, List.getD, h]
theorem take_snoc {A : List Int} {p : Nat} (h : p < A.length) : A.take (p + 1) = A.take p ++ [ln A p] := by
  rw [List.take_succ_eq_append_getElem h, ln_in h]

/-- A token: its byte, how long it is, how far back it goes. -/
abbrev Tk := Int × Int × Int
def tk (xs : List Tk) (i : Nat) : Tk := xs.getD i (0, 0, 0)
theorem tk_in {xs : List Tk} {i : Nat} (h : i < xs.length) : tk xs i = xs[i] := by simp [tk, List.getD, h]
theorem tk_left {A B : List Tk} {i : Nat} (h : i < A.length) : tk (A ++ B) i = tk A i := by simp [tk, List.getD, List.getElem?_append_left h]
theorem tk_last (A : List Tk) (t : Tk) : tk (A ++ [t]) A.length = t := by simp [tk, List.getD]
theorem tk_take_snoc {A : List Tk} {p : Nat} (h : p < A.length) : A.take (p + 1) = A.take p ++ [tk A p] := by
  rw [List.take_succ_eq_append_getElem h, tk_in h]
/-- How many bytes a token tells. -/
def tl (t : Tk) : Int := if t.2.1 = 0 then 1 else t.2.1
/-- A token that may be behind so many bytes. -/
def OkT (ahead : Int) (t : Tk) : Prop := (t.2.1 = 0 ∧ t.2.2 = 0) ∨ (t.1 = 0 ∧ 3 ≤ t.2.1 ∧ t.2.1 ≤ 258 ∧ 1 ≤ t.2.2 ∧ t.2.2 ≤ 32768 ∧ t.2.2 ≤ ahead)
instance (n : Int) (t : Tk) : Decidable (OkT n t) := by unfold OkT; exact inferInstance
theorem OkT.tl {n : Int} {t : Tk} (h : OkT n t) : 1 ≤ tl t ∧ tl t ≤ 258 := by
  unfold Go.Proofs.Ytofcpnehnpopaaa.tl
  rcases h with h | h
  · rw [if_pos h.1]; omega
  · rw [if_neg (by omega)]; omega
/-- What tokens tell together. -/
def sm (xs : List Tk) : Int := (xs.map tl).sum
theorem sm_snoc (xs : List Tk) (t : Tk) : sm (xs ++ [t]) = sm xs + tl t := by simp [sm]
/-- Tokens that may be, as far as the first i are asked. -/
def RtTo (xs : List Tk) (i : Nat) : Prop := ∀ j, j < i → OkT (sm (xs.take j)) (tk xs j)
def Rt (xs : List Tk) : Prop := RtTo xs xs.length
theorem RtTo.zero (xs : List Tk) : RtTo xs 0 := fun j h => by omega
theorem RtTo.succ {xs : List Tk} {i : Nat} (h : RtTo xs i) (k : OkT (sm (xs.take i)) (tk xs i)) : RtTo xs (i + 1) := fun j hj => by
  rcases Nat.lt_or_ge j i with h' | h'
  · exact h j h'
  · obtain rfl : j = i := by omega
    exact k
theorem RtTo.sum {xs : List Tk} {i : Nat} (h : RtTo xs i) (hi : i ≤ xs.length) : (i : Int) ≤ sm (xs.take i) ∧ sm (xs.take i) ≤ 258 * (i : Int) := by
  induction i with
  | zero => simp [sm]
  | succ i ih =>
    have := ih (fun j hj => h j (by omega)) (by omega)
    have h2 := (h i (by omega)).tl
    rw [tk_take_snoc (by omega), sm_snoc]
    omega
theorem Rt.snoc {xs : List Tk} (h : Rt xs) {t : Tk} (k : OkT (sm xs) t) : Rt (xs ++ [t]) := by
  intro j hj
  simp at hj
  rcases Nat.lt_or_ge j xs.length with h' | h'
  · rw [tk_left h', List.take_append_of_le_length (by omega)]; exact h j h'
  · obtain rfl : j = xs.length := by omega
    rw [tk_last, List.take_left']
    · exact k
    · rfl
theorem Rt.sum {xs : List Tk} (h : Rt xs) : (xs.length : Int) ≤ sm xs ∧ sm xs ≤ 258 * (xs.length : Int) := by
  have := RtTo.sum h (Nat.le_refl _)
  rwa [List.take_length] at this
theorem Rt.of_app {xs ys : List Tk} (h : Rt (xs ++ ys)) : Rt xs := fun j hj => by
  have := h j (by simp; omega)
  rwa [tk_left hj, List.take_append_of_le_length (by omega)] at this
theorem Rt.nil : Rt [] := fun j hj => by simp at hj

/-- Bytes told once more, one by one. -/
def cpy (out : List Int) (d : Nat) : Nat → List Int
  | 0 => out
  | n + 1 => cpy out d n ++ [ln (cpy out d n) ((cpy out d n).length - d)]
theorem cpy_length (out : List Int) (d n : Nat) : (cpy out d n).length = out.length + n := by
  induction n with
  | zero => rfl
  | succ n ih => simp only [cpy, List.length_append, List.length_singleton, ih]; omega
theorem cpy_mem {out : List Int} (h : ∀ x ∈ out, 0 ≤ x ∧ x ≤ 255) (d n : Nat) : ∀ x ∈ cpy out d n, 0 ≤ x ∧ x ≤ 255 := by
  induction n with
  | zero => exact h
  | succ n ih =>
    intro x hx
    rw [cpy] at hx
    rcases List.mem_append.1 hx with hx | hx
    · exact ih x hx
    · simp at hx
      subst hx
      unfold ln List.getD
      cases e : (cpy out d n)[(cpy out d n).length - d]? with
      | none => simp
      | some y => exact ih y (List.mem_of_getElem? e)
def tel1 (out : List Int) (t : Tk) : List Int := if t.2.1 = 0 then out ++ [t.1] else cpy out t.2.2.toNat t.2.1.toNat
/-- What tokens tell. -/
def tel (xs : List Tk) : List Int := xs.foldl tel1 []
theorem tel_snoc (xs : List Tk) (t : Tk) : tel (xs ++ [t]) = tel1 (tel xs) t := by simp [tel]
theorem tel1_length (out : List Int) {n : Int} {t : Tk} (h : OkT n t) : ((tel1 out t).length : Int) = out.length + tl t := by
  unfold tel1 tl
  rcases h with h | h
  · rw [if_pos h.1, if_pos h.1]; simp
  · rw [if_neg (by omega), if_neg (by omega), cpy_length]; omega
theorem tel_to {xs : List Tk} {i : Nat} (h : RtTo xs i) (hi : i ≤ xs.length) : ((tel (xs.take i)).length : Int) = sm (xs.take i) := by
  induction i with
  | zero => simp [tel, sm]
  | succ i ih =>
    rw [tk_take_snoc (by omega), tel_snoc, sm_snoc, tel1_length _ (h i (by omega)), ih (fun j hj => h j (by omega)) (by omega)]
theorem tel_length {xs : List Tk} (h : Rt xs) : ((tel xs).length : Int) = sm xs := by
  have := tel_to h (Nat.le_refl _)
  rwa [List.take_length] at this
/-- Tokens whose bytes are bytes. -/
def Bt (xs : List Tk) : Prop := ∀ i, 0 ≤ (tk xs i).1 ∧ (tk xs i).1 ≤ 255
theorem Bt.take {xs : List Tk} (h : Bt xs) (i : Nat) : ∀ x ∈ tel (xs.take i), 0 ≤ x ∧ x ≤ 255 := by
  induction i with
  | zero => intro x hx; simp [tel] at hx
  | succ i ih =>
    by_cases hi : i < xs.length
    · rw [tk_take_snoc hi, tel_snoc]
      unfold tel1
      split
      · intro x hx
        rcases List.mem_append.1 hx with hx | hx
        · exact ih x hx
        · simp at hx; subst hx; exact h i
      · exact cpy_mem ih _ _
    · rw [List.take_of_length_le (by omega)]
      rw [List.take_of_length_le (by omega)] at ih
      exact ih
theorem Bt.mem {xs : List Tk} (h : Bt xs) : ∀ x ∈ tel xs, 0 ≤ x ∧ x ≤ 255 := by
  have := h.take xs.length
  rwa [List.take_length] at this

/-- A run of the data at a place. -/
structure Run (zs : List Int) (p : Nat) (L B : Nat) : Prop where
  l3 : 3 ≤ L
  l258 : L ≤ 258
  b1 : 1 ≤ B
  bw : B ≤ 32768
  bp : B ≤ p
  fit : p + L ≤ zs.length
  same : ∀ k, k < L → ln zs (p - B + k) = ln zs (p + k)
theorem cpy_run {zs : List Int} {p B : Nat} (hB1 : 1 ≤ B) (hB : B ≤ p) : ∀ L, p + L ≤ zs.length → (∀ k, k < L → ln zs (p - B + k) = ln zs (p + k)) → cpy (zs.take p) B L = zs.take (p + L) := by
  intro L
  induction L with
  | zero => intro _ _; rfl
  | succ L ih =>
    intro h1 h2
    have i := ih (by omega) (fun k hk => h2 k (by omega))
    rw [cpy, i, List.length_take, Nat.min_eq_left (by omega), ← Nat.add_assoc, take_snoc (by omega), ln_take (by omega)]
    rw [show p + L - B = p - B + L by omega, h2 L (by omega)]
theorem Run.tell {zs : List Int} {p L B : Nat} (h : Run zs p L B) : tel1 (zs.take p) (0, (L : Int), (B : Int)) = zs.take (p + L) := by
  unfold tel1
  have := h.l3
  rw [if_neg (by simp only; omega)]
  exact cpy_run h.b1 h.bp L h.fit h.same
theorem Run.ok {zs : List Int} {p L B : Nat} (h : Run zs p L B) : OkT (p : Int) (0, (L : Int), (B : Int)) := by
  have := h.l3; have := h.l258; have := h.b1; have := h.bw; have := h.bp
  refine .inr ⟨rfl, ?_, ?_, ?_, ?_, ?_⟩ <;> simp only <;> omega
/-- What is found for a place: nothing that is near is overlooked. -/
structure RunOk (zs : List Int) (p : Nat) (L B : Nat) : Prop where
  is : (L = 0 ∧ B = 0) ∨ Run zs p L B
  near : ∀ b n, 1 ≤ b → b ≤ 64 → b ≤ p → p + n ≤ zs.length → n ≤ 258 → (∀ k, k < n → ln zs (p - b + k) = ln zs (p + k)) → n ≤ 2 ∨ n ≤ L

/-- Three bytes begin here that begin a little ahead, too. -/
def Nr (zs : List Int) (p : Nat) : Prop := ∃ b, 1 ≤ b ∧ b ≤ 64 ∧ b ≤ p ∧ p + 3 ≤ zs.length ∧ ln zs p = ln zs (p - b) ∧ ln zs (p + 1) = ln zs (p + 1 - b) ∧ ln zs (p + 2) = ln zs (p + 2 - b)
theorem RunOk.none {zs : List Int} {p B : Nat} (h : RunOk zs p 0 B) : ¬ Nr zs p := by
  rintro ⟨b, h1, h2, h3, h4, e0, e1, e2⟩
  have := h.near b 3 h1 h2 h3 h4 (by omega) (fun k hk => by
    have : k = 0 ∨ k = 1 ∨ k = 2 := by omega
    rcases this with rfl | rfl | rfl
    · simpa using e0.symm
    · rw [show p - b + 1 = p + 1 - b by omega]; exact e1.symm
    · rw [show p - b + 2 = p + 2 - b by omega]; exact e2.symm)
  omega
/-- Which places are told by a byte alone. -/
def alo (xs : List Tk) : List Bool := xs.flatMap fun t => List.replicate (tl t).toNat (decide (t.2.1 = 0))
theorem alo_snoc (xs : List Tk) (t : Tk) : alo (xs ++ [t]) = alo xs ++ List.replicate (tl t).toNat (decide (t.2.1 = 0)) := by simp [alo]
theorem alo_to {xs : List Tk} {i : Nat} (h : RtTo xs i) (hi : i ≤ xs.length) : ((alo (xs.take i)).length : Int) = sm (xs.take i) := by
  induction i with
  | zero => simp [alo, sm]
  | succ i ih =>
    have h2 := (h i (by omega)).tl
    rw [tk_take_snoc (by omega), alo_snoc, sm_snoc, List.length_append, List.length_replicate]
    have := ih (fun j hj => h j (by omega)) (by omega)
    omega
theorem alo_length {xs : List Tk} (h : Rt xs) : ((alo xs).length : Int) = sm xs := by
  have := alo_to h (Nat.le_refl _)
  rwa [List.take_length] at this
def al (bs : List Bool) (i : Nat) : Bool := bs.getD i false
theorem al_left {A B : List Bool} {i : Nat} (h : i < A.length) : al (A ++ B) i = al A i := by simp [al, List.getD, List.getElem?_append_left h]
theorem al_right {A B : List Bool} {i : Nat} (h : A.length ≤ i) : al (A ++ B) i = al B (i - A.length) := by simp [al, List.getD, List.getElem?_append_right h]
theorem al_rep {n i : Nat} (b : Bool) (h : i < n) : al (List.replicate n b) i = b := by simp [al, List.getD, h]

/-- As far as data is made tokens of. -/
structure FdTo (zs : List Int) (p : Nat) (xs : List Tk) : Prop where
  rt : Rt xs
  bt : Bt xs
  tell : tel xs = zs.take p
  many : xs.length ≤ p
  le : p ≤ zs.length
  near : ∀ i, i < p → al (alo xs) i = true → ¬ Nr zs i ∨ (i + 1 < p ∧ al (alo xs) (i + 1) = false)
  like : (∀ i, i < zs.length → ln zs i = ln zs 0) → xs.length ≤ (p + 516) / 258 + (p - (zs.length - 2))
theorem FdTo.sum {zs : List Int} {p : Nat} {xs : List Tk} (h : FdTo zs p xs) : sm xs = (p : Int) := by
  rw [← tel_length h.rt, h.tell, List.length_take, Nat.min_eq_left h.le]
theorem FdTo.alen {zs : List Int} {p : Nat} {xs : List Tk} (h : FdTo zs p xs) : (alo xs).length = p := by
  have := alo_length h.rt
  rw [h.sum] at this
  omega
theorem Bt.nil : Bt [] := fun i => by simp [tk]
theorem Bt.snoc {xs : List Tk} {t : Tk} (h : Bt xs) (h0 : 0 ≤ t.1) (h1 : t.1 ≤ 255) : Bt (xs ++ [t]) := fun i => by
  rcases Nat.lt_or_ge i xs.length with h' | h'
  · rw [tk_left h']; exact h i
  · by_cases e : i = xs.length
    · subst e; rw [tk_last]; exact ⟨h0, h1⟩
    · unfold tk List.getD
      rw [List.getElem?_eq_none (by simp; omega)]
      simp
theorem FdTo.start (zs : List Int) : FdTo zs 0 [] := ⟨Rt.nil, Bt.nil, by simp [tel], Nat.zero_le _, Nat.zero_le _, fun i hi => by omega, fun _ => by simp⟩
/-- Of like bytes the whole rest is a run, but at the first place. -/
theorem RunOk.like {zs : List Int} {p L B : Nat} (h : RunOk zs p L B) (hl : ∀ i, i < zs.length → ln zs i = ln zs 0) (hp : 1 ≤ p) (h3 : p + 3 ≤ zs.length) : min (zs.length - p) 258 ≤ L := by
  have := h.near 1 (min (zs.length - p) 258) (by omega) (by omega) hp (by omega) (by omega) (fun k hk => by rw [hl _ (by omega), hl (p + k) (by omega)])
  omega
theorem ok_byte (n b : Int) : OkT n (b, 0, 0) := .inl ⟨rfl, rfl⟩
/-- A byte alone, where nothing was found. -/
theorem FdTo.byte {zs : List Int} {p : Nat} {xs : List Tk} (h : FdTo zs p xs) (hz : ∀ i, 0 ≤ ln zs i ∧ ln zs i ≤ 255) (hp : p < zs.length) {B : Nat} (hr : RunOk zs p 0 B) : FdTo zs (p + 1) (xs ++ [(ln zs p, 0, 0)]) := by
  have ha := h.alen
  have hb := hz p
  have hal : alo (xs ++ [(ln zs p, 0, 0)]) = alo xs ++ [true] := by rw [alo_snoc]; simp [tl]
  refine ⟨h.rt.snoc (ok_byte _ _), h.bt.snoc hb.1 hb.2, ?_, ?_, hp, ?_, ?_⟩
  · rw [tel_snoc, h.tell, take_snoc hp]; simp [tel1]
  · have := h.many; simp; omega
  · intro i hi h1
    rw [hal] at h1 ⊢
    by_cases e : i < p
    · rw [al_left (by omega)] at h1
      rcases h.near i e h1 with h2 | ⟨h2, h3⟩
      · exact .inl h2
      · exact .inr ⟨by omega, by rw [al_left (by omega)]; exact h3⟩
    · obtain rfl : i = p := by omega
      exact .inl hr.none
  · intro hl
    have := h.like hl
    rw [List.length_append, List.length_singleton]
    by_cases hp0 : p = 0
    · subst hp0
      have h0 := h.many
      omega
    · by_cases h3 : p + 3 ≤ zs.length
      · have := hr.like hl (by omega) h3
        omega
      · omega
/-- A run. -/
theorem FdTo.run {zs : List Int} {p : Nat} {xs : List Tk} (h : FdTo zs p xs) {L B : Nat} (hr : RunOk zs p L B) (hL : 0 < L) : FdTo zs (p + L) (xs ++ [(0, (L : Int), (B : Int))]) := by
  have ha := h.alen
  have hR : Run zs p L B := by
    rcases hr.is with h' | h'
    · omega
    · exact h'
  have h3 := hR.l3
  have htl : tl ((0, (L : Int), (B : Int)) : Tk) = (L : Int) := by
    unfold tl
    rw [if_neg (by simp only; omega)]
  have hal : alo (xs ++ [(0, (L : Int), (B : Int))]) = alo xs ++ List.replicate L false := by
    rw [alo_snoc, htl]
    simp
    omega
  refine ⟨h.rt.snoc (by rw [h.sum]; exact hR.ok), h.bt.snoc (by simp) (by simp), ?_, ?_, hR.fit, ?_, ?_⟩
  · rw [tel_snoc, h.tell, hR.tell]
  · have := h.many; simp; omega
  · intro i hi h1
    rw [hal] at h1 ⊢
    by_cases e : i < p
    · rw [al_left (by omega)] at h1
      rcases h.near i e h1 with h2 | ⟨h2, h3⟩
      · exact .inl h2
      · exact .inr ⟨by omega, by rw [al_left (by omega)]; exact h3⟩
    · rw [al_right (by omega), al_rep _ (by omega)] at h1
      cases h1
  · intro hl
    have := h.like hl
    have hb := hR.bp
    have hb1 := hR.b1
    have hfit := hR.fit
    have hk := hr.like hl (by omega) (by omega)
    have h258 := hR.l258
    rw [List.length_append, List.length_singleton]
    omega
/-- A byte that waits for a longer run. -/
theorem FdTo.wait {zs : List Int} {p : Nat} {xs : List Tk} (h : FdTo zs p xs) (hz : ∀ i, 0 ≤ ln zs i ∧ ln zs i ≤ 255) {L B L2 B2 : Nat} (hr : RunOk zs p L B) (hL : 0 < L) (hr2 : RunOk zs (p + 1) L2 B2) (hL2 : L < L2) : FdTo zs (p + 1 + L2) (xs ++ [(ln zs p, 0, 0)] ++ [(0, (L2 : Int), (B2 : Int))]) := by
  have ha := h.alen
  have hb := hz p
  have hR : Run zs p L B := by
    rcases hr.is with h' | h'
    · omega
    · exact h'
  have hR2 : Run zs (p + 1) L2 B2 := by
    rcases hr2.is with h' | h'
    · omega
    · exact h'
  have h3 := hR2.l3
  have hfit := hR2.fit
  have hrt : Rt (xs ++ [(ln zs p, 0, 0)]) := h.rt.snoc (ok_byte _ _)
  have htl : tl ((0, (L2 : Int), (B2 : Int)) : Tk) = (L2 : Int) := by
    unfold tl
    rw [if_neg (by simp only; omega)]
  have hal : alo (xs ++ [(ln zs p, 0, 0)] ++ [(0, (L2 : Int), (B2 : Int))]) = alo xs ++ [true] ++ List.replicate L2 false := by
    rw [alo_snoc, alo_snoc, htl]
    simp [tl]
    omega
  have htell : tel (xs ++ [(ln zs p, 0, 0)]) = zs.take (p + 1) := by
    rw [tel_snoc, h.tell, take_snoc (by omega)]; simp [tel1]
  have hal1 : (alo xs ++ [true]).length = p + 1 := by simp; omega
  refine ⟨hrt.snoc (by rw [← tel_length hrt, htell, List.length_take, Nat.min_eq_left (by omega)]; exact hR2.ok), (h.bt.snoc hb.1 hb.2).snoc (by simp) (by simp), ?_, ?_, hfit, ?_, ?_⟩
  · rw [tel_snoc, htell, hR2.tell]
  · have := h.many; simp; omega
  · intro i hi h1
    rw [hal] at h1 ⊢
    by_cases e : i < p
    · rw [al_left (by rw [hal1]; omega), al_left (by omega)] at h1
      rcases h.near i e h1 with h2 | ⟨h2, h3⟩
      · exact .inl h2
      · exact .inr ⟨by omega, by rw [al_left (by rw [hal1]; omega), al_left (by omega)]; exact h3⟩
    · by_cases e2 : i = p
      · subst e2
        refine .inr ⟨by omega, ?_⟩
        rw [al_right (by rw [hal1]; exact Nat.le_refl _), hal1, al_rep _ (by omega)]
      · rw [al_right (by rw [hal1]; omega), al_rep _ (by rw [hal1]; omega)] at h1
        cases h1
  · intro hl
    have := hR.bp
    have := hR.b1
    have hk := hr.like hl (by omega) (by omega)
    have := hR2.l258
    omega
end Go.Proofs.Ytofcpnehnpopaaa
