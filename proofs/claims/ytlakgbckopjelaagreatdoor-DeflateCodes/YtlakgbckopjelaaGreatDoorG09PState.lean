/- Several texts, laid together: PSpec, MMath, DMarks, PState. -/
import Derived.Test.YtlakgbckopjelaaGreatDoorG08ILens
import Derived.Test.YtlakgbckopjelaaGreatDoorG00Read
import Derived.Test.YtlakgbckopjelaaGreatDoorG05WriteMore
import Derived.Test.YtlakgbckopjelaaGreatDoorG04HNext
import Derived.Test.YtlakgbckopjelaaGreatDoorG02HMath
import Derived.Handy
/- A run's length and distance, as plain functions; how one symbol of the data goes on. No Go text in sight. -/
namespace Go.Proofs.YtlakgbckopjelaaGreatDoor
set_option maxRecDepth 100000

/-- A run's length; its distance; the run. -/
def iLong (b : Nat → Nat) (T q v : Nat) : Except Int (Nat × Nat) := if 285 < v then .error 63 else iThen (iTk b T q (iLx v)) fun q x => .ok (q, iLb v + x)
noncomputable def iBack (D : List Int) (b : Nat → Nat) (T q : Nat) : Except Int (Nat × Nat) := iThen (iNx D b T q) fun q w => if 29 < w then .error 63 else iThen (iTk b T q (iDx w)) fun q x => .ok (q, iDb w + x)
noncomputable def iRun (D : List Int) (b : Nat → Nat) (T most q v : Nat) (out : List Int) : Except Int (Nat × List Int) :=
  iThen (iLong b T q v) fun q n => iThen (iBack D b T q) fun q d => if out.length < d then .error 64 else if most < out.length + n then .error 65 else .ok (q, iCpy out d n)
def iOn (r : Except Int (Nat × List Int)) : Except Int (Nat × (Bool × List Int)) := iThen r fun q o => .ok (q, (true, o))
theorem iRun_eq (D : List Int) (b : Nat → Nat) (T most q v : Nat) (out : List Int) :
    iOn (iRun D b T most q v out) = if 285 < v then .error 63
      else iThen (iTk b T q (iLx v)) fun q more => iThen (iNx D b T q) fun q w =>
    if 29 < w then .error 63 else iThen (iTk b T q (iDx w)) fun q away =>
    if out.length < iDb w + away then .error 64 else if most < out.length + (iLb v + more) then .error 65
    else .ok (q, (true, iCpy out (iDb w + away) (iLb v + more))) := by
  unfold iOn iRun iLong iBack
  by_cases h1 : 285 < v
  · rw [if_pos h1, if_pos h1]; rfl
  · rw [if_neg h1, if_neg h1]
    cases iTk b T q (iLx v) with
    | error e => rfl
    | ok x =>
      obtain ⟨q1, more⟩ := x
      simp only [iThen]
      cases iNx D b T q1 with
      | error e => rfl
      | ok x =>
        obtain ⟨q2, w⟩ := x
        simp only
        by_cases h2 : 29 < w
        · rw [if_pos h2, if_pos h2]
        · rw [if_neg h2, if_neg h2]
          cases iTk b T q2 (iDx w) with
          | error e => rfl
          | ok x =>
            obtain ⟨q3, away⟩ := x
            simp only
            by_cases h3 : out.length < iDb w + away
            · rw [if_pos h3, if_pos h3]
            · rw [if_neg h3, if_neg h3]
              by_cases h4 : most < out.length + (iLb v + more)
              · rw [if_pos h4, if_pos h4]
              · rw [if_neg h4, if_neg h4]
/-- One symbol of the data, by what it is. -/
theorem iOne_err {S D : List Int} {b : Nat → Nat} {T most p : Nat} {out : List Int} {e : Int} (h : iNx S b T p = .error e) : iOne S D b T most p out = .error e := by unfold iOne; rw [iThen_of_err h]
theorem iOne_byte {S D : List Int} {b : Nat → Nat} {T most p q v : Nat} {out : List Int} (h : iNx S b T p = .ok (q, v)) (hv : v < 256) (ho : out.length < most) : iOne S D b T most p out = .ok (q, (true, out ++ [(v : Int)])) := by
  unfold iOne; rw [iThen_of_ok h, if_pos hv, if_neg (by omega)]
theorem iOne_over {S D : List Int} {b : Nat → Nat} {T most p q v : Nat} {out : List Int} (h : iNx S b T p = .ok (q, v)) (hv : v < 256) (ho : most ≤ out.length) : iOne S D b T most p out = .error 65 := by
  unfold iOne; rw [iThen_of_ok h, if_pos hv, if_pos (by omega)]
theorem iOne_end {S D : List Int} {b : Nat → Nat} {T most p q : Nat} {out : List Int} (h : iNx S b T p = .ok (q, 256)) : iOne S D b T most p out = .ok (q, (false, out)) := by
  unfold iOne; rw [iThen_of_ok h, if_neg (by decide), if_pos rfl]
theorem iOne_run {S D : List Int} {b : Nat → Nat} {T most p q v : Nat} {out : List Int} (h : iNx S b T p = .ok (q, v)) (hv : 256 < v) : iOne S D b T most p out = iOn (iRun D b T most q v out) := by
  rw [iRun_eq]; unfold iOne; rw [iThen_of_ok h, if_neg (by omega), if_neg (by omega)]
theorem iCpy_length' (out : List Int) (d n : Nat) : (iCpy out d n).length = out.length + n := by
  induction n generalizing out with
  | zero => rfl
  | succ n ih => rw [iCpy, ih]; simp; omega
theorem iCpy_succ (out : List Int) (d n : Nat) : iCpy out d (n + 1) = iCpy out d n ++ [ln (iCpy out d n) (out.length + n - d)] := by
  induction n generalizing out with
  | zero => rfl
  | succ n ih =>
    rw [iCpy, ih, iCpy]
    congr 3
    simp; omega
/-- What is read is a code's symbol. -/
theorem iNx_lt {ls : List Int} {b : Nat → Nat} {T p q v : Nat} (h : iNx ls b T p = .ok (q, v)) : v < ls.length ∧ p < q := by
  obtain ⟨n, rfl, hh⟩ := iNx_got h
  exact ⟨hh.2.1, by have := hh.2.2.1; omega⟩
theorem iTk_lt {b : Nat → Nat} (hb : ∀ i, b i ≤ 1) {T p n q v : Nat} (h : iTk b T p n = .ok (q, v)) : v < 2 ^ n := by
  rw [(iTk_got h).2.2]; exact iNum_lt hb p n
theorem iLong_err {b : Nat → Nat} {T q v : Nat} (h : 285 < v) : iLong b T q v = .error 63 := if_pos h
theorem iLong_is {b : Nat → Nat} {T q v n k : Nat} (h : v ≤ 285) (hn : iLx v = n) (hk : iLb v = k) : iLong b T q v = iThen (iTk b T q n) fun q x => .ok (q, k + x) := by
  unfold iLong; rw [if_neg (by omega), hn, hk]
/-- How long a run is at the most. -/
theorem iLb_le : ∀ v, v ≤ 285 → iLb v ≤ 258 := by decide
theorem iLx_le : ∀ v, v ≤ 285 → iLx v ≤ 5 := by decide
theorem iDb_le : ∀ v, v ≤ 29 → iDb v ≤ 24577 := by decide
theorem iDx_le : ∀ v, v ≤ 29 → iDx v ≤ 13 := by decide
theorem iRun_le {D : List Int} {b : Nat → Nat} {T most q v : Nat} {out : List Int} {q' : Nat} {o : List Int} (h : iRun D b T most q v out = .ok (q', o)) : o.length ≤ most := by
  unfold iRun at h
  obtain ⟨q1, n, _, h⟩ := iThen_ok h
  obtain ⟨q2, d, _, h⟩ := iThen_ok h
  split at h
  · cases h
  · split at h
    · cases h
    · cases h
      rw [iCpy_length']; omega
end Go.Proofs.YtlakgbckopjelaaGreatDoor

/- Tokens and what they tell; runs; chains of places: of no program. -/
namespace Go.Proofs.YtlakgbckopjelaaGreatDoor.M
set_option maxRecDepth 100000
open Go Go.RowKit

theorem hide {p : Prop} (h : p) : Hid p := h
/-- A number of a list. -/
def ln (xs : List Int) (i : Nat) : Int := xs.getD i 0
theorem ln_in {xs : List Int} {i : Nat} (h : i < xs.length) : ln xs i = xs[i] := by simp [ln, List.getD, h]
theorem ln_take {A : List Int} {t i : Nat} (h : i < t) : ln (A.take t) i = ln A i := by simp [ln, List.getD, h]
theorem take_snoc {A : List Int} {p : Nat} (h : p < A.length) : A.take (p + 1) = A.take p ++ [ln A p] := by
  rw [List.take_succ_eq_append_getElem h, ln_in h]

/-- A token: its byte, how long it is, how far back it goes. -/
abbrev Tk := Int × Int × Int
def tk (xs : List Tk) (i : Nat) : Tk := xs.getD i (0, 0, 0)
theorem tk_in {xs : List Tk} {i : Nat} (h : i < xs.length) : tk xs i = xs[i] := by simp [tk, List.getD, h]
theorem tk_left {A B : List Tk} {i : Nat} (h : i < A.length) : tk (A ++ B) i = tk A i := by simp [tk, List.getD, List.getElem?_append_left h]
theorem tk_last (A : List Tk) (t : Tk) : tk (A ++ [t]) A.length = t := by simp [tk, List.getD]
theorem tk_take_snoc {A : List Tk} {p : Nat} (h : p < A.length) : A.take (p + 1) = A.take p ++ [tk A p] := by
  rw [List.take_succ_eq_append_getElem h, tk_in h]
/-- How many bytes a token tells. -/
def tl (t : Tk) : Int := if t.2.1 = 0 then 1 else t.2.1
/-- A token that may be behind so many bytes. -/
def OkT (ahead : Int) (t : Tk) : Prop := (t.2.1 = 0 ∧ t.2.2 = 0) ∨ (t.1 = 0 ∧ 3 ≤ t.2.1 ∧ t.2.1 ≤ 258 ∧ 1 ≤ t.2.2 ∧ t.2.2 ≤ 32768 ∧ t.2.2 ≤ ahead)
instance (n : Int) (t : Tk) : Decidable (OkT n t) := by unfold OkT; exact inferInstance
theorem OkT.tl {n : Int} {t : Tk} (h : OkT n t) : 1 ≤ tl t ∧ tl t ≤ 258 := by
  unfold Go.Proofs.YtlakgbckopjelaaGreatDoor.M.tl
  rcases h with h | h
  · rw [if_pos h.1]; omega
  · rw [if_neg (by omega)]; omega
/-- What tokens tell together. -/
def sm (xs : List Tk) : Int := (xs.map tl).sum
theorem sm_snoc (xs : List Tk) (t : Tk) : sm (xs ++ [t]) = sm xs + tl t := by simp [sm]
/-- Tokens that may be, as far as the first i are asked. -/
def RtTo (xs : List Tk) (i : Nat) : Prop := ∀ j, j < i → OkT (sm (xs.take j)) (tk xs j)
def Rt (xs : List Tk) : Prop := RtTo xs xs.length
theorem RtTo.zero (xs : List Tk) : RtTo xs 0 := fun j h => by omega
theorem RtTo.succ {xs : List Tk} {i : Nat} (h : RtTo xs i) (k : OkT (sm (xs.take i)) (tk xs i)) : RtTo xs (i + 1) := fun j hj => by
  rcases Nat.lt_or_ge j i with h' | h'
  · exact h j h'
  · obtain rfl : j = i := by omega
    exact k
theorem RtTo.sum {xs : List Tk} {i : Nat} (h : RtTo xs i) (hi : i ≤ xs.length) : (i : Int) ≤ sm (xs.take i) ∧ sm (xs.take i) ≤ 258 * (i : Int) := by
  induction i with
  | zero => simp [sm]
  | succ i ih =>
    have := ih (fun j hj => h j (by omega)) (by omega)
    have h2 := (h i (by omega)).tl
    rw [tk_take_snoc (by omega), sm_snoc]
    omega
theorem Rt.snoc {xs : List Tk} (h : Rt xs) {t : Tk} (k : OkT (sm xs) t) : Rt (xs ++ [t]) := by
  intro j hj
  simp at hj
  rcases Nat.lt_or_ge j xs.length with h' | h'
  · rw [tk_left h', List.take_append_of_le_length (by omega)]; exact h j h'
  · obtain rfl : j = xs.length := by omega
    rw [tk_last, List.take_left']
    · exact k
    · rfl
theorem Rt.sum {xs : List Tk} (h : Rt xs) : (xs.length : Int) ≤ sm xs ∧ sm xs ≤ 258 * (xs.length : Int) := by
  have := RtTo.sum h (Nat.le_refl _)
  rwa [List.take_length] at this
theorem Rt.of_app {xs ys : List Tk} (h : Rt (xs ++ ys)) : Rt xs := fun j hj => by
  have := h j (by simp; omega)
  rwa [tk_left hj, List.take_append_of_le_length (by omega)] at this
theorem Rt.nil : Rt [] := fun j hj => by simp at hj

/-- Bytes told once more, one by one. -/
def cpy (out : List Int) (d : Nat) : Nat → List Int
  | 0 => out
  | n + 1 => cpy out d n ++ [ln (cpy out d n) ((cpy out d n).length - d)]
theorem cpy_length (out : List Int) (d n : Nat) : (cpy out d n).length = out.length + n := by
  induction n with
  | zero => rfl
  | succ n ih => simp only [cpy, List.length_append, List.length_singleton, ih]; omega
theorem cpy_mem {out : List Int} (h : ∀ x ∈ out, 0 ≤ x ∧ x ≤ 255) (d n : Nat) : ∀ x ∈ cpy out d n, 0 ≤ x ∧ x ≤ 255 := by
  induction n with
  | zero => exact h
  | succ n ih =>
    intro x hx
    rw [cpy] at hx
    rcases List.mem_append.1 hx with hx | hx
    · exact ih x hx
    · simp at hx
      subst hx
      unfold ln List.getD
      cases e : (cpy out d n)[(cpy out d n).length - d]? with
      | none => simp
      | some y => exact ih y (List.mem_of_getElem? e)
def tel1 (out : List Int) (t : Tk) : List Int := if t.2.1 = 0 then out ++ [t.1] else cpy out t.2.2.toNat t.2.1.toNat
/-- What tokens tell. -/
def tel (xs : List Tk) : List Int := xs.foldl tel1 []
theorem tel_snoc (xs : List Tk) (t : Tk) : tel (xs ++ [t]) = tel1 (tel xs) t := by simp [tel]
theorem tel1_length (out : List Int) {n : Int} {t : Tk} (h : OkT n t) : ((tel1 out t).length : Int) = out.length + tl t := by
  unfold tel1 tl
  rcases h with h | h
  · rw [if_pos h.1, if_pos h.1]; simp
  · rw [if_neg (by omega), if_neg (by omega), cpy_length]; omega
theorem tel_to {xs : List Tk} {i : Nat} (h : RtTo xs i) (hi : i ≤ xs.length) : ((tel (xs.take i)).length : Int) = sm (xs.take i) := by
  induction i with
  | zero => simp [tel, sm]
  | succ i ih =>
    rw [tk_take_snoc (by omega), tel_snoc, sm_snoc, tel1_length _ (h i (by omega)), ih (fun j hj => h j (by omega)) (by omega)]
theorem tel_length {xs : List Tk} (h : Rt xs) : ((tel xs).length : Int) = sm xs := by
  have := tel_to h (Nat.le_refl _)
  rwa [List.take_length] at this
/-- Tokens whose bytes are bytes. -/
def Bt (xs : List Tk) : Prop := ∀ i, 0 ≤ (tk xs i).1 ∧ (tk xs i).1 ≤ 255
theorem Bt.take {xs : List Tk} (h : Bt xs) (i : Nat) : ∀ x ∈ tel (xs.take i), 0 ≤ x ∧ x ≤ 255 := by
  induction i with
  | zero => intro x hx; simp [tel] at hx
  | succ i ih =>
    by_cases hi : i < xs.length
    · rw [tk_take_snoc hi, tel_snoc]
      unfold tel1
      split
      · intro x hx
        rcases List.mem_append.1 hx with hx | hx
        · exact ih x hx
        · simp at hx; subst hx; exact h i
      · exact cpy_mem ih _ _
    · rw [List.take_of_length_le (by omega)]
      rw [List.take_of_length_le (by omega)] at ih
      exact ih
theorem Bt.mem {xs : List Tk} (h : Bt xs) : ∀ x ∈ tel xs, 0 ≤ x ∧ x ≤ 255 := by
  have := h.take xs.length
  rwa [List.take_length] at this

/-- A run of the data at a place. -/
structure Run (zs : List Int) (p : Nat) (L B : Nat) : Prop where
  l3 : 3 ≤ L
  l258 : L ≤ 258
  b1 : 1 ≤ B
  bw : B ≤ 32768
  bp : B ≤ p
  fit : p + L ≤ zs.length
  same : ∀ k, k < L → ln zs (p - B + k) = ln zs (p + k)
theorem cpy_run {zs : List Int} {p B : Nat} (hB1 : 1 ≤ B) (hB : B ≤ p) : ∀ L, p + L ≤ zs.length → (∀ k, k < L → ln zs (p - B + k) = ln zs (p + k)) → cpy (zs.take p) B L = zs.take (p + L) := by
  intro L
  induction L with
  | zero => intro _ _; rfl
  | succ L ih =>
    intro h1 h2
    have i := ih (by omega) (fun k hk => h2 k (by omega))
    rw [cpy, i, List.length_take, Nat.min_eq_left (by omega), ← Nat.add_assoc, take_snoc (by omega), ln_take (by omega)]
    rw [show p + L - B = p - B + L by omega, h2 L (by omega)]
theorem Run.tell {zs : List Int} {p L B : Nat} (h : Run zs p L B) : tel1 (zs.take p) (0, (L : Int), (B : Int)) = zs.take (p + L) := by
  unfold tel1
  have := h.l3
  rw [if_neg (by simp only; omega)]
  exact cpy_run h.b1 h.bp L h.fit h.same
theorem Run.ok {zs : List Int} {p L B : Nat} (h : Run zs p L B) : OkT (p : Int) (0, (L : Int), (B : Int)) := by
  have := h.l3; have := h.l258; have := h.b1; have := h.bw; have := h.bp
  refine .inr ⟨rfl, ?_, ?_, ?_, ?_, ?_⟩ <;> simp only <;> omega
/-- What is found for a place: nothing that is near is overlooked. -/
structure RunOk (zs : List Int) (p : Nat) (L B : Nat) : Prop where
  is : (L = 0 ∧ B = 0) ∨ Run zs p L B
  near : ∀ b n, 1 ≤ b → b ≤ 64 → b ≤ p → p + n ≤ zs.length → n ≤ 258 → (∀ k, k < n → ln zs (p - b + k) = ln zs (p + k)) → n ≤ 2 ∨ n ≤ L

/-- Three bytes begin here that begin a little ahead, too. -/
def Nr (zs : List Int) (p : Nat) : Prop := ∃ b, 1 ≤ b ∧ b ≤ 64 ∧ b ≤ p ∧ p + 3 ≤ zs.length ∧ ln zs p = ln zs (p - b) ∧ ln zs (p + 1) = ln zs (p + 1 - b) ∧ ln zs (p + 2) = ln zs (p + 2 - b)
theorem RunOk.none {zs : List Int} {p B : Nat} (h : RunOk zs p 0 B) : ¬ Nr zs p := by
  rintro ⟨b, h1, h2, h3, h4, e0, e1, e2⟩
  have := h.near b 3 h1 h2 h3 h4 (by omega) (fun k hk => by
    have : k = 0 ∨ k = 1 ∨ k = 2 := by omega
    rcases this with rfl | rfl | rfl
    · simpa using e0.symm
    · rw [show p - b + 1 = p + 1 - b by omega]; exact e1.symm
    · rw [show p - b + 2 = p + 2 - b by omega]; exact e2.symm)
  omega
/-- Which places are told by a byte alone. -/
def alo (xs : List Tk) : List Bool := xs.flatMap fun t => List.replicate (tl t).toNat (decide (t.2.1 = 0))
theorem alo_snoc (xs : List Tk) (t : Tk) : alo (xs ++ [t]) = alo xs ++ List.replicate (tl t).toNat (decide (t.2.1 = 0)) := by simp [alo]
theorem alo_to {xs : List Tk} {i : Nat} (h : RtTo xs i) (hi : i ≤ xs.length) : ((alo (xs.take i)).length : Int) = sm (xs.take i) := by
  induction i with
  | zero => simp [alo, sm]
  | succ i ih =>
    have h2 := (h i (by omega)).tl
    rw [tk_take_snoc (by omega), alo_snoc, sm_snoc, List.length_append, List.length_replicate]
    have := ih (fun j hj => h j (by omega)) (by omega)
    omega
theorem alo_length {xs : List Tk} (h : Rt xs) : ((alo xs).length : Int) = sm xs := by
  have := alo_to h (Nat.le_refl _)
  rwa [List.take_length] at this
def al (bs : List Bool) (i : Nat) : Bool := bs.getD i false
theorem al_left {A B : List Bool} {i : Nat} (h : i < A.length) : al (A ++ B) i = al A i := by simp [al, List.getD, List.getElem?_append_left h]
theorem al_right {A B : List Bool} {i : Nat} (h : A.length ≤ i) : al (A ++ B) i = al B (i - A.length) := by simp [al, List.getD, List.getElem?_append_right h]
theorem al_rep {n i : Nat} (b : Bool) (h : i < n) : al (List.replicate n b) i = b := by simp [al, List.getD, h]

/-- As far as data is made tokens of. -/
structure FdTo (zs : List Int) (p : Nat) (xs : List Tk) : Prop where
  rt : Rt xs
  bt : Bt xs
  tell : tel xs = zs.take p
  many : xs.length ≤ p
  le : p ≤ zs.length
  near : ∀ i, i < p → al (alo xs) i = true → ¬ Nr zs i ∨ (i + 1 < p ∧ al (alo xs) (i + 1) = false)
  like : (∀ i, i < zs.length → ln zs i = ln zs 0) → xs.length ≤ (p + 516) / 258 + (p - (zs.length - 2))
theorem FdTo.sum {zs : List Int} {p : Nat} {xs : List Tk} (h : FdTo zs p xs) : sm xs = (p : Int) := by
  rw [← tel_length h.rt, h.tell, List.length_take, Nat.min_eq_left h.le]
theorem FdTo.alen {zs : List Int} {p : Nat} {xs : List Tk} (h : FdTo zs p xs) : (alo xs).length = p := by
  have := alo_length h.rt
  rw [h.sum] at this
  omega
theorem Bt.nil : Bt [] := fun i => by simp [tk]
theorem Bt.snoc {xs : List Tk} {t : Tk} (h : Bt xs) (h0 : 0 ≤ t.1) (h1 : t.1 ≤ 255) : Bt (xs ++ [t]) := fun i => by
  rcases Nat.lt_or_ge i xs.length with h' | h'
  · rw [tk_left h']; exact h i
  · by_cases e : i = xs.length
    · subst e; rw [tk_last]; exact ⟨h0, h1⟩
    · unfold tk List.getD
      rw [List.getElem?_eq_none (by simp; omega)]
      simp
theorem FdTo.start (zs : List Int) : FdTo zs 0 [] := ⟨Rt.nil, Bt.nil, by simp [tel], Nat.zero_le _, Nat.zero_le _, fun i hi => by omega, fun _ => by simp⟩
/-- Of like bytes the whole rest is a run, but at the first place. -/
theorem RunOk.like {zs : List Int} {p L B : Nat} (h : RunOk zs p L B) (hl : ∀ i, i < zs.length → ln zs i = ln zs 0) (hp : 1 ≤ p) (h3 : p + 3 ≤ zs.length) : min (zs.length - p) 258 ≤ L := by
  have := h.near 1 (min (zs.length - p) 258) (by omega) (by omega) hp (by omega) (by omega) (fun k hk => by rw [hl _ (by omega), hl (p + k) (by omega)])
  omega
theorem ok_byte (n b : Int) : OkT n (b, 0, 0) := .inl ⟨rfl, rfl⟩
/-- A byte alone, where nothing was found. -/
theorem FdTo.byte {zs : List Int} {p : Nat} {xs : List Tk} (h : FdTo zs p xs) (hz : ∀ i, 0 ≤ ln zs i ∧ ln zs i ≤ 255) (hp : p < zs.length) {B : Nat} (hr : RunOk zs p 0 B) : FdTo zs (p + 1) (xs ++ [(ln zs p, 0, 0)]) := by
  have ha := h.alen
  have hb := hz p
  have hal : alo (xs ++ [(ln zs p, 0, 0)]) = alo xs ++ [true] := by rw [alo_snoc]; simp [tl]
  refine ⟨h.rt.snoc (ok_byte _ _), h.bt.snoc hb.1 hb.2, ?_, ?_, hp, ?_, ?_⟩
  · rw [tel_snoc, h.tell, take_snoc hp]; simp [tel1]
  · have := h.many; simp; omega
  · intro i hi h1
    rw [hal] at h1 ⊢
    by_cases e : i < p
    · rw [al_left (by omega)] at h1
      rcases h.near i e h1 with h2 | ⟨h2, h3⟩
      · exact .inl h2
      · exact .inr ⟨by omega, by rw [al_left (by omega)]; exact h3⟩
    · obtain rfl : i = p := by omega
      exact .inl hr.none
  · intro hl
    have := h.like hl
    rw [List.length_append, List.length_singleton]
    by_cases hp0 : p = 0
    · subst hp0
      have h0 := h.many
      omega
    · by_cases h3 : p + 3 ≤ zs.length
      · have := hr.like hl (by omega) h3
        omega
      · omega
/-- A run. -/
theorem FdTo.run {zs : List Int} {p : Nat} {xs : List Tk} (h : FdTo zs p xs) {L B : Nat} (hr : RunOk zs p L B) (hL : 0 < L) : FdTo zs (p + L) (xs ++ [(0, (L : Int), (B : Int))]) := by
  have ha := h.alen
  have hR : Run zs p L B := by
    rcases hr.is with h' | h'
    · omega
    · exact h'
  have h3 := hR.l3
  have htl : tl ((0, (L : Int), (B : Int)) : Tk) = (L : Int) := by
    unfold tl
    rw [if_neg (by simp only; omega)]
  have hal : alo (xs ++ [(0, (L : Int), (B : Int))]) = alo xs ++ List.replicate L false := by
    rw [alo_snoc, htl]
    simp
    omega
  refine ⟨h.rt.snoc (by rw [h.sum]; exact hR.ok), h.bt.snoc (by simp) (by simp), ?_, ?_, hR.fit, ?_, ?_⟩
  · rw [tel_snoc, h.tell, hR.tell]
  · have := h.many; simp; omega
  · intro i hi h1
    rw [hal] at h1 ⊢
    by_cases e : i < p
    · rw [al_left (by omega)] at h1
      rcases h.near i e h1 with h2 | ⟨h2, h3⟩
      · exact .inl h2
      · exact .inr ⟨by omega, by rw [al_left (by omega)]; exact h3⟩
    · rw [al_right (by omega), al_rep _ (by omega)] at h1
      cases h1
  · intro hl
    have := h.like hl
    have hb := hR.bp
    have hb1 := hR.b1
    have hfit := hR.fit
    have hk := hr.like hl (by omega) (by omega)
    have h258 := hR.l258
    rw [List.length_append, List.length_singleton]
    omega
/-- A byte that waits for a longer run. -/
theorem FdTo.wait {zs : List Int} {p : Nat} {xs : List Tk} (h : FdTo zs p xs) (hz : ∀ i, 0 ≤ ln zs i ∧ ln zs i ≤ 255) {L B L2 B2 : Nat} (hr : RunOk zs p L B) (hL : 0 < L) (hr2 : RunOk zs (p + 1) L2 B2) (hL2 : L < L2) : FdTo zs (p + 1 + L2) (xs ++ [(ln zs p, 0, 0)] ++ [(0, (L2 : Int), (B2 : Int))]) := by
  have ha := h.alen
  have hb := hz p
  have hR : Run zs p L B := by
    rcases hr.is with h' | h'
    · omega
    · exact h'
  have hR2 : Run zs (p + 1) L2 B2 := by
    rcases hr2.is with h' | h'
    · omega
    · exact h'
  have h3 := hR2.l3
  have hfit := hR2.fit
  have hrt : Rt (xs ++ [(ln zs p, 0, 0)]) := h.rt.snoc (ok_byte _ _)
  have htl : tl ((0, (L2 : Int), (B2 : Int)) : Tk) = (L2 : Int) := by
    unfold tl
    rw [if_neg (by simp only; omega)]
  have hal : alo (xs ++ [(ln zs p, 0, 0)] ++ [(0, (L2 : Int), (B2 : Int))]) = alo xs ++ [true] ++ List.replicate L2 false := by
    rw [alo_snoc, alo_snoc, htl]
    simp [tl]
    omega
  have htell : tel (xs ++ [(ln zs p, 0, 0)]) = zs.take (p + 1) := by
    rw [tel_snoc, h.tell, take_snoc (by omega)]; simp [tel1]
  have hal1 : (alo xs ++ [true]).length = p + 1 := by simp; omega
  refine ⟨hrt.snoc (by rw [← tel_length hrt, htell, List.length_take, Nat.min_eq_left (by omega)]; exact hR2.ok), (h.bt.snoc hb.1 hb.2).snoc (by simp) (by simp), ?_, ?_, hfit, ?_, ?_⟩
  · rw [tel_snoc, htell, hR2.tell]
  · have := h.many; simp; omega
  · intro i hi h1
    rw [hal] at h1 ⊢
    by_cases e : i < p
    · rw [al_left (by rw [hal1]; omega), al_left (by omega)] at h1
      rcases h.near i e h1 with h2 | ⟨h2, h3⟩
      · exact .inl h2
      · exact .inr ⟨by omega, by rw [al_left (by rw [hal1]; omega), al_left (by omega)]; exact h3⟩
    · by_cases e2 : i = p
      · subst e2
        refine .inr ⟨by omega, ?_⟩
        rw [al_right (by rw [hal1]; exact Nat.le_refl _), hal1, al_rep _ (by omega)]
      · rw [al_right (by rw [hal1]; omega), al_rep _ (by rw [hal1]; omega)] at h1
        cases h1
  · intro hl
    have := hR.bp
    have := hR.b1
    have hk := hr.like hl (by omega) (by omega)
    have := hR2.l258
    omega
end Go.Proofs.YtlakgbckopjelaaGreatDoor.M

/- Marks: symbols with what is left of a number; their bits, and how these are read. Of no program. -/
namespace Go.Proofs.YtlakgbckopjelaaGreatDoor
set_option maxRecDepth 100000
open Go Go.RowKit

/-- A mark: its symbol, what is left, how many further bits. -/
abbrev Mk := Nat × Nat × Nat
def mkB (ls : List Int) (m : Mk) : List Int := rowL (cd ls m.1) (ln ls m.1).toNat ++ bitsN (m.2.1 : Int) m.2.2
theorem mkB_length (ls : List Int) (m : Mk) : (mkB ls m).length = (ln ls m.1).toNat + m.2.2 := by simp [mkB, rowL_length, bitsN_length]

/-- How many bits further: the first place at which the number is below k. -/
def spg (k n : Nat) : Nat → Nat → Nat
  | 0, f => f
  | t + 1, f => if n / 2 ^ f < k then f else spg k n t (f + 1)
theorem spg_is {k n F : Nat} (h2 : n / 2 ^ F < k) : ∀ (t f : Nat), f ≤ F → F < f + t → (∀ g, f ≤ g → g < F → k ≤ n / 2 ^ g) → spg k n t f = F := by
  intro t
  induction t with
  | zero => intro f h h' _; omega
  | succ t ih =>
    intro f h h' hg
    unfold spg
    by_cases e : f = F
    · subst e; rw [if_pos h2]
    · have := hg f (Nat.le_refl _) (by omega)
      rw [if_neg (by omega)]
      exact ih (f + 1) (by omega) (by omega) (fun g h1 h3 => hg g (by omega) h3)
def spf (k n : Nat) : Nat := spg k n 20 0
theorem spf_is {k n F : Nat} (hF : F < 20) (h2 : n / 2 ^ F < k) (h1 : ∀ g, g < F → k ≤ n / 2 ^ g) : spf k n = F := spg_is h2 20 0 (Nat.zero_le _) (by omega) (fun g _ h => h1 g h)
/-- A number, parted. -/
def spl (fine n : Nat) : Mk := (spf (2 * 2 ^ fine) n * 2 ^ fine + n / 2 ^ spf (2 * 2 ^ fine) n, n % 2 ^ spf (2 * 2 ^ fine) n, spf (2 * 2 ^ fine) n)
/-- A run's length; its distance. -/
def lmk (l : Nat) : Mk := if l = 258 then (285, 0, 0) else (257 + (spl 2 (l - 3)).1, (spl 2 (l - 3)).2)
def bmk (d : Nat) : Mk := spl 1 (d - 1)
theorem lmk_ok (l : Nat) (h : 3 ≤ l ∧ l ≤ 258) : 257 ≤ (lmk l).1 ∧ (lmk l).1 ≤ 285 ∧ iLx (lmk l).1 = (lmk l).2.2 ∧ iLb (lmk l).1 + (lmk l).2.1 = l ∧ (lmk l).2.1 < 2 ^ (lmk l).2.2 ∧ (lmk l).2.2 ≤ 5 := by
  have key : ∀ x : Fin 256, 257 ≤ (lmk (x.val + 3)).1 ∧ (lmk (x.val + 3)).1 ≤ 285 ∧ iLx (lmk (x.val + 3)).1 = (lmk (x.val + 3)).2.2 ∧ iLb (lmk (x.val + 3)).1 + (lmk (x.val + 3)).2.1 = x.val + 3 ∧ (lmk (x.val + 3)).2.1 < 2 ^ (lmk (x.val + 3)).2.2 ∧ (lmk (x.val + 3)).2.2 ≤ 5 := by decide +kernel
  have := key ⟨l - 3, by omega⟩
  simpa only [show l - 3 + 3 = l by omega] using this
theorem spf_lt (n : Nat) (hn : n < 32768) : ∃ F, F ≤ 13 ∧ n / 2 ^ F < 4 ∧ (∀ g, g < F → 4 ≤ n / 2 ^ g) := by
  have key : ∀ t, n / 2 ^ t < 4 → ∃ F, F ≤ t ∧ n / 2 ^ F < 4 ∧ (∀ g, g < F → 4 ≤ n / 2 ^ g) := by
    intro t
    induction t with
    | zero => intro h; exact ⟨0, Nat.le_refl _, h, fun g hg => by omega⟩
    | succ t ih =>
      intro h
      by_cases h4 : n / 2 ^ t < 4
      · obtain ⟨F, h1, h2, h3⟩ := ih h4
        exact ⟨F, by omega, h2, h3⟩
      · refine ⟨t + 1, Nat.le_refl _, h, fun g hg => ?_⟩
        have : n / 2 ^ t ≤ n / 2 ^ g := Nat.div_le_div_left (Nat.pow_le_pow_right (by decide) (by omega)) (Nat.pow_pos (by decide))
        omega
  exact key 13 (by omega)
theorem iD_tab : ∀ w : Fin 30, iDx w.val = [0, 0, 0, 0, 1, 1, 2, 2, 3, 3, 4, 4, 5, 5, 6, 6, 7, 7, 8, 8, 9, 9, 10, 10, 11, 11, 12, 12, 13, 13].getD w.val 0 ∧ iDb w.val = [1, 2, 3, 4, 5, 7, 9, 13, 17, 25, 33, 49, 65, 97, 129, 193, 257, 385, 513, 769, 1025, 1537, 2049, 3073, 4097, 6145, 8193, 12289, 16385, 24577].getD w.val 0 := by decide +kernel
theorem bmk_ok (d : Nat) (h : 1 ≤ d ∧ d ≤ 32768) : (bmk d).1 ≤ 29 ∧ iDx (bmk d).1 = (bmk d).2.2 ∧ iDb (bmk d).1 + (bmk d).2.1 = d ∧ (bmk d).2.1 < 2 ^ (bmk d).2.2 ∧ (bmk d).2.2 ≤ 13 := by
  obtain ⟨n, rfl⟩ : ∃ n, d = n + 1 := ⟨d - 1, by omega⟩
  obtain ⟨F, h1, h2, h3⟩ := spf_lt n (by omega)
  have e := spf_is (k := 4) (by omega) h2 h3
  have hm : bmk (n + 1) = (F * 2 + n / 2 ^ F, n % 2 ^ F, F) := by
    unfold bmk spl
    rw [show n + 1 - 1 = n by omega, show 2 * 2 ^ 1 = 4 from rfl, e]
  rw [hm]
  have hp : 0 < 2 ^ F := Nat.pow_pos (by decide)
  have hml := Nat.mod_lt n hp
  have hdm := Nat.div_add_mod n (2 ^ F)
  have hge : F = 0 ∨ 2 ≤ n / 2 ^ F := by
    rcases Nat.eq_zero_or_pos F with h0 | h0
    · exact .inl h0
    · have := h3 (F - 1) (by omega)
      obtain ⟨G, rfl⟩ : ∃ G, F = G + 1 := ⟨F - 1, by omega⟩
      rw [show G + 1 - 1 = G by omega] at this
      rw [Nat.pow_succ, ← Nat.div_div_eq_div_mul]
      right; omega
  have hq : n / 2 ^ F = 0 ∨ n / 2 ^ F = 1 ∨ n / 2 ^ F = 2 ∨ n / 2 ^ F = 3 := by
    clear hdm hml hge
    generalize n / 2 ^ F = q at h2
    omega
  have hF : F = 0 ∨ F = 1 ∨ F = 2 ∨ F = 3 ∨ F = 4 ∨ F = 5 ∨ F = 6 ∨ F = 7 ∨ F = 8 ∨ F = 9 ∨ F = 10 ∨ F = 11 ∨ F = 12 ∨ F = 13 := by omega
  clear e hm h3 h2
  rcases hF with rfl | rfl | rfl | rfl | rfl | rfl | rfl | rfl | rfl | rfl | rfl | rfl | rfl | rfl <;> rcases hq with hq | hq | hq | hq <;> rw [hq] at hdm hge ⊢ <;> first
    | (exfalso; omega)
    | (simp only
       refine ⟨by decide, by decide, ?_, hml, by decide⟩
       first
         | (rw [show iDb (0 * 2 + 0) = 1 by decide]; omega)
         | (rw [show iDb (0 * 2 + 1) = 2 by decide]; omega)
         | (rw [show iDb (0 * 2 + 2) = 3 by decide]; omega)
         | (rw [show iDb (0 * 2 + 3) = 4 by decide]; omega)
         | (rw [show iDb (1 * 2 + 2) = 5 by decide]; omega)
         | (rw [show iDb (1 * 2 + 3) = 7 by decide]; omega)
         | (rw [show iDb (2 * 2 + 2) = 9 by decide]; omega)
         | (rw [show iDb (2 * 2 + 3) = 13 by decide]; omega)
         | (rw [show iDb (3 * 2 + 2) = 17 by decide]; omega)
         | (rw [show iDb (3 * 2 + 3) = 25 by decide]; omega)
         | (rw [show iDb (4 * 2 + 2) = 33 by decide]; omega)
         | (rw [show iDb (4 * 2 + 3) = 49 by decide]; omega)
         | (rw [show iDb (5 * 2 + 2) = 65 by decide]; omega)
         | (rw [show iDb (5 * 2 + 3) = 97 by decide]; omega)
         | (rw [show iDb (6 * 2 + 2) = 129 by decide]; omega)
         | (rw [show iDb (6 * 2 + 3) = 193 by decide]; omega)
         | (rw [show iDb (7 * 2 + 2) = 257 by decide]; omega)
         | (rw [show iDb (7 * 2 + 3) = 385 by decide]; omega)
         | (rw [show iDb (8 * 2 + 2) = 513 by decide]; omega)
         | (rw [show iDb (8 * 2 + 3) = 769 by decide]; omega)
         | (rw [show iDb (9 * 2 + 2) = 1025 by decide]; omega)
         | (rw [show iDb (9 * 2 + 3) = 1537 by decide]; omega)
         | (rw [show iDb (10 * 2 + 2) = 2049 by decide]; omega)
         | (rw [show iDb (10 * 2 + 3) = 3073 by decide]; omega)
         | (rw [show iDb (11 * 2 + 2) = 4097 by decide]; omega)
         | (rw [show iDb (11 * 2 + 3) = 6145 by decide]; omega)
         | (rw [show iDb (12 * 2 + 2) = 8193 by decide]; omega)
         | (rw [show iDb (12 * 2 + 3) = 12289 by decide]; omega)
         | (rw [show iDb (13 * 2 + 2) = 16385 by decide]; omega)
         | (rw [show iDb (13 * 2 + 3) = 24577 by decide]; omega))

/-- Bits stand at a place. -/
def BAt (b : Nat → Nat) (T p : Nat) (L : List Int) : Prop := p + L.length ≤ T ∧ ∀ i, i < L.length → (b (p + i) : Int) = ln L i
theorem BAt.left {b : Nat → Nat} {T p : Nat} {A B : List Int} (h : BAt b T p (A ++ B)) : BAt b T p A := by
  obtain ⟨h1, h2⟩ := h
  rw [List.length_append] at h1 h2
  exact ⟨by omega, fun i hi => by rw [h2 i (by omega)]; unfold ln; exact getD_left hi⟩
theorem BAt.right {b : Nat → Nat} {T p : Nat} {A B : List Int} (h : BAt b T p (A ++ B)) : BAt b T (p + A.length) B := by
  obtain ⟨h1, h2⟩ := h
  rw [List.length_append] at h1 h2
  refine ⟨by omega, fun i hi => ?_⟩
  rw [Nat.add_assoc, h2 (A.length + i) (by omega)]
  unfold ln
  rw [getD_right (by omega), Nat.add_sub_cancel_left]
theorem BAt.tk {b : Nat → Nat} {T p n x : Nat} (h : BAt b T p (bitsN (x : Int) n)) (hx : x < 2 ^ n) : iTk b T p n = .ok (p + n, x) := by
  obtain ⟨h1, h2⟩ := h
  rw [bitsN_length] at h1 h2
  rw [iTk_ok h1]
  congr 2
  have key : ∀ k, k ≤ n → iNum b p k = x % 2 ^ k := by
    intro k hk
    induction k with
    | zero => simp [iNum, Nat.mod_one]
    | succ k ih =>
      have e := h2 k (by omega)
      unfold ln at e
      rw [bitsN_getD, if_pos (by omega)] at e
      have e' : b (p + k) = x / 2 ^ k % 2 := by
        have : ((x / 2 ^ k % 2 : Nat) : Int) = (x : Int) / 2 ^ k % 2 := by simp
        omega
      rw [iNum, ih (by omega), e', Nat.mod_pow_succ, Nat.mul_comm (2 ^ k)]
  rw [key n (Nat.le_refl _), Nat.mod_eq_of_lt hx]
/-- A symbol that has a code. -/
def Has (ls : List Int) (s : Nat) : Prop := s < ls.length ∧ 1 ≤ ln ls s
theorem BAt.nx {ls : List Int} (hg : Good ls) {b : Nat → Nat} (hb : ∀ i, b i ≤ 1) {T p s : Nat} (hs : Has ls s) (h : BAt b T p (rowL (cd ls s) (ln ls s).toNat)) : iNx ls b T p = .ok (p + (ln ls s).toNat, s) := by
  obtain ⟨h1, h2⟩ := h
  rw [rowL_length] at h1 h2
  have hl := hs.2
  refine iNx_ok hb ⟨by simp only; omega, hs.1, by simp only; omega, by simp only; omega, ?_⟩
  simp only
  have hc := (cd_lt hg.le hg.fit hs.1 hs.2).2
  have := (vl_code (fun i => b (p + i)) (cd ls s) (ln ls s).toNat hc (ln ls s).toNat (Nat.le_refl _)).1 (fun k hk => by
    have e := h2 k hk
    rw [rowL_at _ _ hk] at e
    exact_mod_cast e)
  rw [this.1, Nat.sub_self, Nat.pow_zero, Nat.div_one]
theorem BAt.mark {ls : List Int} (hg : Good ls) {b : Nat → Nat} (hb : ∀ i, b i ≤ 1) {T p : Nat} {m : Mk} (hs : Has ls m.1) (hx : m.2.1 < 2 ^ m.2.2) (h : BAt b T p (mkB ls m)) :
    iNx ls b T p = .ok (p + (ln ls m.1).toNat, m.1) ∧ iTk b T (p + (ln ls m.1).toNat) m.2.2 = .ok (p + (mkB ls m).length, m.2.1) := by
  refine ⟨h.left.nx hg hb hs, ?_⟩
  have h2 := h.right
  rw [rowL_length] at h2
  rw [h2.tk hx, mkB_length, Nat.add_assoc]
end Go.Proofs.YtlakgbckopjelaaGreatDoor

/- The program's stream as it lies in memory, and what its methods answer. -/
namespace Go.Proofs.YtlakgbckopjelaaGreatDoor
set_option maxRecDepth 100000
open Go Go.RowKit

theorem hide {p : Prop} (h : p) : Hid p := h
/-- A stream's cells; a reader's. -/
def fA (br : Nat) (o : Option Addr) (ol oc : Nat) (m : Int) (fc : Value) : Array Value := #[.pointer (some ⟨br, 0, none⟩), .slice o ol oc, .int .i64 m, fc]
def rA (a : Option Addr) (len cap p : Nat) : Array Value := #[.slice a len cap, .int .i64 (p : Int)]
variable {B bs br : Nat} {a : Option Addr} {len cap : Nat} {zs : List Int} {m : Nat} {w w' : World} {p : Nat} {o : Option Addr} {oc : Nat} {fc : Value} {out : List Int}
/-- What a call may write that hands the stream on: the stream, its reader, and the row of what was told. -/
def Mv (bs br : Nat) (ov : Value) (b : Nat) : Prop := b = bs ∨ b = br ∨ ov.ownBlock = some b
theorem Mv.below {bs br : Nat} {ov : Value} {w w' : World} (k : Below w.heap.size w w') : Kept (Mv bs br ov) w w' := (Kept.of_below k).mono fun i hi e => by omega

def NBad (br : Nat) (w : World) (e : Int) (x : Ending) (w' : World) : Prop := x = .returned (.tuple #[.int .i64 0, .int .i64 e]) ∧ Kept (fun b => b = br) w w' ∧ 60 ≤ e ∧ e ≤ 65
def DBad (bs br : Nat) (w : World) (ov : Value) (e : Int) (x : Ending) (w' : World) : Prop := x = .returned (.int .i64 e) ∧ Kept (Mv bs br ov) w w' ∧ 60 ≤ e ∧ e ≤ 65

variable {B bs br : Nat} {a : Option Addr} {len cap : Nat} {zs : List Int} {m : Nat} {fc ov : Value} {w wx wy : World} {p : Nat} {o : Option Addr} {oc : Nat} {out : List Int}

/-- The stream's blocks are none of those from lo up to hi. -/
def Aw (lo hi bs br : Nat) (ov : Value) : Prop := ∀ b, lo ≤ b → b < hi → ¬ Mv bs br ov b
end Go.Proofs.YtlakgbckopjelaaGreatDoor
