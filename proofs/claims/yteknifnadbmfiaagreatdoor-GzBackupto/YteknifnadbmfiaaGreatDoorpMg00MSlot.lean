/- Several texts, laid together: MMath, MTok, MChain, MSlot. -/
import Derived.Test.YteknifnadbmfiaaGreatDoorpAg00Row
import Derived.Deep.WholeRow
import Derived.Deep.MidRow
import Derived.Laws.ResultCell
import Derived.Deep.LoopGhost
import Derived.BigRegion
import Derived.Laws.AppendOwnNone
import Derived.Deep.DeepCutAuto
import Derived.Deep.RegionWith
import Derived.Deep.RegionLaw
import Derived.Handy
/- Tokens and what they tell; runs; chains of places: of no program. -/
namespace Go.Proofs.YteknifnadbmfiaaGreatDoor.M
set_option maxRecDepth 100000
open Go Go.RowKit

theorem hide {p : Prop} (h : p) : Hid p := h
def ln (xs : List Int) (i : Nat) : Int := xs.getD i 0
theorem ln_in {xs : List Int} {i : Nat} (h : i < xs.length) : ln xs i = xs[i] := by simp [ln, List.getD, h]
theorem ln_take {A : List Int} {t i : Nat} (h : i < t) : ln (A.take t) i = ln A i := by simp [ln, List.getD, h]
theorem take_snoc {A : List Int} {p : Nat} (h : p < A.length) : A.take (p + 1) = A.take p ++ [ln A p] := by
 rw [List.take_succ_eq_append_getElem h, ln_in h]

abbrev Tk := Int × Int × Int
def tk (xs : List Tk) (i : Nat) : Tk := xs.getD i (0, 0, 0)
theorem tk_in {xs : List Tk} {i : Nat} (h : i < xs.length) : tk xs i = xs[i] := by simp [tk, List.getD, h]
theorem tk_left {A B : List Tk} {i : Nat} (h : i < A.length) : tk (A ++ B) i = tk A i := by simp [tk, List.getD, List.getElem?_append_left h]
theorem tk_last (A : List Tk) (t : Tk) : tk (A ++ [t]) A.length = t := by simp [tk, List.getD]
theorem tk_take_snoc {A : List Tk} {p : Nat} (h : p < A.length) : A.take (p + 1) = A.take p ++ [tk A p] := by
 rw [List.take_succ_eq_append_getElem h, tk_in h]
def tl (t : Tk) : Int := if t.2.1 = 0 then 1 else t.2.1
def OkT (ahead : Int) (t : Tk) : Prop := (t.2.1 = 0 /\ t.2.2 = 0) \/ (t.1 = 0 /\ 3 <= t.2.1 /\ t.2.1 <= 258 /\ 1 <= t.2.2 /\ t.2.2 <= 32768 /\ t.2.2 <= ahead)
instance (n : Int) (t : Tk) : Decidable (OkT n t) := by unfold OkT; exact inferInstance
theorem OkT.tl {n : Int} {t : Tk} (h : OkT n t) : 1 <= tl t /\ tl t <= 258 := by
 unfold Go.Proofs.YteknifnadbmfiaaGreatDoor.M.tl
 rcases h with h | h
 ·rw [if_pos h.1]; omega
 ·rw [if_neg (by omega)]; omega
def sm (xs : List Tk) : Int := (xs.map tl).sum
theorem sm_snoc (xs : List Tk) (t : Tk) : sm (xs ++ [t]) = sm xs + tl t := by simp [sm]
def RtTo (xs : List Tk) (i : Nat) : Prop := ∀ j, j < i -> OkT (sm (xs.take j)) (tk xs j)
def Rt (xs : List Tk) : Prop := RtTo xs xs.length
theorem RtTo.zero (xs : List Tk) : RtTo xs 0 := fun j h => by omega
theorem RtTo.succ {xs : List Tk} {i : Nat} (h : RtTo xs i) (k : OkT (sm (xs.take i)) (tk xs i)) : RtTo xs (i + 1) := fun j hj => by
 rcases Nat.lt_or_ge j i with h' | h'
 ·exact h j h'
 ·obtain rfl : j = i := by omega
  exact k
theorem RtTo.sum {xs : List Tk} {i : Nat} (h : RtTo xs i) (hi : i <= xs.length) : (i : Int) <= sm (xs.take i) /\ sm (xs.take i) <= 258 * (i : Int) := by
 induction i with
 | zero => simp [sm]
 | succ i ih =>
  have := ih (fun j hj => h j (by omega)) (by omega)
  have h2 := (h i (by omega)).tl
  rw [tk_take_snoc (by omega), sm_snoc]
  omega
theorem Rt.snoc {xs : List Tk} (h : Rt xs) {t : Tk} (k : OkT (sm xs) t) : Rt (xs ++ [t]) := by
 intro j hj
 simp at hj
 rcases Nat.lt_or_ge j xs.length with h' | h'
 ·rw [tk_left h', List.take_append_of_le_length (by omega)]; exact h j h'
 ·obtain rfl : j = xs.length := by omega
  rw [tk_last, List.take_left']
  ·exact k
  ·rfl
theorem Rt.sum {xs : List Tk} (h : Rt xs) : (xs.length : Int) <= sm xs /\ sm xs <= 258 * (xs.length : Int) := by
 have := RtTo.sum h (Nat.le_refl _)
 rwa [List.take_length] at this
theorem Rt.of_app {xs ys : List Tk} (h : Rt (xs ++ ys)) : Rt xs := fun j hj => by
 have := h j (by simp; omega)
 rwa [tk_left hj, List.take_append_of_le_length (by omega)] at this
theorem Rt.nil : Rt [] := fun j hj => by simp at hj

def cpy (out : List Int) (d : Nat) : Nat -> List Int
 | 0 => out
 | n + 1 => cpy out d n ++ [ln (cpy out d n) ((cpy out d n).length - d)]
theorem cpy_length (out : List Int) (d n : Nat) : (cpy out d n).length = out.length + n := by
 induction n with
 | zero => rfl
 | succ n ih => simp only [cpy, List.length_append, List.length_singleton, ih]; omega
theorem cpy_mem {out : List Int} (h : ∀ x ∈ out, 0 <= x /\ x <= 255) (d n : Nat) : ∀ x ∈ cpy out d n, 0 <= x /\ x <= 255 := by
 induction n with
 | zero => exact h
 | succ n ih =>
  intro x hx
  rw [cpy] at hx
  rcases List.mem_append.1 hx with hx | hx
  ·exact ih x hx
  ·simp at hx
   subst hx
   unfold ln List.getD
   cases e : (cpy out d n)[(cpy out d n).length - d]? with
   | none => simp
   | some y => exact ih y (List.mem_of_getElem? e)
def tel1 (out : List Int) (t : Tk) : List Int := if t.2.1 = 0 then out ++ [t.1] else cpy out t.2.2.toNat t.2.1.toNat
def tel (xs : List Tk) : List Int := xs.foldl tel1 []
theorem tel_snoc (xs : List Tk) (t : Tk) : tel (xs ++ [t]) = tel1 (tel xs) t := by simp [tel]
theorem tel1_length (out : List Int) {n : Int} {t : Tk} (h : OkT n t) : ((tel1 out t).length : Int) = out.length + tl t := by
 unfold tel1 tl
 rcases h with h | h
 ·rw [if_pos h.1, if_pos h.1]; simp
 ·rw [if_neg (by omega), if_neg (by omega), cpy_length]; omega
theorem tel_to {xs : List Tk} {i : Nat} (h : RtTo xs i) (hi : i <= xs.length) : ((tel (xs.take i)).length : Int) = sm (xs.take i) := by
 induction i with
 | zero => simp [tel, sm]
 | succ i ih =>
  rw [tk_take_snoc (by omega), tel_snoc, sm_snoc, tel1_length _ (h i (by omega)), ih (fun j hj => h j (by omega)) (by omega)]
theorem tel_length {xs : List Tk} (h : Rt xs) : ((tel xs).length : Int) = sm xs := by
 have := tel_to h (Nat.le_refl _)
 rwa [List.take_length] at this
def Bt (xs : List Tk) : Prop := ∀ i, 0 <= (tk xs i).1 /\ (tk xs i).1 <= 255
theorem Bt.take {xs : List Tk} (h : Bt xs) (i : Nat) : ∀ x ∈ tel (xs.take i), 0 <= x /\ x <= 255 := by
 induction i with
 | zero => intro x hx; simp [tel] at hx
 | succ i ih =>
  by_cases hi : i < xs.length
  ·rw [tk_take_snoc hi, tel_snoc]
   unfold tel1
   split
   ·intro x hx
    rcases List.mem_append.1 hx with hx | hx
    ·exact ih x hx
    ·simp at hx; subst hx; exact h i
   ·exact cpy_mem ih _ _
  ·rw [List.take_of_length_le (by omega)]
   rw [List.take_of_length_le (by omega)] at ih
   exact ih
theorem Bt.mem {xs : List Tk} (h : Bt xs) : ∀ x ∈ tel xs, 0 <= x /\ x <= 255 := by
 have := h.take xs.length
 rwa [List.take_length] at this

structure Run (zs : List Int) (p : Nat) (L B : Nat) : Prop where
 l3 : 3 <= L
 l258 : L <= 258
 b1 : 1 <= B
 bw : B <= 32768
 bp : B <= p
 fit : p + L <= zs.length
 same : ∀ k, k < L -> ln zs (p - B + k) = ln zs (p + k)
theorem cpy_run {zs : List Int} {p B : Nat} (hB1 : 1 <= B) (hB : B <= p) : ∀ L, p + L <= zs.length -> (∀ k, k < L -> ln zs (p - B + k) = ln zs (p + k)) -> cpy (zs.take p) B L = zs.take (p + L) := by
 intro L
 induction L with
 | zero => intro _ _; rfl
 | succ L ih =>
  intro h1 h2
  have i := ih (by omega) (fun k hk => h2 k (by omega))
  rw [cpy, i, List.length_take, Nat.min_eq_left (by omega), <- Nat.add_assoc, take_snoc (by omega), ln_take (by omega)]
  rw [show p + L - B = p - B + L by omega, h2 L (by omega)]
theorem Run.tell {zs : List Int} {p L B : Nat} (h : Run zs p L B) : tel1 (zs.take p) (0, (L : Int), (B : Int)) = zs.take (p + L) := by
 unfold tel1
 have := h.l3
 rw [if_neg (by simp only; omega)]
 exact cpy_run h.b1 h.bp L h.fit h.same
theorem Run.ok {zs : List Int} {p L B : Nat} (h : Run zs p L B) : OkT (p : Int) (0, (L : Int), (B : Int)) := by
 have := h.l3; have := h.l258; have := h.b1; have := h.bw; have := h.bp
 refine .inr ⟨rfl, ?_, ?_, ?_, ?_, ?_⟩ <;> simp only <;> omega
structure RunOk (zs : List Int) (p : Nat) (L B : Nat) : Prop where
 is : (L = 0 /\ B = 0) \/ Run zs p L B
 near : ∀ b n, 1 <= b -> b <= 64 -> b <= p -> p + n <= zs.length -> n <= 258 -> (∀ k, k < n -> ln zs (p - b + k) = ln zs (p + k)) -> n <= 2 \/ n <= L

def Nr (zs : List Int) (p : Nat) : Prop := ∃ b, 1 <= b /\ b <= 64 /\ b <= p /\ p + 3 <= zs.length /\ ln zs p = ln zs (p - b) /\ ln zs (p + 1) = ln zs (p + 1 - b) /\ ln zs (p + 2) = ln zs (p + 2 - b)
theorem RunOk.none {zs : List Int} {p B : Nat} (h : RunOk zs p 0 B) : ¬ Nr zs p := by
 rintro ⟨b, h1, h2, h3, h4, e0, e1, e2⟩
 have := h.near b 3 h1 h2 h3 h4 (by omega) (fun k hk => by
  have : k = 0 \/ k = 1 \/ k = 2 := by omega
  rcases this with rfl | rfl | rfl
  ·simpa using e0.symm
  ·rw [show p - b + 1 = p + 1 - b by omega]; exact e1.symm
  ·rw [show p - b + 2 = p + 2 - b by omega]; exact e2.symm)
 omega
def alo (xs : List Tk) : List Bool := xs.flatMap fun t => List.replicate (tl t).toNat (decide (t.2.1 = 0))
theorem alo_snoc (xs : List Tk) (t : Tk) : alo (xs ++ [t]) = alo xs ++ List.replicate (tl t).toNat (decide (t.2.1 = 0)) := by simp [alo]
theorem alo_to {xs : List Tk} {i : Nat} (h : RtTo xs i) (hi : i <= xs.length) : ((alo (xs.take i)).length : Int) = sm (xs.take i) := by
 induction i with
 | zero => simp [alo, sm]
 | succ i ih =>
  have h2 := (h i (by omega)).tl
  rw [tk_take_snoc (by omega), alo_snoc, sm_snoc, List.length_append, List.length_replicate]
  have := ih (fun j hj => h j (by omega)) (by omega)
  omega
theorem alo_length {xs : List Tk} (h : Rt xs) : ((alo xs).length : Int) = sm xs := by
 have := alo_to h (Nat.le_refl _)
 rwa [List.take_length] at this
def al (bs : List Bool) (i : Nat) : Bool := bs.getD i false
theorem al_left {A B : List Bool} {i : Nat} (h : i < A.length) : al (A ++ B) i = al A i := by simp [al, List.getD, List.getElem?_append_left h]
theorem al_right {A B : List Bool} {i : Nat} (h : A.length <= i) : al (A ++ B) i = al B (i - A.length) := by simp [al, List.getD, List.getElem?_append_right h]
theorem al_rep {n i : Nat} (b : Bool) (h : i < n) : al (List.replicate n b) i = b := by simp [al, List.getD, h]

structure FdTo (zs : List Int) (p : Nat) (xs : List Tk) : Prop where
 rt : Rt xs
 bt : Bt xs
 tell : tel xs = zs.take p
 many : xs.length <= p
 le : p <= zs.length
 near : ∀ i, i < p -> al (alo xs) i = true -> ¬ Nr zs i \/ (i + 1 < p /\ al (alo xs) (i + 1) = false)
 like : (∀ i, i < zs.length -> ln zs i = ln zs 0) -> xs.length <= (p + 516) / 258 + (p - (zs.length - 2))
theorem FdTo.sum {zs : List Int} {p : Nat} {xs : List Tk} (h : FdTo zs p xs) : sm xs = (p : Int) := by
 rw [<- tel_length h.rt, h.tell, List.length_take, Nat.min_eq_left h.le]
theorem FdTo.alen {zs : List Int} {p : Nat} {xs : List Tk} (h : FdTo zs p xs) : (alo xs).length = p := by
 have := alo_length h.rt
 rw [h.sum] at this
 omega
theorem Bt.nil : Bt [] := fun i => by simp [tk]
theorem Bt.snoc {xs : List Tk} {t : Tk} (h : Bt xs) (h0 : 0 <= t.1) (h1 : t.1 <= 255) : Bt (xs ++ [t]) := fun i => by
 rcases Nat.lt_or_ge i xs.length with h' | h'
 ·rw [tk_left h']; exact h i
 ·by_cases e : i = xs.length
  ·subst e; rw [tk_last]; exact ⟨h0, h1⟩
  ·unfold tk List.getD
   rw [List.getElem?_eq_none (by simp; omega)]
   simp
theorem FdTo.start (zs : List Int) : FdTo zs 0 [] := ⟨Rt.nil, Bt.nil, by simp [tel], Nat.zero_le _, Nat.zero_le _, fun i hi => by omega, fun _ => by simp⟩
theorem RunOk.like {zs : List Int} {p L B : Nat} (h : RunOk zs p L B) (hl : ∀ i, i < zs.length -> ln zs i = ln zs 0) (hp : 1 <= p) (h3 : p + 3 <= zs.length) : min (zs.length - p) 258 <= L := by
 have := h.near 1 (min (zs.length - p) 258) (by omega) (by omega) hp (by omega) (by omega) (fun k hk => by rw [hl _ (by omega), hl (p + k) (by omega)])
 omega
theorem ok_byte (n b : Int) : OkT n (b, 0, 0) := .inl ⟨rfl, rfl⟩
theorem FdTo.byte {zs : List Int} {p : Nat} {xs : List Tk} (h : FdTo zs p xs) (hz : ∀ i, 0 <= ln zs i /\ ln zs i <= 255) (hp : p < zs.length) {B : Nat} (hr : RunOk zs p 0 B) : FdTo zs (p + 1) (xs ++ [(ln zs p, 0, 0)]) := by
 have ha := h.alen
 have hb := hz p
 have hal : alo (xs ++ [(ln zs p, 0, 0)]) = alo xs ++ [true] := by rw [alo_snoc]; simp [tl]
 refine ⟨h.rt.snoc (ok_byte _ _), h.bt.snoc hb.1 hb.2, ?_, ?_, hp, ?_, ?_⟩
 ·rw [tel_snoc, h.tell, take_snoc hp]; simp [tel1]
 ·have := h.many; simp; omega
 ·intro i hi h1
  rw [hal] at h1 ⊢
  by_cases e : i < p
  ·rw [al_left (by omega)] at h1
   rcases h.near i e h1 with h2 | ⟨h2, h3⟩
   ·exact .inl h2
   ·exact .inr ⟨by omega, by rw [al_left (by omega)]; exact h3⟩
  ·obtain rfl : i = p := by omega
   exact .inl hr.none
 ·intro hl
  have := h.like hl
  rw [List.length_append, List.length_singleton]
  by_cases hp0 : p = 0
  ·subst hp0
   have h0 := h.many
   omega
  ·by_cases h3 : p + 3 <= zs.length
   ·have := hr.like hl (by omega) h3
    omega
   ·omega
theorem FdTo.run {zs : List Int} {p : Nat} {xs : List Tk} (h : FdTo zs p xs) {L B : Nat} (hr : RunOk zs p L B) (hL : 0 < L) : FdTo zs (p + L) (xs ++ [(0, (L : Int), (B : Int))]) := by
 have ha := h.alen
 have hR : Run zs p L B := by
  rcases hr.is with h' | h'
  ·omega
  ·exact h'
 have h3 := hR.l3
 have htl : tl ((0, (L : Int), (B : Int)) : Tk) = (L : Int) := by
  unfold tl
  rw [if_neg (by simp only; omega)]
 have hal : alo (xs ++ [(0, (L : Int), (B : Int))]) = alo xs ++ List.replicate L false := by
  rw [alo_snoc, htl]
  simp
  omega
 refine ⟨h.rt.snoc (by rw [h.sum]; exact hR.ok), h.bt.snoc (by simp) (by simp), ?_, ?_, hR.fit, ?_, ?_⟩
 ·rw [tel_snoc, h.tell, hR.tell]
 ·have := h.many; simp; omega
 ·intro i hi h1
  rw [hal] at h1 ⊢
  by_cases e : i < p
  ·rw [al_left (by omega)] at h1
   rcases h.near i e h1 with h2 | ⟨h2, h3⟩
   ·exact .inl h2
   ·exact .inr ⟨by omega, by rw [al_left (by omega)]; exact h3⟩
  ·rw [al_right (by omega), al_rep _ (by omega)] at h1
   cases h1
 ·intro hl
  have := h.like hl
  have hb := hR.bp
  have hb1 := hR.b1
  have hfit := hR.fit
  have hk := hr.like hl (by omega) (by omega)
  have h258 := hR.l258
  rw [List.length_append, List.length_singleton]
  omega
theorem FdTo.wait {zs : List Int} {p : Nat} {xs : List Tk} (h : FdTo zs p xs) (hz : ∀ i, 0 <= ln zs i /\ ln zs i <= 255) {L B L2 B2 : Nat} (hr : RunOk zs p L B) (hL : 0 < L) (hr2 : RunOk zs (p + 1) L2 B2) (hL2 : L < L2) : FdTo zs (p + 1 + L2) (xs ++ [(ln zs p, 0, 0)] ++ [(0, (L2 : Int), (B2 : Int))]) := by
 have ha := h.alen
 have hb := hz p
 have hR : Run zs p L B := by
  rcases hr.is with h' | h'
  ·omega
  ·exact h'
 have hR2 : Run zs (p + 1) L2 B2 := by
  rcases hr2.is with h' | h'
  ·omega
  ·exact h'
 have h3 := hR2.l3
 have hfit := hR2.fit
 have hrt : Rt (xs ++ [(ln zs p, 0, 0)]) := h.rt.snoc (ok_byte _ _)
 have htl : tl ((0, (L2 : Int), (B2 : Int)) : Tk) = (L2 : Int) := by
  unfold tl
  rw [if_neg (by simp only; omega)]
 have hal : alo (xs ++ [(ln zs p, 0, 0)] ++ [(0, (L2 : Int), (B2 : Int))]) = alo xs ++ [true] ++ List.replicate L2 false := by
  rw [alo_snoc, alo_snoc, htl]
  simp [tl]
  omega
 have htell : tel (xs ++ [(ln zs p, 0, 0)]) = zs.take (p + 1) := by
  rw [tel_snoc, h.tell, take_snoc (by omega)]; simp [tel1]
 have hal1 : (alo xs ++ [true]).length = p + 1 := by simp; omega
 refine ⟨hrt.snoc (by rw [<- tel_length hrt, htell, List.length_take, Nat.min_eq_left (by omega)]; exact hR2.ok), (h.bt.snoc hb.1 hb.2).snoc (by simp) (by simp), ?_, ?_, hfit, ?_, ?_⟩
 ·rw [tel_snoc, htell, hR2.tell]
 ·have := h.many; simp; omega
 ·intro i hi h1
  rw [hal] at h1 ⊢
  by_cases e : i < p
  ·rw [al_left (by rw [hal1]; omega), al_left (by omega)] at h1
   rcases h.near i e h1 with h2 | ⟨h2, h3⟩
   ·exact .inl h2
   ·exact .inr ⟨by omega, by rw [al_left (by rw [hal1]; omega), al_left (by omega)]; exact h3⟩
  ·by_cases e2 : i = p
   ·subst e2
    refine .inr ⟨by omega, ?_⟩
    rw [al_right (by rw [hal1]; exact Nat.le_refl _), hal1, al_rep _ (by omega)]
   ·rw [al_right (by rw [hal1]; omega), al_rep _ (by rw [hal1]; omega)] at h1
    cases h1
 ·intro hl
  have := hR.bp
  have := hR.b1
  have hk := hr.like hl (by omega) (by omega)
  have := hR2.l258
  omega
end Go.Proofs.YteknifnadbmfiaaGreatDoor.M

/- Tokens in memory: three cells each. -/
namespace Go.Proofs.YteknifnadbmfiaaGreatDoor.M
set_option maxRecDepth 100000
open Go Go.RowKit

theorem lt_of_block' {w : World} {b : Nat} {o : Obj} (h : w.heap[b]? = some o) : b < w.heap.size := by
 rcases Nat.lt_or_ge b w.heap.size with h' | h'
 ·exact h'
 ·rw [Array.getElem?_eq_none h'] at h; simp at h
theorem heap_old {w : World} {o : Obj} {b : Nat} {p : Obj} (h : w.heap[b]? = some p) : (w.alloc o).heap[b]? = some p := by
 rw [Below.heap_alloc _ _ _ (lt_of_block' h)]; exact h

abbrev tA (t : Tk) : Array Value := #[.int .u8 t.1, .int .i64 t.2.1, .int .i64 t.2.2]
abbrev tO (t : Tk) : Obj := .cells #[.int .u8 t.1, .int .i64 t.2.1, .int .i64 t.2.2] 109
def tc (xs : List Tk) : List Value := xs.flatMap fun t => [.int .u8 t.1, .int .i64 t.2.1, .int .i64 t.2.2]
theorem tc_snoc (xs : List Tk) (t : Tk) : tc (xs ++ [t]) = tc xs ++ [.int .u8 t.1, .int .i64 t.2.1, .int .i64 t.2.2] := by simp [tc]
theorem tc_cons (t : Tk) (xs : List Tk) : tc (t :: xs) = [.int .u8 t.1, .int .i64 t.2.1, .int .i64 t.2.2] ++ tc xs := by simp [tc]
theorem tc_length (xs : List Tk) : (tc xs).length = xs.length * 3 := by
 induction xs with
 | nil => rfl
 | cons t xs ih => rw [tc_cons, List.length_append, ih]; simp; omega
theorem tc_at (xs : List Tk) {i : Nat} (h : i < xs.length) : (tc xs)[i * 3]? = some (.int .u8 (tk xs i).1) /\ (tc xs)[i * 3 + 1]? = some (.int .i64 (tk xs i).2.1) /\ (tc xs)[i * 3 + 2]? = some (.int .i64 (tk xs i).2.2) := by
 induction xs generalizing i with
 | nil => simp at h
 | cons t xs ih =>
  cases i with
  | zero => simp [tc_cons, tk]
  | succ i =>
   have hi : i < xs.length := by simpa using h
   obtain ⟨h1, h2, h3⟩ := ih hi
   have e : tk (t :: xs) (i + 1) = tk xs i := by simp [tk]
   rw [e, tc_cons, show (i + 1) * 3 = i * 3 + 3 by omega]
   refine ⟨?_, ?_, ?_⟩
   ·rw [List.getElem?_append_right (by simp)]; simpa using h1
   ·rw [List.getElem?_append_right (by simp)]; simpa using h2
   ·rw [List.getElem?_append_right (by simp)]; simpa using h3
def Toks (w : World) (a : Option Addr) (xs : List Tk) : Prop :=
 xs.length = 0 \/ ∃ b off, b < w.heap.size /\ a = some ⟨b, off, none⟩ /\ ∀ i, i < xs.length -> w.cell? ⟨b, off + i * 3, none⟩ = some (.int .u8 (tk xs i).1) /\ w.cell? ⟨b, off + i * 3 + 1, none⟩ = some (.int .i64 (tk xs i).2.1) /\ w.cell? ⟨b, off + i * 3 + 2, none⟩ = some (.int .i64 (tk xs i).2.2)
theorem Toks.kept {M : Nat -> Prop} {w w' : World} {a : Option Addr} {xs : List Tk} (h : Toks w a xs) (k : Kept M w w') (hn : ∀ b off, a = some ⟨b, off, none⟩ -> ¬ M b) : Toks w' a xs := by
 rcases h with h | ⟨b, off, h1, rfl, hc⟩
 ·exact .inl h
 ·have hM := hn b off rfl
  refine .inr ⟨b, off, Nat.lt_of_lt_of_le h1 k.size, rfl, fun i hi => ?_⟩
  obtain ⟨c0, c1, c2⟩ := hc i hi
  exact ⟨(k.cell (p := ⟨b, _, none⟩) h1 hM).trans c0, (k.cell (p := ⟨b, _, none⟩) h1 hM).trans c1, (k.cell (p := ⟨b, _, none⟩) h1 hM).trans c2⟩
theorem Toks.stay {w w' : World} {a : Option Addr} {xs : List Tk} (h : Toks w a xs) (k : Below w.heap.size w w') : Toks w' a xs := by
 rcases h with h | ⟨b, off, h1, rfl, hc⟩
 ·exact .inl h
 ·exact Toks.kept (.inr ⟨b, off, h1, rfl, hc⟩) (Kept.of_below k) (fun b' off' e => by simp at e; omega)
theorem Toks.below {B : Nat} {w w' : World} {a : Option Addr} {xs : List Tk} (h : Toks w a xs) (k : Below B w w') (hB : ∀ b off, a = some ⟨b, off, none⟩ -> b < B) : Toks w' a xs :=
 h.kept (Kept.of_below k) (fun b off e => by have := hB b off e; omega)
def OwnsT (w : World) (base : Nat) (v : Value) (L : List Tk) : Prop := w.ownsRow base 109 3 v L.length (tc L)
theorem OwnsT.nil (w : World) (base : Nat) : OwnsT w base (.slice none 0 0) [] := World.ownsRow_nil _ _ _ _
theorem OwnsT.kept {M : Nat -> Prop} {w w' : World} {base : Nat} {v : Value} {L : List Tk} (h : OwnsT w base v L) (k : Kept M w w') (hn : ∀ g, v.ownBlock = some g -> ¬ M g) : OwnsT w' base v L := ownsRow_kept h k hn
theorem OwnsT.stay {w w' : World} {base : Nat} {v : Value} {L : List Tk} (h : OwnsT w base v L) (k : Below w.heap.size w w') : OwnsT w' base v L := h.kept (Kept.of_below k) (fun g hg e => by have := (ownsRow_lt h hg).2; omega)
theorem OwnsT.form {w : World} {base : Nat} {v : Value} {L : List Tk} (h : OwnsT w base v L) : ∃ a cap, v = .slice a L.length cap /\ Toks w a L /\ (∀ b off, a = some ⟨b, off, none⟩ -> base <= b /\ b < w.heap.size) /\ (a = none -> L.length = 0 /\ cap = 0) /\ L.length <= cap := by
 rcases h.2 with ⟨rfl, h2⟩ | ⟨g, cap, cur, rfl, hg, hh, hc1, hc2, hc3, hc4⟩
 ·exact ⟨none, 0, by rw [h2], .inl h2, fun b off e => (by cases e), fun _ => ⟨h2, rfl⟩, (by omega)⟩
 ·refine ⟨_, cap, rfl, .inr ⟨g, 0, lt_of_block hh, rfl, fun i hi => ?_⟩, fun b off e => ?_, fun e => (by cases e), hc1⟩
  ·have key : ∀ j, j < L.length * 3 -> w.cell? ⟨g, j, none⟩ = (tc L)[j]? := fun j hj => by
    rw [cells_of hh, <- hc4, List.getElem?_take_of_lt hj, Array.getElem?_toList]
   obtain ⟨h1, h2, h3⟩ := tc_at L hi
   rw [Nat.zero_add]
   exact ⟨(key _ (by omega)).trans h1, (key _ (by omega)).trans h2, (key _ (by omega)).trans h3⟩
  ·simp at e
   obtain ⟨rfl, _⟩ := e
   exact ⟨hg, lt_of_block hh⟩
theorem OwnsT.push {w : World} {base : Nat} {v : Value} {L : List Tk} {t : Tk} (h : w.ownsRow base 109 3 v (L.length + 1) (tc L ++ [.int .u8 t.1, .int .i64 t.2.1, .int .i64 t.2.2])) : OwnsT w base v (L ++ [t]) := by
 unfold OwnsT
 rw [tc_snoc, List.length_append, List.length_singleton]
 exact h
theorem Tryz.infoTok : (Tryz.prog.info? 109).map (fun i => (i.zero, i.size, i.bytes)) = some (some (.agg #[.int .u8 0, .int .i64 0, .int .i64 0]), 3, 24) := by kernel_rfl
theorem one_tok (w : World) (t : Tk) (n : Nat) (h : w.heap.size = n) : ∀ j u, ([.int .u8 t.1, .int .i64 t.2.1, .int .i64 t.2.2] : List Value)[j]? = some u -> (w.alloc (tO t)).cell? ((⟨n, 0, none⟩ : Addr).add j) = some u := by
 subst h; exact World.news_of_block (heap_new w (tO t))
theorem tok_new (w : World) (t : Tk) : (w.alloc (tO t)).heap[w.heap.size]? = some (tO t) := heap_new w _

set_option maxHeartbeats 400000 in
theorem told_c (b l k : Int) (w : World) : Calls Tryz.prog 55 #[.agg #[.int .u8 b, .int .i64 l, .int .i64 k]] w fun e w' => e = .returned (.int .i64 (tl (b, l, k))) /\ w' = w.alloc (tO (b, l, k)) := by
 by_cases h : l = 0
 ·subst h
  have ht : tl (b, 0, k) = 1 := by simp [tl]
  rw [ht]
  go_enter Tryz.func55, Tryz.ntmps55
  go_wp2
  go_ret
  exact ⟨rfl, rfl⟩
 ·have ht : tl (b, l, k) = l := by simp [tl, h]
  rw [ht]
  go_enter Tryz.func55, Tryz.ntmps55
  go_wp2
  go_ret
  exact ⟨rfl, rfl⟩
end Go.Proofs.YteknifnadbmfiaaGreatDoor.M

/- Chains of places with the same slot: of no program. -/
namespace Go.Proofs.YteknifnadbmfiaaGreatDoor.M
set_option maxRecDepth 100000
open Go Go.RowKit

structure Chain (sl : Nat -> Nat) (n : Nat) (la be : Nat -> Nat) : Prop where
 la_le : ∀ s, la s <= n
 la_sl : ∀ s, 0 < la s -> sl (la s - 1) = s
 la_no : ∀ s i, la s <= i -> i < n -> sl i ≠ s
 be_le : ∀ j, j < n -> n <= j + 32768 -> be (j % 32768) <= j
 be_sl : ∀ j, j < n -> n <= j + 32768 -> 0 < be (j % 32768) -> sl (be (j % 32768) - 1) = sl j
 be_no : ∀ j i, j < n -> n <= j + 32768 -> be (j % 32768) <= i -> i < j -> sl i ≠ sl j
theorem Chain.start (sl : Nat -> Nat) : Chain sl 0 (fun _ => 0) (fun _ => 0) :=
 ⟨fun _ => Nat.le_refl _, fun _ h => by omega, fun _ i _ h => by omega, fun j h => by omega, fun j h => by omega, fun j i h => by omega⟩
def up (f : Nat -> Nat) (i v : Nat) : Nat -> Nat := fun j => if j = i then v else f j
theorem up_same (f : Nat -> Nat) (i v : Nat) : up f i v i = v := if_pos rfl
theorem up_other (f : Nat -> Nat) {i j : Nat} (v : Nat) (h : j ≠ i) : up f i v j = f j := if_neg h
theorem Chain.step {sl : Nat -> Nat} {n : Nat} {la be : Nat -> Nat} (h : Chain sl n la be) : Chain sl (n + 1) (up la (sl n) (n + 1)) (up be (n % 32768) (la (sl n))) := by
 have hne : ∀ j, j < n -> n + 1 <= j + 32768 -> j % 32768 ≠ n % 32768 := fun j h1 h2 e => by omega
 refine ⟨fun s => ?_, fun s h0 => ?_, fun s i h1 h2 => ?_, fun j h1 h2 => ?_, fun j h1 h2 h0 => ?_, fun j i h1 h2 h3 h4 => ?_⟩
 ·by_cases e : s = sl n
  ·subst e; rw [up_same]; exact Nat.le_refl _
  ·rw [up_other _ _ e]; have := h.la_le s; omega
 ·by_cases e : s = sl n
  ·subst e; rw [up_same]; rfl
  ·rw [up_other _ _ e] at h0 ⊢; exact h.la_sl s h0
 ·by_cases e : s = sl n
  ·subst e; rw [up_same] at h1; omega
  ·rw [up_other _ _ e] at h1
   by_cases e2 : i = n
   ·subst e2; exact fun e3 => e e3.symm
   ·exact h.la_no s i h1 (by omega)
 ·by_cases e : j = n
  ·subst e; rw [up_same]; exact h.la_le _
  ·rw [up_other _ _ (hne j (by omega) h2)]; exact h.be_le j (by omega) (by omega)
 ·by_cases e : j = n
  ·subst e; rw [up_same] at h0 ⊢; exact h.la_sl _ h0
  ·rw [up_other _ _ (hne j (by omega) h2)] at h0 ⊢; exact h.be_sl j (by omega) (by omega) h0
 ·by_cases e : j = n
  ·subst e; rw [up_same] at h3; exact h.la_no _ i h3 h4
  ·rw [up_other _ _ (hne j (by omega) h2)] at h3; exact h.be_no j i (by omega) (by omega) h3 h4

def sH (x y z : Int) : Nat := (bits .or .u32 (bits .or .u32 x (y * 256)) (z * 65536) * 2654435761 % 4294967296 / 262144).toNat
theorem sH_eq (x y z : Int) : bits .or .u32 (bits .or .u32 x (y * 256)) (z * 65536) * 2654435761 % 4294967296 / 262144 = (sH x y z : Int) := by unfold sH; omega
def sl (zs : List Int) (i : Nat) : Nat := sH (ln zs i) (ln zs (i + 1)) (ln zs (i + 2))
theorem sl_lt (zs : List Int) (i : Nat) : sl zs i < 16384 := by unfold sl sH; omega
theorem sl_same {zs : List Int} {i j : Nat} (h : ∀ k, k < 3 -> ln zs (i + k) = ln zs (j + k)) : sl zs i = sl zs j := by
 unfold sl
 have h0 := h 0 (by omega)
 have h1 := h 1 (by omega)
 have h2 := h 2 (by omega)
 rw [Nat.add_zero, Nat.add_zero] at h0
 rw [h0, h1, h2]

def pvG (sl : Nat -> Nat) (s : Nat) : Nat -> Nat
 | 0 => 0
 | n + 1 => if sl n = s then n + 1 else pvG sl s n
theorem pvG_is {sl : Nat -> Nat} {s a : Nat} : ∀ {n : Nat}, a <= n -> (0 < a -> sl (a - 1) = s) -> (∀ i, a <= i -> i < n -> sl i ≠ s) -> pvG sl s n = a
 | 0, h1, _, _ => by unfold pvG; omega
 | n + 1, h1, h2, h3 => by
  unfold pvG
  by_cases e : a = n + 1
  ·subst e
   rw [if_pos (by simpa using h2 (by omega))]
  ·rw [if_neg (h3 n (by omega) (by omega))]
   exact pvG_is (by omega) h2 (fun i h4 h5 => h3 i h4 (by omega))
def cmG (zs : List Int) (i p : Nat) : Nat -> Nat -> Nat
 | 0, n => n
 | t + 1, n => if ln zs (i + n) = ln zs (p + n) then cmG zs i p t (n + 1) else n
theorem cmG_is {zs : List Int} {i p m : Nat} : ∀ (t n : Nat), n <= m -> m <= n + t -> (∀ x, x < m -> ln zs (i + x) = ln zs (p + x)) -> (m < n + t -> ln zs (i + m) ≠ ln zs (p + m)) -> cmG zs i p t n = m
 | 0, n, h1, h2, _, _ => by unfold cmG; omega
 | t + 1, n, h1, h2, h3, h4 => by
  unfold cmG
  by_cases e : n = m
  ·subst e
   rw [if_neg (h4 (by omega))]
  ·rw [if_pos (h3 n (by omega))]
   exact cmG_is t (n + 1) (by omega) (by omega) h3 (fun h => h4 (by omega))
def upd (zs : List Int) (p most A L B : Nat) : Nat × Nat := if ln zs (A + L) = ln zs (p + L) /\ L < cmG zs A p most 0 then (cmG zs A p most 0, p - A) else (L, B)
theorem upd_more {zs : List Int} {p most A L B m : Nat} (hx : ln zs (A + L) = ln zs (p + L)) (h1 : m <= most) (h2 : ∀ x, x < m -> ln zs (A + x) = ln zs (p + x)) (h3 : m < most -> ln zs (A + m) ≠ ln zs (p + m)) (hl : L < m) : upd zs p most A L B = (m, p - A) := by
 have e := cmG_is (zs := zs) (i := A) (p := p) (m := m) most 0 (by omega) (by omega) h2 (fun h => h3 (by omega))
 unfold upd
 rw [e, if_pos ⟨hx, hl⟩]
theorem upd_less {zs : List Int} {p most A L B m : Nat} (h1 : m <= most) (h2 : ∀ x, x < m -> ln zs (A + x) = ln zs (p + x)) (h3 : m < most -> ln zs (A + m) ≠ ln zs (p + m)) (hl : ¬ L < m) : upd zs p most A L B = (L, B) := by
 have e := cmG_is (zs := zs) (i := A) (p := p) (m := m) most 0 (by omega) (by omega) h2 (fun h => h3 (by omega))
 unfold upd
 rw [e, if_neg (fun h => hl h.2)]
theorem upd_else {zs : List Int} {p most A L B : Nat} (hx : ln zs (A + L) ≠ ln zs (p + L)) : upd zs p most A L B = (L, B) := by
 unfold upd
 rw [if_neg (fun h => hx h.1)]
def sit (zs : List Int) (p most : Nat) : Nat -> Nat × Nat × Nat
 | 0 => (pvG (sl zs) (sl zs p) p, 2, 0)
 | k + 1 => (pvG (sl zs) (sl zs ((sit zs p most k).1 - 1)) ((sit zs p most k).1 - 1), upd zs p most ((sit zs p most k).1 - 1) (sit zs p most k).2.1 (sit zs p most k).2.2)
def stp (zs : List Int) (p most k : Nat) : Prop := (sit zs p most k).1 = 0 \/ 32768 < p - ((sit zs p most k).1 - 1) \/ (sit zs p most k).2.1 = most
def RunIs (zs : List Int) (p tr L' B' : Nat) : Prop := (min (zs.length - p) 258 < 3 /\ L' = 0 /\ B' = 0) \/ (3 <= min (zs.length - p) 258 /\ ∃ k, k <= tr /\ (∀ j, j < k -> ¬ stp zs p (min (zs.length - p) 258) j) /\ (stp zs p (min (zs.length - p) 258) k \/ k = tr) /\ L' = (if (sit zs p (min (zs.length - p) 258) k).2.2 = 0 then 0 else (sit zs p (min (zs.length - p) 258) k).2.1) /\ B' = (sit zs p (min (zs.length - p) 258) k).2.2)
theorem RunIs.one {zs : List Int} {p tr L B L' B' : Nat} (h : RunIs zs p tr L B) (h' : RunIs zs p tr L' B') : L = L' /\ B = B' := by
 rcases h with ⟨h1, h2, h3⟩ | ⟨h1, k, k1, k2, k3, k4, k5⟩
 ·rcases h' with ⟨_, h4, h5⟩ | ⟨h4, _⟩
  ·omega
  ·omega
 ·rcases h' with ⟨h4, _⟩ | ⟨_, m, m1, m2, m3, m4, m5⟩
  ·omega
  ·have e : k = m := by
    rcases Nat.lt_trichotomy k m with h | h | h
    ·rcases k3 with k3 | k3
     ·exact absurd k3 (m2 k h)
     ·omega
    ·exact h
    ·rcases m3 with m3 | m3
     ·exact absurd m3 (k2 m h)
     ·omega
   subst e
   exact ⟨by rw [k4, m4], by rw [k5, m5]⟩
structure Srch (zs : List Int) (p most : Nat) (k A L B : Nat) : Prop where
 le : A + k <= p
 sl_ : 0 < A -> sl zs (A - 1) = sl zs p
 is : (L = 2 /\ B = 0) \/ Run zs p L B
 lm : L <= most
 seen : ∀ j, A <= j -> j < p -> sl zs j = sl zs p -> ∀ n, n <= most -> (∀ x, x < n -> ln zs (j + x) = ln zs (p + x)) -> n <= L
 fn : sit zs p most k = (A, L, B)
 go : ∀ j, j < k -> ¬ stp zs p most j
theorem Srch.start {zs : List Int} {p most : Nat} {la be : Nat -> Nat} (h : Chain (sl zs) p la be) (h3 : 3 <= most) : Srch zs p most 0 (la (sl zs p)) 2 0 :=
 ⟨h.la_le _, fun h0 => h.la_sl _ h0, .inl ⟨rfl, rfl⟩, by omega, fun j h1 h2 h3 => absurd h3 (h.la_no _ j h1 h2), by unfold sit; rw [pvG_is (h.la_le _) (h.la_sl _) (h.la_no _)], fun j hj => by omega⟩
theorem Srch.done {zs : List Int} {p most k A L B : Nat} (h : Srch zs p most k A L B) (hm : most = min (zs.length - p) 258) (h3 : 3 <= most) (he : A = 0 \/ 32768 < p - (A - 1) \/ L = most \/ 64 <= k) : RunOk zs p (if B = 0 then 0 else L) B := by
 have hB : (B = 0 /\ L = 2) \/ (0 < B /\ Run zs p L B) := by
  rcases h.is with ⟨h1, h2⟩ | h1
  ·exact .inl ⟨h2, h1⟩
  ·exact .inr ⟨h1.b1, h1⟩
 refine ⟨?_, ?_⟩
 ·rcases hB with ⟨rfl, _⟩ | ⟨h0, hr⟩
  ·exact .inl ⟨if_pos rfl, rfl⟩
  ·rw [if_neg (by omega)]; exact .inr hr
 ·intro b n b1 b2 b3 hn1 hn2 hs
  have hnm : n <= most := by omega
  have key : n <= 2 \/ n <= L := by
   by_cases hn3 : n <= 2
   ·exact .inl hn3
   ·right
    by_cases hLm : L = most
    ·omega
    ·refine h.seen (p - b) ?_ (by omega) (sl_same fun k hk => hs k (by omega)) n hnm hs
     have := h.le
     omega
  rcases hB with ⟨rfl, rfl⟩ | ⟨h0, hr⟩
  ·left; omega
  ·rw [if_neg (by omega)]; exact key
theorem Srch.next {zs : List Int} {p most k A L B : Nat} {la be : Nat -> Nat} (h : Srch zs p most k A L B) (hc : Chain (sl zs) p la be) (h0 : 0 < A) (hw : p - (A - 1) <= 32768) {L2 B2 : Nat} (hle : L <= L2) (hlm : L2 <= most)
  (his : (L2 = 2 /\ B2 = 0) \/ Run zs p L2 B2) (hcm : ∀ n, n <= most -> (∀ x, x < n -> ln zs (A - 1 + x) = ln zs (p + x)) -> n <= L2) (hne : ¬ L = most) (hu : upd zs p most (A - 1) L B = (L2, B2)) : Srch zs p most (k + 1) (be ((A - 1) % 32768)) L2 B2 := by
 have hl := h.le
 have h1 := hc.be_le (A - 1) (by omega) (by omega)
 refine ⟨by omega, fun h2 => ?_, his, hlm, fun j j1 j2 j3 n n1 n2 => ?_, ?_, fun j hj => ?_⟩
 ·rw [hc.be_sl (A - 1) (by omega) (by omega) h2, h.sl_ h0]
 ·by_cases e : A <= j
  ·have := h.seen j e j2 j3 n n1 n2; omega
  ·by_cases e2 : j = A - 1
   ·subst e2; exact hcm n n1 n2
   ·exact absurd (j3.trans (h.sl_ h0).symm) (hc.be_no (A - 1) j (by omega) (by omega) j1 (by omega))
 ·unfold sit
  rw [h.fn]
  simp only
  rw [hu, pvG_is h1 (hc.be_sl (A - 1) (by omega) (by omega)) (fun i i1 i2 => hc.be_no (A - 1) i (by omega) (by omega) i1 i2)]
 ·by_cases e : j < k
  ·exact h.go j e
  ·obtain rfl : j = k := by omega
   unfold stp
   rw [h.fn]
   simp only
   omega
theorem Srch.runIs {zs : List Int} {p most k A L B tr : Nat} (h : Srch zs p most k A L B) (hm : most = min (zs.length - p) 258) (h3 : 3 <= most) (hk : k <= tr) (he : A = 0 \/ 32768 < p - (A - 1) \/ L = most \/ k = tr) : RunIs zs p tr (if B = 0 then 0 else L) B := by
 subst hm
 refine .inr ⟨h3, k, hk, h.go, ?_, by rw [h.fn], by rw [h.fn]⟩
 unfold stp
 rw [h.fn]
 simp only
 omega
theorem Srch.found {zs : List Int} {p most k A L B n : Nat} (h : Srch zs p most k A L B) (h0 : 0 < A) (hw : p - (A - 1) <= 32768) (hm : most = min (zs.length - p) 258) (hp : p <= zs.length) (hn : n <= most) (hs : ∀ x, x < n -> ln zs (A - 1 + x) = ln zs (p + x)) (hl : L < n) : Run zs p n (p - (A - 1)) := by
 have h1 := h.le
 have h2 : 2 <= L := by
  rcases h.is with h2 | h2
  ·omega
  ·have := h2.l3; omega
 exact ⟨by omega, by omega, by omega, by omega, by omega, by omega, fun k hk => by rw [show p - (p - (A - 1)) + k = A - 1 + k by omega]; exact hs k hk⟩
end Go.Proofs.YteknifnadbmfiaaGreatDoor.M

/- The finder in memory; a place's slot. -/
namespace Go.Proofs.YteknifnadbmfiaaGreatDoor.M
set_option maxRecDepth 100000
open Go Go.RowKit

structure Bys (w : World) (a : Option Addr) (zs : List Int) : Prop where
 at_ : zs.length = 0 \/ ∃ b off, b < w.heap.size /\ a = some ⟨b, off, none⟩ /\ ∀ i, i < zs.length -> w.cell? ⟨b, off + i, none⟩ = some (.int .u8 (ln zs i))
 rng : ∀ i, 0 <= ln zs i /\ ln zs i <= 255
theorem Bys.kept {M : Nat -> Prop} {w w' : World} {a : Option Addr} {zs : List Int} (h : Bys w a zs) (k : Kept M w w') (hn : 0 < zs.length -> ∀ b off, a = some ⟨b, off, none⟩ -> ¬ M b) : Bys w' a zs := by
 refine ⟨?_, h.rng⟩
 rcases h.at_ with h | ⟨b, off, h1, rfl, hc⟩
 ·exact .inl h
 ·exact .inr ⟨b, off, Nat.lt_of_lt_of_le h1 k.size, rfl, fun i hi => (k.cell (p := ⟨b, _, none⟩) h1 (hn (by omega) b off rfl)).trans (hc i hi)⟩
theorem Bys.stay {w w' : World} {a : Option Addr} {zs : List Int} (h : Bys w a zs) (k : Below w.heap.size w w') : Bys w' a zs := by
 refine ⟨?_, h.rng⟩
 rcases h.at_ with h | ⟨b, off, h1, rfl, hc⟩
 ·exact .inl h
 ·exact .inr ⟨b, off, Nat.lt_of_lt_of_le h1 k.size, rfl, fun i hi => (k.cell (p := ⟨b, off + i, none⟩) h1).trans (hc i hi)⟩
theorem Bys.drewN {w : World} {a : Option Addr} {zs : List Int} (h : Bys w a zs) (n : Nat) : Bys (w.drewN n) a zs := ⟨h.at_, h.rng⟩

structure FinAt (B : Nat) (w : World) (bf bb : Nat) (a : Option Addr) (cap : Nat) (zs : List Int) (tr n : Nat) (la be : Nat -> Nat) : Prop where
 fb : ∃ cs, w.heap[bf]? = some (.cells cs 141 (0, 0)) /\ cs[0]? = some (.slice a zs.length cap) /\ cs[1]? = some (.int .i64 (tr : Int)) /\ cs[2]? = some (.int .i64 (n : Int)) /\ (∀ s, s < 16384 -> cs[3 + s]? = some (.int .i32 (la s : Int))) /\ cs[16387]? = some (.slice (some ⟨bb, 0, none⟩) (min zs.length 32768) (min zs.length 32768))
 bk : ∃ ds, w.heap[bb]? = some (.cells ds 21 (0, 0)) /\ ∀ x, x < min zs.length 32768 -> ds[x]? = some (.int .i32 (be x : Int))
 tx : Bys w a zs
 hB : 0 < zs.length -> ∀ b off, a = some ⟨b, off, none⟩ -> b < B
 inb : B <= bf /\ B <= bb
 cp : zs.length <= cap
section
variable {B : Nat} {w w' : World} {bf bb : Nat} {a : Option Addr} {cap : Nat} {zs : List Int} {tr n : Nat} {la be : Nat -> Nat}
theorem FinAt.c0 (h : FinAt B w bf bb a cap zs tr n la be) : w.cell? ⟨bf, 0, none⟩ = some (.slice a zs.length cap) := by
 obtain ⟨cs, hb, h0, _⟩ := h.fb
 rw [cells_of hb]; exact h0
theorem FinAt.c1 (h : FinAt B w bf bb a cap zs tr n la be) : w.cell? ⟨bf, 1, none⟩ = some (.int .i64 (tr : Int)) := by
 obtain ⟨cs, hb, _, h0, _⟩ := h.fb
 rw [cells_of hb]; exact h0
theorem FinAt.c2 (h : FinAt B w bf bb a cap zs tr n la be) : w.cell? ⟨bf, 2, none⟩ = some (.int .i64 (n : Int)) := by
 obtain ⟨cs, hb, _, _, h0, _⟩ := h.fb
 rw [cells_of hb]; exact h0
theorem FinAt.c3 (h : FinAt B w bf bb a cap zs tr n la be) {s : Nat} (hs : s < 16384) : w.cell? ⟨bf, 3 + s, none⟩ = some (.int .i32 (la s : Int)) := by
 obtain ⟨cs, hb, _, _, _, h0, _⟩ := h.fb
 rw [cells_of hb]; exact h0 s hs
theorem FinAt.c4 (h : FinAt B w bf bb a cap zs tr n la be) : w.cell? ⟨bf, 16387, none⟩ = some (.slice (some ⟨bb, 0, none⟩) (min zs.length 32768) (min zs.length 32768)) := by
 obtain ⟨cs, hb, _, _, _, _, h0⟩ := h.fb
 rw [cells_of hb]; exact h0
theorem FinAt.ffree (h : FinAt B w bf bb a cap zs tr n la be) (i : Nat) : w.frozen? ⟨bf, i, none⟩ = false := by
 obtain ⟨cs, hb, _⟩ := h.fb
 exact free_of hb i
theorem FinAt.b0 (h : FinAt B w bf bb a cap zs tr n la be) {x : Nat} (hx : x < min zs.length 32768) : w.cell? ⟨bb, x, none⟩ = some (.int .i32 (be x : Int)) := by
 obtain ⟨ds, hb, h0⟩ := h.bk
 rw [cells_of hb]; exact h0 x hx
theorem FinAt.bfree (h : FinAt B w bf bb a cap zs tr n la be) (i : Nat) : w.frozen? ⟨bb, i, none⟩ = false := by
 obtain ⟨cs, hb, _⟩ := h.bk
 exact free_of hb i
theorem FinAt.ne (h : FinAt B w bf bb a cap zs tr n la be) : bf ≠ bb := fun e => by
 obtain ⟨cs, hb, _⟩ := h.fb
 obtain ⟨ds, hd, _⟩ := h.bk
 rw [e, hd] at hb
 simp at hb
theorem FinAt.flt (h : FinAt B w bf bb a cap zs tr n la be) : bf < w.heap.size := by
 obtain ⟨cs, hb, _⟩ := h.fb
 exact lt_of_block hb
theorem FinAt.blt (h : FinAt B w bf bb a cap zs tr n la be) : bb < w.heap.size := by
 obtain ⟨cs, hb, _⟩ := h.bk
 exact lt_of_block hb
theorem FinAt.kept {M : Nat -> Prop} (h : FinAt B w bf bb a cap zs tr n la be) (k : Kept M w w') (h1 : ¬ M bf) (h2 : ¬ M bb) (h3 : ∀ b, b < B -> ¬ M b) : FinAt B w' bf bb a cap zs tr n la be := by
 obtain ⟨cs, hb, hr⟩ := h.fb
 obtain ⟨ds, hd, hs⟩ := h.bk
 exact ⟨⟨cs, k.heap hb h1, hr⟩, ⟨ds, k.heap hd h2, hs⟩, h.tx.kept k (fun h0 b off e => h3 b (h.hB h0 b off e)), h.hB, h.inb, h.cp⟩
theorem FinAt.stay (h : FinAt B w bf bb a cap zs tr n la be) (k : Below w.heap.size w w') : FinAt B w' bf bb a cap zs tr n la be :=
 h.kept (Kept.of_below k) (by have := h.flt; omega) (by have := h.blt; omega) (fun b hb => by have := h.inb; have := h.flt; omega)
theorem FinAt.drewN (h : FinAt B w bf bb a cap zs tr n la be) (q : Nat) : FinAt B (w.drewN q) bf bb a cap zs tr n la be := ⟨h.fb, h.bk, ⟨h.tx.at_, h.tx.rng⟩, h.hB, h.inb, h.cp⟩
theorem FinAt.drew (h : FinAt B w bf bb a cap zs tr n la be) : FinAt B w.drew bf bb a cap zs tr n la be := ⟨h.fb, h.bk, ⟨h.tx.at_, h.tx.rng⟩, h.hB, h.inb, h.cp⟩
theorem FinAt.text (h : FinAt B w bf bb a cap zs tr n la be) (h0 : 0 < zs.length) : ∃ b off, a = some ⟨b, off, none⟩ /\ b < w.heap.size /\ ∀ i, i < zs.length -> w.cell? ⟨b, off + i, none⟩ = some (.int .u8 (ln zs i)) := by
 rcases h.tx.at_ with h' | ⟨b, off, h1, h2, h3⟩
 ·omega
 ·exact ⟨b, off, h2, h1, h3⟩

set_option maxHeartbeats 1000000 in
theorem slot_c (h : FinAt B w bf bb a cap zs tr n la be) (p : Nat) (hp : p + 3 <= zs.length) (hl : zs.length <= 1000000000) (hcap : cap <= 9223372036854775807) :
  Calls Tryz.prog 73 #[.pointer (some ⟨bf, 0, none⟩), .int .i64 (p : Int)] w fun e w' => e = .returned (.int .i64 (sl zs p : Int)) /\ ∃ q, w' = w.drewN q := by
 obtain ⟨b, off, rfl, hbl, hc⟩ := h.text (by omega)
 have c0 := h.c0
 have d0 := hc p (by omega)
 have d1 := hc (p + 1) (by omega)
 have d2 := hc (p + 2) (by omega)
 rw [show off + (p + 1) = off + p + 1 by omega] at d1
 rw [show off + (p + 2) = off + p + 2 by omega] at d2
 have hcp := h.cp
 obtain ⟨⟨x0, x1⟩, ⟨y0, y1⟩, ⟨z0, z1⟩⟩ := And.intro (h.tx.rng p) (And.intro (h.tx.rng (p + 1)) (h.tx.rng (p + 2)))
 have HSL : Hid (sl zs p = sH (ln zs p) (ln zs (p + 1)) (ln zs (p + 2))) := rfl
 clear hc h
 generalize ln zs p = x at *
 generalize ln zs (p + 1) = y at *
 generalize ln zs (p + 2) = z at *
 generalize sl zs p = s at *
 have k1 : (p : Int) + 3 <= (cap : Int) := by omega
 go_enter Tryz.func73, Tryz.ntmps73
 go_upto_region 2 with fail
 have e3 : p + 3 - p = 3 := by omega
 rw [e3]
 clear e3
 go_quiet (fail)
 go_wp2_with fail
 rw [sH_eq, <- HSL.out]
 go_ret
 exact ⟨rfl, nq, rfl⟩
end
end Go.Proofs.YteknifnadbmfiaaGreatDoor.M
