/- Two streams side by side: the same bits further on, with something told ahead, with more bits behind, with more that may be told. No Go text in sight. -/
import Derived.Test.YteknifnadbmfiaaGreatDoorpAg04ISpec
namespace Go.Proofs.YteknifnadbmfiaaGreatDoor
set_option maxRecDepth 100000

theorem iLoop_eq {σ : Type} (T : Nat) (f : Nat -> σ -> Except Int (Nat × (Bool × σ))) (p : Nat) (s : σ) :
  iLoop T f p s = match f p s with
   | .error e => .error e
   | .ok x => if x.2.1 = true then (if _h : p < x.1 /\ x.1 <= T then iLoop T f x.1 x.2.2 else .error 0) else .ok (x.1, x.2.2) := by
 conv => lhs; unfold iLoop
 rfl
theorem iLoop_err {σ : Type} {T : Nat} {f : Nat -> σ -> Except Int (Nat × (Bool × σ))} {p : Nat} {s : σ} {e : Int} (h : f p s = .error e) : iLoop T f p s = .error e := by
 rw [iLoop_eq, h]
theorem iLoop_end {σ : Type} {T : Nat} {f : Nat -> σ -> Except Int (Nat × (Bool × σ))} {p q : Nat} {s t : σ} (h : f p s = .ok (q, (false, t))) : iLoop T f p s = .ok (q, t) := by
 rw [iLoop_eq, h]; rfl
theorem iLoop_on {σ : Type} {T : Nat} {f : Nat -> σ -> Except Int (Nat × (Bool × σ))} {p q : Nat} {s t : σ} (h : f p s = .ok (q, (true, t))) (h1 : p < q) (h2 : q <= T) : iLoop T f p s = iLoop T f q t := by
 conv => lhs; rw [iLoop_eq, h]
 simp [h1, h2]

def iGo {α : Type} (T p : Nat) (r : Except Int (Nat × α)) : Prop := ∀ q a, r = .ok (q, a) -> p < q /\ q <= T
def iGe {α : Type} (T p : Nat) (r : Except Int (Nat × α)) : Prop := ∀ q a, r = .ok (q, a) -> p <= q /\ q <= T
theorem iGo.ge {α : Type} {T p : Nat} {r : Except Int (Nat × α)} (h : iGo T p r) : iGe T p r := fun q a e => ⟨Nat.le_of_lt (h q a e).1, (h q a e).2⟩
theorem iGe_tk (b : Nat -> Nat) (T p n : Nat) : iGe T p (iTk b T p n) := fun q v h => by have := iTk_got h; omega
theorem iGo_tk (b : Nat -> Nat) (T p n : Nat) (hn : 1 <= n) : iGo T p (iTk b T p n) := fun q v h => by have := iTk_got h; omega
theorem iGo_nx (ls : List Int) (b : Nat -> Nat) (T p : Nat) : iGo T p (iNx ls b T p) := fun q v h => by
 obtain ⟨n, h1, h2⟩ := iNx_got h
 have a := h2.1; have c := h2.2.2.1
 simp at a c
 omega
theorem iGe_then {α γ : Type} {T p : Nat} {m : Except Int (Nat × α)} {f : Nat -> α -> Except Int (Nat × γ)} (h : iGe T p m) (hf : ∀ q a, q <= T -> iGe T q (f q a)) : iGe T p (iThen m f) := fun q c e => by
 obtain ⟨r, a, e1, e2⟩ := iThen_ok e
 have := h r a e1; have := hf r a (by omega) q c e2
 omega
theorem iGo_then {α γ : Type} {T p : Nat} {m : Except Int (Nat × α)} {f : Nat -> α -> Except Int (Nat × γ)} (h : iGo T p m) (hf : ∀ q a, q <= T -> iGe T q (f q a)) : iGo T p (iThen m f) := fun q c e => by
 obtain ⟨r, a, e1, e2⟩ := iThen_ok e
 have := h r a e1; have := hf r a (by omega) q c e2
 omega
theorem iGe_err {α : Type} (T p : Nat) (e : Int) : iGe T p (.error e : Except Int (Nat × α)) := fun q a h => by cases h
theorem iGe_ok {α : Type} {T p q : Nat} (a : α) (h : p <= q) (h' : q <= T) : iGe T p (.ok (q, a) : Except Int (Nat × α)) := fun q a h => by cases h; omega
theorem iGe_loop {σ : Type} {T : Nat} {f : Nat -> σ -> Except Int (Nat × (Bool × σ))} (hf : ∀ p s, iGo T p (f p s)) (p : Nat) (s : σ) : iGo T p (iLoop T f p s) := by
 intro q t
 generalize hn : T - p = n
 induction n using Nat.strongRecOn generalizing p s with
 | ind n ih =>
  intro h
  cases hfp : f p s with
  | error e => rw [iLoop_err hfp] at h; cases h
  | ok x =>
   obtain ⟨r, c, u⟩ := x
   have hg := hf p s r _ hfp
   cases c with
   | false => rw [iLoop_end hfp] at h; cases h; exact hg
   | true =>
    rw [iLoop_on hfp hg.1 hg.2] at h
    have := ih (T - r) (by omega) r u rfl h
    omega
def iSim {α : Type} (X : Int -> Prop) (k : Nat) (R : α -> α -> Prop) (r r' : Except Int (Nat × α)) : Prop :=
 (∀ e, r = .error e -> X e \/ r' = .error e) /\ ∀ q a, r = .ok (q, a) -> ∃ a', r' = .ok (q + k, a') /\ R a a'
theorem iSim_err {α : Type} {X : Int -> Prop} {k : Nat} {R : α -> α -> Prop} (e : Int) : iSim X k R (.error e) (.error e) := ⟨fun _ h => by cases h; exact .inr rfl, fun _ _ h => by cases h⟩
theorem iSim_x {α : Type} {X : Int -> Prop} {k : Nat} {R : α -> α -> Prop} {e : Int} {r' : Except Int (Nat × α)} (h : X e) : iSim X k R (.error e) r' := ⟨fun _ h' => by cases h'; exact .inl h, fun _ _ h => by cases h⟩
theorem iSim_ok {α : Type} {X : Int -> Prop} {k : Nat} {R : α -> α -> Prop} {q q' : Nat} {a a' : α} (h : R a a') (hq : q' = q + k) : iSim X k R (.ok (q, a)) (.ok (q', a')) := ⟨fun _ h' => (by cases h'), fun _ _ h' => (by cases h'; exact ⟨a', by rw [hq], h⟩)⟩
theorem iSim_then {α γ : Type} {X : Int -> Prop} {k : Nat} {R : α -> α -> Prop} {Q : γ -> γ -> Prop} {m m' : Except Int (Nat × α)} {f f' : Nat -> α -> Except Int (Nat × γ)} (h : iSim X k R m m') (hf : ∀ q a a', m = .ok (q, a) -> R a a' -> iSim X k Q (f q a) (f' (q + k) a')) : iSim X k Q (iThen m f) (iThen m' f') := by
 cases hm : m with
 | error e =>
  rcases h.1 e hm with hx | hx
  ·exact iSim_x hx
  ·rw [hx]; exact iSim_err e
 | ok x =>
  obtain ⟨q, a⟩ := x
  obtain ⟨a', e, hr⟩ := h.2 q a hm
  rw [e]
  exact hf q a a' hm hr
theorem iSim_if {α : Type} {X : Int -> Prop} {k : Nat} {R : α -> α -> Prop} {c c' : Prop} [Decidable c] [Decidable c'] {r r' s s' : Except Int (Nat × α)} (hc : c ↔ c') (h1 : c -> iSim X k R r r') (h2 : ¬ c -> iSim X k R s s') : iSim X k R (if c then r else s) (if c' then r' else s') := by
 by_cases h : c
 ·rw [if_pos h, if_pos (hc.1 h)]; exact h1 h
 ·rw [if_neg h, if_neg (fun h' => h (hc.2 h'))]; exact h2 h
theorem iSim_ifx {α : Type} {X : Int -> Prop} {k : Nat} {R : α -> α -> Prop} {c c' : Prop} [Decidable c] [Decidable c'] {e : Int} {s s' : Except Int (Nat × α)} (hc : c' -> c) (hx : X e \/ (c -> c')) (h2 : ¬ c -> iSim X k R s s') : iSim X k R (if c then .error e else s) (if c' then .error e else s') := by
 by_cases h : c
 ·rw [if_pos h]
  rcases hx with hx | hx
  ·exact iSim_x hx
  ·rw [if_pos (hx h)]; exact iSim_err e
 ·rw [if_neg h, if_neg (fun h' => h (hc h'))]; exact h2 h
theorem iSim_loop {σ : Type} {X : Int -> Prop} {k T T' : Nat} {R : σ -> σ -> Prop} {f f' : Nat -> σ -> Except Int (Nat × (Bool × σ))} (hT : T + k <= T') (hg : ∀ p s, iGo T p (f p s)) (hf : ∀ p s s', R s s' -> iSim X k (fun x y => x.1 = y.1 /\ R x.2 y.2) (f p s) (f' (p + k) s')) (p : Nat) (s s' : σ) (h : R s s') : iSim X k R (iLoop T f p s) (iLoop T' f' (p + k) s') := by
 generalize hn : T - p = n
 induction n using Nat.strongRecOn generalizing p s s' with
 | ind n ih =>
  cases hfp : f p s with
  | error e =>
   rw [iLoop_err hfp]
   rcases (hf p s s' h).1 e hfp with hx | hx
   ·exact iSim_x hx
   ·rw [iLoop_err hx]; exact iSim_err e
  | ok x =>
   obtain ⟨r, c, u⟩ := x
   have hgo := hg p s r _ hfp
   obtain ⟨⟨c', u'⟩, e, h1, h2⟩ := (hf p s s' h).2 r _ hfp
   simp only at h1 h2
   subst h1
   cases c with
   | false => rw [iLoop_end hfp, iLoop_end e]; exact iSim_ok h2 rfl
   | true =>
    rw [iLoop_on hfp hgo.1 hgo.2, iLoop_on e (by omega) (by omega)]
    exact ih (T - r) (by omega) r u u' h2 rfl

structure iFar (X : Int -> Prop) (k : Nat) (b b' : Nat -> Nat) (T T' : Nat) : Prop where
 bit : ∀ i, i < T -> b' (i + k) = b i
 le : T + k <= T'
 cut : T + k = T' \/ X 60
 bin : ∀ i, b i <= 1
 bin' : ∀ i, b' i <= 1
 oct : k % 8 = 0

theorem iFar.num {X : Int -> Prop} {k T T' : Nat} {b b' : Nat -> Nat} (h : iFar X k b b' T T') {p n : Nat} (hn : p + n <= T) : iNum b' (p + k) n = iNum b p n :=
 iNum_congr fun i hi => by rw [show p + k + i = p + i + k by omega]; exact h.bit _ (by omega)
theorem iFar.tk {X : Int -> Prop} {k T T' : Nat} {b b' : Nat -> Nat} (h : iFar X k b b' T T') (p n : Nat) : iSim X k (fun x y => x = y) (iTk b T p n) (iTk b' T' (p + k) n) := by
 have := h.le
 by_cases hl : p + n <= T
 ·rw [iTk_ok hl, iTk_ok (by omega)]
  exact iSim_ok (h.num hl).symm (by omega)
 ·rw [iTk_err (by omega)]
  rcases h.cut with hc | hc
  ·rw [iTk_err (by omega)]; exact iSim_err _
  ·exact iSim_x hc
theorem iFar.vl {X : Int -> Prop} {k T T' : Nat} {b b' : Nat -> Nat} (h : iFar X k b b' T T') {p n : Nat} (hn : n <= T - p) : vl (fun i => b' (p + k + i)) n = vl (fun i => b (p + i)) n :=
 vl_congr n fun i hi => by
  show b' (p + k + i) = b (p + i)
  rw [show p + k + i = p + i + k by omega]; exact h.bit _ (by omega)
theorem iFar.nx {X : Int -> Prop} {k T T' : Nat} {b b' : Nat -> Nat} (h : iFar X k b b' T T') {ls : List Int} (hF : Fit ls) (p : Nat) : iSim X k (fun x y => x = y) (iNx ls b T p) (iNx ls b' T' (p + k)) := by
 have hle := h.le
 obtain ⟨N, hN⟩ := longest_ex hF
 cases hx : iNx ls b T p with
 | ok x =>
  obtain ⟨q, s⟩ := x
  obtain ⟨n, rfl, h1, h2, h3, h4, h5⟩ := iNx_got hx
  simp only at h1 h2 h3 h4 h5
  rw [iNx_ok (s := s) (n := n) h.bin' ⟨by simp only; omega, h2, h3, h4, by simp only; rw [h.vl h1]; exact h5⟩]
  exact iSim_ok rfl (by omega)
 | error e =>
  obtain ⟨hno, hw⟩ := iNx_failed hx
  rw [iN_eq hN] at hw
  have hsame : ∀ x : Nat × Nat, x.2 <= T - p -> ¬ iHas ls b' T' (p + k) x := by
   rintro ⟨s, n⟩ hn ⟨g1, g2, g3, g4, g5⟩
   simp only at hn g1 g2 g3 g4 g5
   refine hno ⟨(s, n), hn, g2, g3, g4, ?_⟩
   rw [h.vl hn] at g5
   exact g5
  rcases hw with ⟨h1, rfl⟩ | ⟨h1, rfl⟩
  ·rcases h.cut with hc | hc
   ·rw [iNx_no (fun ⟨x, hx⟩ => hsame x (by have := hx.1; omega) hx), iN_eq hN, if_pos (by omega)]
    exact iSim_err _
   ·exact iSim_x hc
  ·rw [iNx_no (fun ⟨x, hx⟩ => hsame x ?_ hx), iN_eq hN, if_neg (by omega)]
   ·exact iSim_err _
   ·have := hN.up x.1 hx.2.1
    have h4 := hx.2.2.2.1
    omega
end Go.Proofs.YteknifnadbmfiaaGreatDoor
