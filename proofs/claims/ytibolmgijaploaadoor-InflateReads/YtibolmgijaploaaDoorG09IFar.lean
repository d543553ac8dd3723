/- Several texts, laid together: ISim, IFar. -/
import Derived.Test.YtibolmgijaploaaDoorG08ISpec
/- Two streams side by side: the same bits further on, with something told ahead, with more bits behind, with more that may be told. No Go text in sight. -/
namespace Go.Proofs.YtibolmgijaploaaDoor
set_option maxRecDepth 100000

/-- The loop, one step unfolded. -/
theorem iLoop_eq {σ : Type} (T : Nat) (f : Nat → σ → Except Int (Nat × (Bool × σ))) (p : Nat) (s : σ) :
    iLoop T f p s = match f p s with
      | .error e => .error e
      | .ok x => if x.2.1 = true then (if _h : p < x.1 ∧ x.1 ≤ T then iLoop T f x.1 x.2.2 else .error 0) else .ok (x.1, x.2.2) := by
  conv => lhs; unfold iLoop
  rfl
theorem iLoop_err {σ : Type} {T : Nat} {f : Nat → σ → Except Int (Nat × (Bool × σ))} {p : Nat} {s : σ} {e : Int} (h : f p s = .error e) : iLoop T f p s = .error e := by
  rw [iLoop_eq, h]
theorem iLoop_end {σ : Type} {T : Nat} {f : Nat → σ → Except Int (Nat × (Bool × σ))} {p q : Nat} {s t : σ} (h : f p s = .ok (q, (false, t))) : iLoop T f p s = .ok (q, t) := by
  rw [iLoop_eq, h]; rfl
theorem iLoop_on {σ : Type} {T : Nat} {f : Nat → σ → Except Int (Nat × (Bool × σ))} {p q : Nat} {s t : σ} (h : f p s = .ok (q, (true, t))) (h1 : p < q) (h2 : q ≤ T) : iLoop T f p s = iLoop T f q t := by
  conv => lhs; rw [iLoop_eq, h]
  simp [h1, h2]

/-- A step goes on, and not too far. -/
def iGo {α : Type} (T p : Nat) (r : Except Int (Nat × α)) : Prop := ∀ q a, r = .ok (q, a) → p < q ∧ q ≤ T
def iGe {α : Type} (T p : Nat) (r : Except Int (Nat × α)) : Prop := ∀ q a, r = .ok (q, a) → p ≤ q ∧ q ≤ T
theorem iGo.ge {α : Type} {T p : Nat} {r : Except Int (Nat × α)} (h : iGo T p r) : iGe T p r := fun q a e => ⟨Nat.le_of_lt (h q a e).1, (h q a e).2⟩
theorem iGe_tk (b : Nat → Nat) (T p n : Nat) : iGe T p (iTk b T p n) := fun q v h => by have := iTk_got h; omega
theorem iGo_tk (b : Nat → Nat) (T p n : Nat) (hn : 1 ≤ n) : iGo T p (iTk b T p n) := fun q v h => by have := iTk_got h; omega
theorem iGo_nx (ls : List Int) (b : Nat → Nat) (T p : Nat) : iGo T p (iNx ls b T p) := fun q v h => by
  obtain ⟨n, h1, h2⟩ := iNx_got h
  have a := h2.1; have c := h2.2.2.1
  simp at a c
  omega
theorem iGe_then {α γ : Type} {T p : Nat} {m : Except Int (Nat × α)} {f : Nat → α → Except Int (Nat × γ)} (h : iGe T p m) (hf : ∀ q a, q ≤ T → iGe T q (f q a)) : iGe T p (iThen m f) := fun q c e => by
  obtain ⟨r, a, e1, e2⟩ := iThen_ok e
  have := h r a e1; have := hf r a (by omega) q c e2
  omega
theorem iGo_then {α γ : Type} {T p : Nat} {m : Except Int (Nat × α)} {f : Nat → α → Except Int (Nat × γ)} (h : iGo T p m) (hf : ∀ q a, q ≤ T → iGe T q (f q a)) : iGo T p (iThen m f) := fun q c e => by
  obtain ⟨r, a, e1, e2⟩ := iThen_ok e
  have := h r a e1; have := hf r a (by omega) q c e2
  omega
theorem iGe_err {α : Type} (T p : Nat) (e : Int) : iGe T p (.error e : Except Int (Nat × α)) := fun q a h => by cases h
theorem iGe_ok {α : Type} {T p q : Nat} (a : α) (h : p ≤ q) (h' : q ≤ T) : iGe T p (.ok (q, a) : Except Int (Nat × α)) := fun q a h => by cases h; omega
theorem iGe_loop {σ : Type} {T : Nat} {f : Nat → σ → Except Int (Nat × (Bool × σ))} (hf : ∀ p s, iGo T p (f p s)) (p : Nat) (s : σ) : iGo T p (iLoop T f p s) := by
  intro q t
  generalize hn : T - p = n
  induction n using Nat.strongRecOn generalizing p s with
  | ind n ih =>
    intro h
    cases hfp : f p s with
    | error e => rw [iLoop_err hfp] at h; cases h
    | ok x =>
      obtain ⟨r, c, u⟩ := x
      have hg := hf p s r _ hfp
      cases c with
      | false => rw [iLoop_end hfp] at h; cases h; exact hg
      | true =>
        rw [iLoop_on hfp hg.1 hg.2] at h
        have := ih (T - r) (by omega) r u rfl h
        omega
/-- What every step keeps holds at the end. -/
theorem iLoop_inv {σ : Type} {T : Nat} {f : Nat → σ → Except Int (Nat × (Bool × σ))} (I : σ → Prop) (hf : ∀ p s q c t, I s → f p s = .ok (q, (c, t)) → I t) (hg : ∀ p s, iGo T p (f p s)) (p : Nat) (s : σ) (hs : I s) (q : Nat) (t : σ) : iLoop T f p s = .ok (q, t) → I t := by
  generalize hn : T - p = n
  induction n using Nat.strongRecOn generalizing p s with
  | ind n ih =>
    intro h
    cases hfp : f p s with
    | error e => rw [iLoop_err hfp] at h; cases h
    | ok x =>
      obtain ⟨r, c, u⟩ := x
      have hgo := hg p s r _ hfp
      have hu := hf p s r c u hs hfp
      cases c with
      | false => rw [iLoop_end hfp] at h; cases h; exact hu
      | true =>
        rw [iLoop_on hfp hgo.1 hgo.2] at h
        exact ih (T - r) (by omega) r u hu rfl h

/-- Side by side: what the one reads the other reads k bits further on; what the one misses the other misses, but for excused errors. -/
def iSim {α : Type} (X : Int → Prop) (k : Nat) (R : α → α → Prop) (r r' : Except Int (Nat × α)) : Prop :=
  (∀ e, r = .error e → X e ∨ r' = .error e) ∧ ∀ q a, r = .ok (q, a) → ∃ a', r' = .ok (q + k, a') ∧ R a a'
theorem iSim_err {α : Type} {X : Int → Prop} {k : Nat} {R : α → α → Prop} (e : Int) : iSim X k R (.error e) (.error e) := ⟨fun _ h => by cases h; exact .inr rfl, fun _ _ h => by cases h⟩
theorem iSim_x {α : Type} {X : Int → Prop} {k : Nat} {R : α → α → Prop} {e : Int} {r' : Except Int (Nat × α)} (h : X e) : iSim X k R (.error e) r' := ⟨fun _ h' => by cases h'; exact .inl h, fun _ _ h => by cases h⟩
theorem iSim_ok {α : Type} {X : Int → Prop} {k : Nat} {R : α → α → Prop} {q q' : Nat} {a a' : α} (h : R a a') (hq : q' = q + k) : iSim X k R (.ok (q, a)) (.ok (q', a')) := ⟨fun _ h' => (by cases h'), fun _ _ h' => (by cases h'; exact ⟨a', by rw [hq], h⟩)⟩
theorem iSim_then {α γ : Type} {X : Int → Prop} {k : Nat} {R : α → α → Prop} {Q : γ → γ → Prop} {m m' : Except Int (Nat × α)} {f f' : Nat → α → Except Int (Nat × γ)} (h : iSim X k R m m') (hf : ∀ q a a', m = .ok (q, a) → R a a' → iSim X k Q (f q a) (f' (q + k) a')) : iSim X k Q (iThen m f) (iThen m' f') := by
  cases hm : m with
  | error e =>
    rcases h.1 e hm with hx | hx
    · exact iSim_x hx
    · rw [hx]; exact iSim_err e
  | ok x =>
    obtain ⟨q, a⟩ := x
    obtain ⟨a', e, hr⟩ := h.2 q a hm
    rw [e]
    exact hf q a a' hm hr
theorem iSim_if {α : Type} {X : Int → Prop} {k : Nat} {R : α → α → Prop} {c c' : Prop} [Decidable c] [Decidable c'] {r r' s s' : Except Int (Nat × α)} (hc : c ↔ c') (h1 : c → iSim X k R r r') (h2 : ¬ c → iSim X k R s s') : iSim X k R (if c then r else s) (if c' then r' else s') := by
  by_cases h : c
  · rw [if_pos h, if_pos (hc.1 h)]; exact h1 h
  · rw [if_neg h, if_neg (fun h' => h (hc.2 h'))]; exact h2 h
theorem iSim_ifx {α : Type} {X : Int → Prop} {k : Nat} {R : α → α → Prop} {c c' : Prop} [Decidable c] [Decidable c'] {e : Int} {s s' : Except Int (Nat × α)} (hc : c' → c) (hx : X e ∨ (c → c')) (h2 : ¬ c → iSim X k R s s') : iSim X k R (if c then .error e else s) (if c' then .error e else s') := by
  by_cases h : c
  · rw [if_pos h]
    rcases hx with hx | hx
    · exact iSim_x hx
    · rw [if_pos (hx h)]; exact iSim_err e
  · rw [if_neg h, if_neg (fun h' => h (hc h'))]; exact h2 h
theorem iSim_loop {σ : Type} {X : Int → Prop} {k T T' : Nat} {R : σ → σ → Prop} {f f' : Nat → σ → Except Int (Nat × (Bool × σ))} (hT : T + k ≤ T') (hg : ∀ p s, iGo T p (f p s)) (hf : ∀ p s s', R s s' → iSim X k (fun x y => x.1 = y.1 ∧ R x.2 y.2) (f p s) (f' (p + k) s')) (p : Nat) (s s' : σ) (h : R s s') : iSim X k R (iLoop T f p s) (iLoop T' f' (p + k) s') := by
  generalize hn : T - p = n
  induction n using Nat.strongRecOn generalizing p s s' with
  | ind n ih =>
    cases hfp : f p s with
    | error e =>
      rw [iLoop_err hfp]
      rcases (hf p s s' h).1 e hfp with hx | hx
      · exact iSim_x hx
      · rw [iLoop_err hx]; exact iSim_err e
    | ok x =>
      obtain ⟨r, c, u⟩ := x
      have hgo := hg p s r _ hfp
      obtain ⟨⟨c', u'⟩, e, h1, h2⟩ := (hf p s s' h).2 r _ hfp
      simp only at h1 h2
      subst h1
      cases c with
      | false => rw [iLoop_end hfp, iLoop_end e]; exact iSim_ok h2 rfl
      | true =>
        rw [iLoop_on hfp hgo.1 hgo.2, iLoop_on e (by omega) (by omega)]
        exact ih (T - r) (by omega) r u u' h2 rfl

/-- The same bits, k further on, perhaps more of them. -/
structure iFar (X : Int → Prop) (k : Nat) (b b' : Nat → Nat) (T T' : Nat) : Prop where
  bit : ∀ i, i < T → b' (i + k) = b i
  le : T + k ≤ T'
  cut : T + k = T' ∨ X 60
  bin : ∀ i, b i ≤ 1
  bin' : ∀ i, b' i ≤ 1
  oct : k % 8 = 0

theorem iFar.num {X : Int → Prop} {k T T' : Nat} {b b' : Nat → Nat} (h : iFar X k b b' T T') {p n : Nat} (hn : p + n ≤ T) : iNum b' (p + k) n = iNum b p n :=
  iNum_congr fun i hi => by rw [show p + k + i = p + i + k by omega]; exact h.bit _ (by omega)
theorem iFar.tk {X : Int → Prop} {k T T' : Nat} {b b' : Nat → Nat} (h : iFar X k b b' T T') (p n : Nat) : iSim X k (fun x y => x = y) (iTk b T p n) (iTk b' T' (p + k) n) := by
  have := h.le
  by_cases hl : p + n ≤ T
  · rw [iTk_ok hl, iTk_ok (by omega)]
    exact iSim_ok (h.num hl).symm (by omega)
  · rw [iTk_err (by omega)]
    rcases h.cut with hc | hc
    · rw [iTk_err (by omega)]; exact iSim_err _
    · exact iSim_x hc
theorem iFar.vl {X : Int → Prop} {k T T' : Nat} {b b' : Nat → Nat} (h : iFar X k b b' T T') {p n : Nat} (hn : n ≤ T - p) : vl (fun i => b' (p + k + i)) n = vl (fun i => b (p + i)) n :=
  vl_congr n fun i hi => by
    show b' (p + k + i) = b (p + i)
    rw [show p + k + i = p + i + k by omega]; exact h.bit _ (by omega)
theorem iFar.nx {X : Int → Prop} {k T T' : Nat} {b b' : Nat → Nat} (h : iFar X k b b' T T') {ls : List Int} (hF : Fit ls) (p : Nat) : iSim X k (fun x y => x = y) (iNx ls b T p) (iNx ls b' T' (p + k)) := by
  have hle := h.le
  obtain ⟨N, hN⟩ := longest_ex hF
  cases hx : iNx ls b T p with
  | ok x =>
    obtain ⟨q, s⟩ := x
    obtain ⟨n, rfl, h1, h2, h3, h4, h5⟩ := iNx_got hx
    simp only at h1 h2 h3 h4 h5
    rw [iNx_ok (s := s) (n := n) h.bin' ⟨by simp only; omega, h2, h3, h4, by simp only; rw [h.vl h1]; exact h5⟩]
    exact iSim_ok rfl (by omega)
  | error e =>
    obtain ⟨hno, hw⟩ := iNx_failed hx
    rw [iN_eq hN] at hw
    have hsame : ∀ x : Nat × Nat, x.2 ≤ T - p → ¬ iHas ls b' T' (p + k) x := by
      rintro ⟨s, n⟩ hn ⟨g1, g2, g3, g4, g5⟩
      simp only at hn g1 g2 g3 g4 g5
      refine hno ⟨(s, n), hn, g2, g3, g4, ?_⟩
      rw [h.vl hn] at g5
      exact g5
    rcases hw with ⟨h1, rfl⟩ | ⟨h1, rfl⟩
    · rcases h.cut with hc | hc
      · rw [iNx_no (fun ⟨x, hx⟩ => hsame x (by have := hx.1; omega) hx), iN_eq hN, if_pos (by omega)]
        exact iSim_err _
      · exact iSim_x hc
    · rw [iNx_no (fun ⟨x, hx⟩ => hsame x ?_ hx), iN_eq hN, if_neg (by omega)]
      · exact iSim_err _
      · have := hN.up x.1 hx.2.1
        have h4 := hx.2.2.2.1
        omega
end Go.Proofs.YtibolmgijaploaaDoor

/- Inflate of two streams side by side. No Go text in sight. -/
namespace Go.Proofs.YtibolmgijaploaaDoor
set_option maxRecDepth 100000

theorem iGe_if {α : Type} {T p : Nat} {c : Prop} [Decidable c] {r s : Except Int (Nat × α)} (h1 : c → iGe T p r) (h2 : ¬ c → iGe T p s) : iGe T p (if c then r else s) := by
  by_cases h : c
  · rw [if_pos h]; exact h1 h
  · rw [if_neg h]; exact h2 h
theorem iGo_one (S D : List Int) (b : Nat → Nat) (T most p : Nat) (out : List Int) : iGo T p (iOne S D b T most p out) := by
  unfold iOne
  refine iGo_then (iGo_nx S b T p) fun q v hq => ?_
  refine iGe_if (fun _ => iGe_if (fun _ => iGe_err _ _ _) fun _ => iGe_ok _ (Nat.le_refl _) hq) fun _ => ?_
  refine iGe_if (fun _ => iGe_ok _ (Nat.le_refl _) hq) fun _ => iGe_if (fun _ => iGe_err _ _ _) fun _ => ?_
  refine iGe_then (iGe_tk b T q _) fun q m hq => iGe_then (iGo_nx D b T q).ge fun q w hq => iGe_if (fun _ => iGe_err _ _ _) fun _ => ?_
  refine iGe_then (iGe_tk b T q _) fun q y hq => iGe_if (fun _ => iGe_err _ _ _) fun _ => iGe_if (fun _ => iGe_err _ _ _) fun _ => iGe_ok _ (Nat.le_refl _) hq
theorem iGo_dat (S D : List Int) (b : Nat → Nat) (T most p : Nat) (out : List Int) : iGo T p (iDat S D b T most p out) := iGe_loop (fun p s => iGo_one S D b T most p s) p out
theorem iGe_sto (b : Nat → Nat) (T most p : Nat) (out : List Int) : iGe T p (iSto b T most p out) := by
  unfold iSto
  intro q a h
  obtain ⟨q1, n, h1, h⟩ := iThen_ok h
  obtain ⟨q2, m, h2, h⟩ := iThen_ok h
  have g1 := iTk_got h1
  have g2 := iTk_got h2
  split at h
  · cases h
  · split at h
    · cases h
    · split at h
      · cases h
      · cases h; omega
theorem iGe_rd3 (b : Nat → Nat) (T n p i : Nat) (first : List Int) (hp : p ≤ T) : iGe T p (iRd3 b T n p i first) := by
  induction n generalizing p i first with
  | zero => exact iGe_ok _ (Nat.le_refl _) hp
  | succ n ih =>
    rw [iRd3]
    exact iGe_then (iGe_tk b T p 3) fun q v hq => ih q _ _ hq
theorem iGo_len (first : List Int) (many : Nat) (b : Nat → Nat) (T p : Nat) (all : List Int) : iGo T p (iLen first many b T p all) := by
  unfold iLen
  refine iGo_then (iGo_nx first b T p) fun q v hq => ?_
  refine iGe_if (fun _ => iGe_ok _ (Nat.le_refl _) hq) fun _ => iGe_if (fun _ => iGe_err _ _ _) fun _ => ?_
  exact iGe_then (iGe_tk b T q _) fun q x hq => iGe_if (fun _ => iGe_err _ _ _) fun _ => iGe_ok _ (Nat.le_refl _) hq
theorem iGe_hdr (b : Nat → Nat) (T p : Nat) : iGe T p (iHdr b T p) := by
  unfold iHdr
  refine iGe_then (iGe_tk b T p 5) fun q x hq => iGe_then (iGe_tk b T q 5) fun q y hq => iGe_then (iGe_tk b T q 4) fun q z hq => iGe_if (fun _ => iGe_err _ _ _) fun _ => ?_
  refine iGe_then (iGe_rd3 b T _ q 0 _ hq) fun q first hq => iGe_if (fun _ => iGe_err _ _ _) fun _ => ?_
  refine iGe_then (iGe_loop (fun p s => iGo_len first _ b T p s) q []).ge fun q all hq => iGe_if (fun _ => iGe_err _ _ _) fun _ => iGe_ok _ (Nat.le_refl _) hq
theorem iGe_kind (b : Nat → Nat) (T most kind p : Nat) (out : List Int) : iGe T p (iKind b T most kind p out) := by
  unfold iKind
  refine iGe_if (fun _ => iGe_sto b T most p out) fun _ => iGe_if (fun _ => (iGo_dat _ _ b T most p out).ge) fun _ => iGe_if (fun _ => ?_) fun _ => iGe_err _ _ _
  exact iGe_then (iGe_hdr b T p) fun q sd hq => (iGo_dat _ _ b T most q out).ge
theorem iGo_blk (b : Nat → Nat) (T most p : Nat) (out : List Int) : iGo T p (iBlk b T most p out) := by
  unfold iBlk
  refine iGo_then (iGo_tk b T p 1 (by omega)) fun q l hq => iGe_then (iGe_tk b T q 2) fun q kind hq => iGe_then (iGe_kind b T most kind q out) fun q o hq => iGe_ok _ (Nat.le_refl _) hq
theorem iGo_inf (b : Nat → Nat) (T most : Nat) : iGo T 0 (iInf b T most) := iGe_loop (fun p s => iGo_blk b T most p s) 0 []

/-! A run. -/
theorem iDb_pos (w : Nat) : 1 ≤ iDb w := by unfold iDb; omega
theorem iCpy_length (out : List Int) (d n : Nat) : (iCpy out d n).length = out.length + n := by
  induction n generalizing out with
  | zero => rfl
  | succ n ih => rw [iCpy, ih]; simp; omega
theorem iCpy_ahead (s out : List Int) (d n : Nat) (h2 : d ≤ out.length) : iCpy (s ++ out) d n = s ++ iCpy out d n := by
  induction n generalizing out with
  | zero => rfl
  | succ n ih =>
    rw [iCpy, iCpy]
    have e : ln (s ++ out) ((s ++ out).length - d) = ln out (out.length - d) := by
      unfold ln
      rw [List.length_append, show s.length + out.length - d = s.length + (out.length - d) by omega]
      simp [List.getD, List.getElem?_append_right]
    rw [e, List.append_assoc, ih _ (by simp; omega)]

/-- What was told ahead, and how much more may be told. -/
structure iMay (X : Int → Prop) (s : List Int) (most most' : Nat) : Prop where
  le : most + s.length ≤ most'
  over : most + s.length = most' ∨ X 65
  back : s = [] ∨ X 64

variable {X : Int → Prop} {k T T' : Nat} {b b' : Nat → Nat} {s : List Int} {most most' : Nat}
theorem iFar.one (h : iFar X k b b' T T') (m : iMay X s most most') {S D : List Int} (hS : Fit S) (hD : Fit D) (p : Nat) (o o' : List Int) (ho : o' = s ++ o) :
    iSim X k (fun x y => x.1 = y.1 ∧ y.2 = s ++ x.2) (iOne S D b T most p o) (iOne S D b' T' most' (p + k) o') := by
  subst ho
  have hl : (s ++ o).length = s.length + o.length := List.length_append
  have hm := m.le
  unfold iOne
  refine iSim_then (h.nx hS p) ?_
  rintro q v _ - rfl
  refine iSim_if Iff.rfl (fun _ => ?_) fun _ => iSim_if Iff.rfl (fun _ => iSim_ok ⟨rfl, rfl⟩ rfl) fun _ => iSim_if Iff.rfl (fun _ => iSim_err _) fun _ => ?_
  · refine iSim_ifx (by omega) ?_ fun _ => iSim_ok ⟨rfl, by simp⟩ rfl
    exact m.over.symm.imp id fun _ _ => by omega
  · refine iSim_then (h.tk q _) ?_
    rintro q x _ - rfl
    refine iSim_then (h.nx hD q) ?_
    rintro q w _ - rfl
    refine iSim_if Iff.rfl (fun _ => iSim_err _) fun _ => ?_
    refine iSim_then (h.tk q _) ?_
    rintro q y _ - rfl
    refine iSim_ifx (by omega) ?_ fun hd => ?_
    · exact m.back.symm.imp id fun e _ => by subst e; simpa using by assumption
    refine iSim_ifx (by omega) ?_ fun _ => iSim_ok ⟨rfl, ?_⟩ rfl
    · exact m.over.symm.imp id fun _ _ => by omega
    · exact iCpy_ahead _ _ _ _ (by omega)
theorem iFar.dat (h : iFar X k b b' T T') (m : iMay X s most most') {S D : List Int} (hS : Fit S) (hD : Fit D) (p : Nat) (o : List Int) :
    iSim X k (fun x y => y = s ++ x) (iDat S D b T most p o) (iDat S D b' T' most' (p + k) (s ++ o)) :=
  iSim_loop (R := fun x y => y = s ++ x) h.le (fun p s => iGo_one S D b T most p s) (fun p o o' ho => h.one m hS hD p o o' ho) p o _ rfl
theorem iFar.bytes (h : iFar X k b b' T T') {q n : Nat} (hq : q + 8 * n ≤ T) : iBytes b' (q + k) n = iBytes b q n := by
  unfold iBytes
  refine List.map_congr_left fun i hi => ?_
  have := List.mem_range.1 hi
  rw [show q + k + 8 * i = q + 8 * i + k by omega, h.num (by omega)]
theorem iFar.sto (h : iFar X k b b' T T') (m : iMay X s most most') (p : Nat) (o : List Int) : iSim X k (fun x y => y = s ++ x) (iSto b T most p o) (iSto b' T' most' (p + k) (s ++ o)) := by
  have hl : (s ++ o).length = s.length + o.length := List.length_append
  have hm := m.le
  have hle := h.le
  have ho := h.oct
  unfold iSto
  rw [show (p + k + 7) / 8 * 8 = (p + 7) / 8 * 8 + k by omega]
  refine iSim_then (h.tk _ 16) ?_
  rintro q n _ - rfl
  refine iSim_then (h.tk q 16) ?_
  rintro q n' _ - rfl
  refine iSim_if Iff.rfl (fun _ => iSim_err _) fun _ => ?_
  refine iSim_ifx (by omega) (m.over.symm.imp id fun _ _ => by omega) fun _ => ?_
  refine iSim_ifx (by omega) (h.cut.symm.imp id fun _ _ => by omega) fun hn => iSim_ok ?_ (by omega)
  rw [h.bytes (by omega), List.append_assoc]
theorem iFar.rd3 (h : iFar X k b b' T T') (n p i : Nat) (first : List Int) : iSim X k (fun x y => x = y) (iRd3 b T n p i first) (iRd3 b' T' n (p + k) i first) := by
  induction n generalizing p i first with
  | zero => exact iSim_ok rfl rfl
  | succ n ih =>
    rw [iRd3, iRd3]
    refine iSim_then (h.tk p 3) ?_
    rintro q v _ - rfl
    exact ih q _ _
theorem iFar.len (h : iFar X k b b' T T') {first : List Int} (hf : Fit first) (many p : Nat) (all all' : List Int) (ha : all = all') : iSim X k (fun x y => x.1 = y.1 ∧ x.2 = y.2) (iLen first many b T p all) (iLen first many b' T' (p + k) all') := by
  subst ha
  unfold iLen
  refine iSim_then (h.nx hf p) ?_
  rintro q v _ - rfl
  refine iSim_if Iff.rfl (fun _ => iSim_ok ⟨rfl, rfl⟩ rfl) fun _ => iSim_if Iff.rfl (fun _ => iSim_err _) fun _ => ?_
  refine iSim_then (h.tk q _) ?_
  rintro q x _ - rfl
  exact iSim_if Iff.rfl (fun _ => iSim_err _) fun _ => iSim_ok ⟨rfl, rfl⟩ rfl
theorem iFar.hdr (h : iFar X k b b' T T') (p : Nat) : iSim X k (fun x y => x = y ∧ Fit x.1 ∧ Fit x.2) (iHdr b T p) (iHdr b' T' (p + k)) := by
  unfold iHdr
  refine iSim_then (h.tk p 5) ?_
  rintro q x _ - rfl
  refine iSim_then (h.tk q 5) ?_
  rintro q y _ - rfl
  refine iSim_then (h.tk q 4) ?_
  rintro q z _ - rfl
  refine iSim_if Iff.rfl (fun _ => iSim_err _) fun _ => ?_
  refine iSim_then (h.rd3 _ q 0 _) ?_
  rintro q first _ - rfl
  refine iSim_if Iff.rfl (fun _ => iSim_err _) fun hc => ?_
  have hF := (check_ok (Decidable.not_not.1 hc)).2.1
  refine iSim_then (iSim_loop (R := fun x y => x = y) h.le (fun p s => iGo_len first _ b T p s) (fun p a a' e => h.len hF _ p a a' e) q [] [] rfl) ?_
  rintro q all _ - rfl
  refine iSim_if Iff.rfl (fun _ => iSim_err _) fun hc => iSim_ok ⟨rfl, ?_, ?_⟩ rfl
  · exact (check_ok (Decidable.not_not.1 fun e => hc (.inr (.inl e)))).2.1
  · exact (check_ok (Decidable.not_not.1 fun e => hc (.inr (.inr e)))).2.1
theorem fit_fix : Fit iFix := by unfold Fit iFix; intro x hx; simp only [List.mem_append, List.mem_replicate] at hx; omega
theorem fit_five : Fit iFive := by unfold Fit iFive; intro x hx; simp only [List.mem_replicate] at hx; omega
theorem iFar.kind (h : iFar X k b b' T T') (m : iMay X s most most') (kind p : Nat) (o : List Int) : iSim X k (fun x y => y = s ++ x) (iKind b T most kind p o) (iKind b' T' most' kind (p + k) (s ++ o)) := by
  unfold iKind
  refine iSim_if Iff.rfl (fun _ => h.sto m p o) fun _ => iSim_if Iff.rfl (fun _ => h.dat m fit_fix fit_five p o) fun _ => iSim_if Iff.rfl (fun _ => ?_) fun _ => iSim_err _
  refine iSim_then (h.hdr p) ?_
  rintro q sd _ - ⟨rfl, h1, h2⟩
  exact h.dat m h1 h2 q o
theorem iFar.blk (h : iFar X k b b' T T') (m : iMay X s most most') (p : Nat) (o o' : List Int) (ho : o' = s ++ o) : iSim X k (fun x y => x.1 = y.1 ∧ y.2 = s ++ x.2) (iBlk b T most p o) (iBlk b' T' most' (p + k) o') := by
  subst ho
  unfold iBlk
  refine iSim_then (h.tk p 1) ?_
  rintro q l _ - rfl
  refine iSim_then (h.tk q 2) ?_
  rintro q kind _ - rfl
  refine iSim_then (h.kind m kind q o) ?_
  rintro q a a' - rfl
  exact iSim_ok ⟨rfl, rfl⟩ rfl
theorem iFar.inf (h : iFar X k b b' T T') (m : iMay X s most most') : iSim X k (fun x y => y = s ++ x) (iInf b T most) (iLoop T' (iBlk b' T' most') k s) := by
  have := iSim_loop (R := fun x y => y = s ++ x) h.le (fun p o => iGo_blk b T most p o) (fun p o o' ho => h.blk m p o o' ho) 0 [] s (by simp)
  rw [Nat.zero_add] at this
  exact this
end Go.Proofs.YtibolmgijaploaaDoor
