/- Several texts, laid together: IFar, ILaws, IStored, ILens, PSpec. -/
import Derived.Test.YtlakgbckopjelabGreatDoorISim
/- Inflate of two streams side by side. No Go text in sight. -/
namespace Go.Proofs.YtlakgbckopjelabGreatDoor
set_option maxRecDepth 100000

theorem iGe_if {α : Type} {T p : Nat} {c : Prop} [Decidable c] {r s : Except Int (Nat × α)} (h1 : c → iGe T p r) (h2 : ¬ c → iGe T p s) : iGe T p (if c then r else s) := by
  by_cases h : c
  · rw [if_pos h]; exact h1 h
  · rw [if_neg h]; exact h2 h
theorem iGo_one (S D : List Int) (b : Nat → Nat) (T most p : Nat) (out : List Int) : iGo T p (iOne S D b T most p out) := by
  unfold iOne
  refine iGo_then (iGo_nx S b T p) fun q v hq => ?_
  refine iGe_if (fun _ => iGe_if (fun _ => iGe_err _ _ _) fun _ => iGe_ok _ (Nat.le_refl _) hq) fun _ => ?_
  refine iGe_if (fun _ => iGe_ok _ (Nat.le_refl _) hq) fun _ => iGe_if (fun _ => iGe_err _ _ _) fun _ => ?_
  refine iGe_then (iGe_tk b T q _) fun q m hq => iGe_then (iGo_nx D b T q).ge fun q w hq => iGe_if (fun _ => iGe_err _ _ _) fun _ => ?_
  refine iGe_then (iGe_tk b T q _) fun q y hq => iGe_if (fun _ => iGe_err _ _ _) fun _ => iGe_if (fun _ => iGe_err _ _ _) fun _ => iGe_ok _ (Nat.le_refl _) hq
theorem iGo_dat (S D : List Int) (b : Nat → Nat) (T most p : Nat) (out : List Int) : iGo T p (iDat S D b T most p out) := iGe_loop (fun p s => iGo_one S D b T most p s) p out
theorem iGe_sto (b : Nat → Nat) (T most p : Nat) (out : List Int) : iGe T p (iSto b T most p out) := by
  unfold iSto
  intro q a h
  obtain ⟨q1, n, h1, h⟩ := iThen_ok h
  obtain ⟨q2, m, h2, h⟩ := iThen_ok h
  have g1 := iTk_got h1
  have g2 := iTk_got h2
  split at h
  · cases h
  · split at h
    · cases h
    · split at h
      · cases h
      · cases h; omega
theorem iGe_rd3 (b : Nat → Nat) (T n p i : Nat) (first : List Int) (hp : p ≤ T) : iGe T p (iRd3 b T n p i first) := by
  induction n generalizing p i first with
  | zero => exact iGe_ok _ (Nat.le_refl _) hp
  | succ n ih =>
    rw [iRd3]
    exact iGe_then (iGe_tk b T p 3) fun q v hq => ih q _ _ hq
theorem iGo_len (first : List Int) (many : Nat) (b : Nat → Nat) (T p : Nat) (all : List Int) : iGo T p (iLen first many b T p all) := by
  unfold iLen
  refine iGo_then (iGo_nx first b T p) fun q v hq => ?_
  refine iGe_if (fun _ => iGe_ok _ (Nat.le_refl _) hq) fun _ => iGe_if (fun _ => iGe_err _ _ _) fun _ => ?_
  exact iGe_then (iGe_tk b T q _) fun q x hq => iGe_if (fun _ => iGe_err _ _ _) fun _ => iGe_ok _ (Nat.le_refl _) hq
theorem iGe_hdr (b : Nat → Nat) (T p : Nat) : iGe T p (iHdr b T p) := by
  unfold iHdr
  refine iGe_then (iGe_tk b T p 5) fun q x hq => iGe_then (iGe_tk b T q 5) fun q y hq => iGe_then (iGe_tk b T q 4) fun q z hq => iGe_if (fun _ => iGe_err _ _ _) fun _ => ?_
  refine iGe_then (iGe_rd3 b T _ q 0 _ hq) fun q first hq => iGe_if (fun _ => iGe_err _ _ _) fun _ => ?_
  refine iGe_then (iGe_loop (fun p s => iGo_len first _ b T p s) q []).ge fun q all hq => iGe_if (fun _ => iGe_err _ _ _) fun _ => iGe_ok _ (Nat.le_refl _) hq
theorem iGe_kind (b : Nat → Nat) (T most kind p : Nat) (out : List Int) : iGe T p (iKind b T most kind p out) := by
  unfold iKind
  refine iGe_if (fun _ => iGe_sto b T most p out) fun _ => iGe_if (fun _ => (iGo_dat _ _ b T most p out).ge) fun _ => iGe_if (fun _ => ?_) fun _ => iGe_err _ _ _
  exact iGe_then (iGe_hdr b T p) fun q sd hq => (iGo_dat _ _ b T most q out).ge
theorem iGo_blk (b : Nat → Nat) (T most p : Nat) (out : List Int) : iGo T p (iBlk b T most p out) := by
  unfold iBlk
  refine iGo_then (iGo_tk b T p 1 (by omega)) fun q l hq => iGe_then (iGe_tk b T q 2) fun q kind hq => iGe_then (iGe_kind b T most kind q out) fun q o hq => iGe_ok _ (Nat.le_refl _) hq
/-! A run. -/
theorem iDb_pos (w : Nat) : 1 ≤ iDb w := by unfold iDb; omega
theorem iCpy_length (out : List Int) (d n : Nat) : (iCpy out d n).length = out.length + n := by
  induction n generalizing out with
  | zero => rfl
  | succ n ih => rw [iCpy, ih]; simp; omega
theorem iCpy_ahead (s out : List Int) (d n : Nat) (h2 : d ≤ out.length) : iCpy (s ++ out) d n = s ++ iCpy out d n := by
  induction n generalizing out with
  | zero => rfl
  | succ n ih =>
    rw [iCpy, iCpy]
    have e : ln (s ++ out) ((s ++ out).length - d) = ln out (out.length - d) := by
      unfold ln
      rw [List.length_append, show s.length + out.length - d = s.length + (out.length - d) by omega]
      simp [List.getD, List.getElem?_append_right]
    rw [e, List.append_assoc, ih _ (by simp; omega)]

/-- What was told ahead, and how much more may be told. -/
structure iMay (X : Int → Prop) (s : List Int) (most most' : Nat) : Prop where
  le : most + s.length ≤ most'
  over : most + s.length = most' ∨ X 65
  back : s = [] ∨ X 64

variable {X : Int → Prop} {k T T' : Nat} {b b' : Nat → Nat} {s : List Int} {most most' : Nat}
theorem iFar.one (h : iFar X k b b' T T') (m : iMay X s most most') {S D : List Int} (hS : Fit S) (hD : Fit D) (p : Nat) (o o' : List Int) (ho : o' = s ++ o) :
    iSim X k (fun x y => x.1 = y.1 ∧ y.2 = s ++ x.2) (iOne S D b T most p o) (iOne S D b' T' most' (p + k) o') := by
  subst ho
  have hl : (s ++ o).length = s.length + o.length := List.length_append
  have hm := m.le
  unfold iOne
  refine iSim_then (h.nx hS p) ?_
  rintro q v _ - rfl
  refine iSim_if Iff.rfl (fun _ => ?_) fun _ => iSim_if Iff.rfl (fun _ => iSim_ok ⟨rfl, rfl⟩ rfl) fun _ => iSim_if Iff.rfl (fun _ => iSim_err _) fun _ => ?_
  · refine iSim_ifx (by omega) ?_ fun _ => iSim_ok ⟨rfl, by simp⟩ rfl
    exact m.over.symm.imp id fun _ _ => by omega
  · refine iSim_then (h.tk q _) ?_
    rintro q x _ - rfl
    refine iSim_then (h.nx hD q) ?_
    rintro q w _ - rfl
    refine iSim_if Iff.rfl (fun _ => iSim_err _) fun _ => ?_
    refine iSim_then (h.tk q _) ?_
    rintro q y _ - rfl
    refine iSim_ifx (by omega) ?_ fun hd => ?_
    · exact m.back.symm.imp id fun e _ => by subst e; simpa using by assumption
    refine iSim_ifx (by omega) ?_ fun _ => iSim_ok ⟨rfl, ?_⟩ rfl
    · exact m.over.symm.imp id fun _ _ => by omega
    · exact iCpy_ahead _ _ _ _ (by omega)
theorem iFar.dat (h : iFar X k b b' T T') (m : iMay X s most most') {S D : List Int} (hS : Fit S) (hD : Fit D) (p : Nat) (o : List Int) :
    iSim X k (fun x y => y = s ++ x) (iDat S D b T most p o) (iDat S D b' T' most' (p + k) (s ++ o)) :=
  iSim_loop (R := fun x y => y = s ++ x) h.le (fun p s => iGo_one S D b T most p s) (fun p o o' ho => h.one m hS hD p o o' ho) p o _ rfl
theorem iFar.bytes (h : iFar X k b b' T T') {q n : Nat} (hq : q + 8 * n ≤ T) : iBytes b' (q + k) n = iBytes b q n := by
  unfold iBytes
  refine List.map_congr_left fun i hi => ?_
  have := List.mem_range.1 hi
  rw [show q + k + 8 * i = q + 8 * i + k by omega, h.num (by omega)]
theorem iFar.sto (h : iFar X k b b' T T') (m : iMay X s most most') (p : Nat) (o : List Int) : iSim X k (fun x y => y = s ++ x) (iSto b T most p o) (iSto b' T' most' (p + k) (s ++ o)) := by
  have hl : (s ++ o).length = s.length + o.length := List.length_append
  have hm := m.le
  have hle := h.le
  have ho := h.oct
  unfold iSto
  rw [show (p + k + 7) / 8 * 8 = (p + 7) / 8 * 8 + k by omega]
  refine iSim_then (h.tk _ 16) ?_
  rintro q n _ - rfl
  refine iSim_then (h.tk q 16) ?_
  rintro q n' _ - rfl
  refine iSim_if Iff.rfl (fun _ => iSim_err _) fun _ => ?_
  refine iSim_ifx (by omega) (m.over.symm.imp id fun _ _ => by omega) fun _ => ?_
  refine iSim_ifx (by omega) (h.cut.symm.imp id fun _ _ => by omega) fun hn => iSim_ok ?_ (by omega)
  rw [h.bytes (by omega), List.append_assoc]
theorem iFar.rd3 (h : iFar X k b b' T T') (n p i : Nat) (first : List Int) : iSim X k (fun x y => x = y) (iRd3 b T n p i first) (iRd3 b' T' n (p + k) i first) := by
  induction n generalizing p i first with
  | zero => exact iSim_ok rfl rfl
  | succ n ih =>
    rw [iRd3, iRd3]
    refine iSim_then (h.tk p 3) ?_
    rintro q v _ - rfl
    exact ih q _ _
theorem iFar.len (h : iFar X k b b' T T') {first : List Int} (hf : Fit first) (many p : Nat) (all all' : List Int) (ha : all = all') : iSim X k (fun x y => x.1 = y.1 ∧ x.2 = y.2) (iLen first many b T p all) (iLen first many b' T' (p + k) all') := by
  subst ha
  unfold iLen
  refine iSim_then (h.nx hf p) ?_
  rintro q v _ - rfl
  refine iSim_if Iff.rfl (fun _ => iSim_ok ⟨rfl, rfl⟩ rfl) fun _ => iSim_if Iff.rfl (fun _ => iSim_err _) fun _ => ?_
  refine iSim_then (h.tk q _) ?_
  rintro q x _ - rfl
  exact iSim_if Iff.rfl (fun _ => iSim_err _) fun _ => iSim_ok ⟨rfl, rfl⟩ rfl
theorem iFar.hdr (h : iFar X k b b' T T') (p : Nat) : iSim X k (fun x y => x = y ∧ Fit x.1 ∧ Fit x.2) (iHdr b T p) (iHdr b' T' (p + k)) := by
  unfold iHdr
  refine iSim_then (h.tk p 5) ?_
  rintro q x _ - rfl
  refine iSim_then (h.tk q 5) ?_
  rintro q y _ - rfl
  refine iSim_then (h.tk q 4) ?_
  rintro q z _ - rfl
  refine iSim_if Iff.rfl (fun _ => iSim_err _) fun _ => ?_
  refine iSim_then (h.rd3 _ q 0 _) ?_
  rintro q first _ - rfl
  refine iSim_if Iff.rfl (fun _ => iSim_err _) fun hc => ?_
  have hF := (check_ok (Decidable.not_not.1 hc)).2.1
  refine iSim_then (iSim_loop (R := fun x y => x = y) h.le (fun p s => iGo_len first _ b T p s) (fun p a a' e => h.len hF _ p a a' e) q [] [] rfl) ?_
  rintro q all _ - rfl
  refine iSim_if Iff.rfl (fun _ => iSim_err _) fun hc => iSim_ok ⟨rfl, ?_, ?_⟩ rfl
  · exact (check_ok (Decidable.not_not.1 fun e => hc (.inr (.inl e)))).2.1
  · exact (check_ok (Decidable.not_not.1 fun e => hc (.inr (.inr e)))).2.1
theorem fit_fix : Fit iFix := by unfold Fit iFix; intro x hx; simp only [List.mem_append, List.mem_replicate] at hx; omega
theorem fit_five : Fit iFive := by unfold Fit iFive; intro x hx; simp only [List.mem_replicate] at hx; omega
theorem iFar.kind (h : iFar X k b b' T T') (m : iMay X s most most') (kind p : Nat) (o : List Int) : iSim X k (fun x y => y = s ++ x) (iKind b T most kind p o) (iKind b' T' most' kind (p + k) (s ++ o)) := by
  unfold iKind
  refine iSim_if Iff.rfl (fun _ => h.sto m p o) fun _ => iSim_if Iff.rfl (fun _ => h.dat m fit_fix fit_five p o) fun _ => iSim_if Iff.rfl (fun _ => ?_) fun _ => iSim_err _
  refine iSim_then (h.hdr p) ?_
  rintro q sd _ - ⟨rfl, h1, h2⟩
  exact h.dat m h1 h2 q o
end Go.Proofs.YtlakgbckopjelabGreatDoor

/- What follows of Inflate: more bytes behind, more that may be told, a stream cut off, a stream behind a stored block, stored blocks alone. No Go text in sight. -/
namespace Go.Proofs.YtlakgbckopjelabGreatDoor
set_option maxRecDepth 100000

/-! Errors are those of the document. -/
def iBad {α : Type} (r : Except Int (Nat × α)) : Prop := ∀ e, r = .error e → 60 ≤ e ∧ e ≤ 65
theorem iBad_err {α : Type} {e : Int} (h : 60 ≤ e ∧ e ≤ 65) : iBad (.error e : Except Int (Nat × α)) := fun _ h' => by cases h'; exact h
theorem iBad_ok {α : Type} (x : Nat × α) : iBad (.ok x : Except Int (Nat × α)) := fun _ h' => by cases h'
theorem iBad_if {α : Type} {c : Prop} [Decidable c] {r s : Except Int (Nat × α)} (h1 : iBad r) (h2 : iBad s) : iBad (if c then r else s) := by
  by_cases h : c
  · rw [if_pos h]; exact h1
  · rw [if_neg h]; exact h2
theorem iBad_then {α γ : Type} {m : Except Int (Nat × α)} {f : Nat → α → Except Int (Nat × γ)} (h : iBad m) (hf : ∀ q a, iBad (f q a)) : iBad (iThen m f) := fun e h' => by
  rcases iThen_err h' with h' | ⟨p, a, _, h'⟩
  · exact h e h'
  · exact hf p a e h'
theorem iBad_loop {σ : Type} {T : Nat} {f : Nat → σ → Except Int (Nat × (Bool × σ))} (hg : ∀ p s, iGo T p (f p s)) (hf : ∀ p s, iBad (f p s)) (p : Nat) (s : σ) : iBad (iLoop T f p s) := by
  intro e
  generalize hn : T - p = n
  induction n using Nat.strongRecOn generalizing p s with
  | ind n ih =>
    intro h
    cases hfp : f p s with
    | error e' => rw [iLoop_err hfp] at h; cases h; exact hf p s _ hfp
    | ok x =>
      obtain ⟨r, c, u⟩ := x
      have hgo := hg p s r _ hfp
      cases c with
      | false => rw [iLoop_end hfp] at h; cases h
      | true =>
        rw [iLoop_on hfp hgo.1 hgo.2] at h
        exact ih (T - r) (by omega) r u rfl h
theorem iBad_tk (b : Nat → Nat) (T p n : Nat) : iBad (iTk b T p n) := by unfold iTk; exact iBad_if (iBad_err (by omega)) (iBad_ok _)
theorem iBad_nx (ls : List Int) (b : Nat → Nat) (T p : Nat) : iBad (iNx ls b T p) := fun e h => by have := (iNx_failed h).2; omega
theorem iBad_one (S D : List Int) (b : Nat → Nat) (T most p : Nat) (out : List Int) : iBad (iOne S D b T most p out) := by
  unfold iOne
  refine iBad_then (iBad_nx _ _ _ _) fun q v => iBad_if (iBad_if (iBad_err (by omega)) (iBad_ok _)) (iBad_if (iBad_ok _) (iBad_if (iBad_err (by omega)) ?_))
  exact iBad_then (iBad_tk _ _ _ _) fun q m => iBad_then (iBad_nx _ _ _ _) fun q w => iBad_if (iBad_err (by omega)) (iBad_then (iBad_tk _ _ _ _) fun q y => iBad_if (iBad_err (by omega)) (iBad_if (iBad_err (by omega)) (iBad_ok _)))
theorem iBad_dat (S D : List Int) (b : Nat → Nat) (T most p : Nat) (out : List Int) : iBad (iDat S D b T most p out) := iBad_loop (fun p s => iGo_one S D b T most p s) (fun p s => iBad_one S D b T most p s) p out
theorem iBad_rd3 (b : Nat → Nat) (T n p i : Nat) (first : List Int) : iBad (iRd3 b T n p i first) := by
  induction n generalizing p i first with
  | zero => exact iBad_ok _
  | succ n ih => rw [iRd3]; exact iBad_then (iBad_tk _ _ _ _) fun q v => ih _ _ _
theorem iBad_len (first : List Int) (many : Nat) (b : Nat → Nat) (T p : Nat) (all : List Int) : iBad (iLen first many b T p all) := by
  unfold iLen
  exact iBad_then (iBad_nx _ _ _ _) fun q v => iBad_if (iBad_ok _) (iBad_if (iBad_err (by omega)) (iBad_then (iBad_tk _ _ _ _) fun q x => iBad_if (iBad_err (by omega)) (iBad_ok _)))
theorem iBad_hdr (b : Nat → Nat) (T p : Nat) : iBad (iHdr b T p) := by
  unfold iHdr
  refine iBad_then (iBad_tk _ _ _ _) fun q x => iBad_then (iBad_tk _ _ _ _) fun q y => iBad_then (iBad_tk _ _ _ _) fun q z => iBad_if (iBad_err (by omega)) ?_
  exact iBad_then (iBad_rd3 _ _ _ _ _ _) fun q first => iBad_if (iBad_err (by omega)) (iBad_then (iBad_loop (fun p s => iGo_len first _ b T p s) (fun p s => iBad_len first _ b T p s) q []) fun q all => iBad_if (iBad_err (by omega)) (iBad_ok _))
theorem iBad_sto (b : Nat → Nat) (T most p : Nat) (out : List Int) : iBad (iSto b T most p out) := by
  unfold iSto
  exact iBad_then (iBad_tk _ _ _ _) fun q n => iBad_then (iBad_tk _ _ _ _) fun q m => iBad_if (iBad_err (by omega)) (iBad_if (iBad_err (by omega)) (iBad_if (iBad_err (by omega)) (iBad_ok _)))
theorem iBad_kind (b : Nat → Nat) (T most kind p : Nat) (out : List Int) : iBad (iKind b T most kind p out) := by
  unfold iKind
  exact iBad_if (iBad_sto _ _ _ _ _) (iBad_if (iBad_dat _ _ _ _ _ _ _) (iBad_if (iBad_then (iBad_hdr _ _ _) fun q sd => iBad_dat _ _ _ _ _ _ _) (iBad_err (by omega))))
/-! What is told: bytes, and at most most. -/
theorem iLoop_fin {σ : Type} {T : Nat} {f : Nat → σ → Except Int (Nat × (Bool × σ))} (I : σ → Prop) (hf : ∀ p s q t, I s → f p s = .ok (q, (true, t)) → I t) (hg : ∀ p s, iGo T p (f p s)) (p : Nat) (s : σ) (hs : I s) (q : Nat) (t : σ) : iLoop T f p s = .ok (q, t) → ∃ p' s', I s' ∧ f p' s' = .ok (q, (false, t)) := by
  generalize hn : T - p = n
  induction n using Nat.strongRecOn generalizing p s with
  | ind n ih =>
    intro h
    cases hfp : f p s with
    | error e => rw [iLoop_err hfp] at h; cases h
    | ok x =>
      obtain ⟨r, c, u⟩ := x
      have hgo := hg p s r _ hfp
      cases c with
      | false => rw [iLoop_end hfp] at h; cases h; exact ⟨p, s, hs, hfp⟩
      | true =>
        rw [iLoop_on hfp hgo.1 hgo.2] at h
        exact ih (T - r) (by omega) r u (hf p s r u hs hfp) rfl h

/-- Bytes, at most most. -/
def iBy (most : Nat) (o : List Int) : Prop := o.length ≤ most ∧ ∀ x ∈ o, 0 ≤ x ∧ x ≤ 255
theorem iBy_ln {most : Nat} {o : List Int} (h : iBy most o) (i : Nat) : 0 ≤ ln o i ∧ ln o i ≤ 255 := by
  unfold ln
  by_cases hi : i < o.length
  · have := h.2 _ (List.getElem_mem hi)
    simpa [List.getD, hi] using this
  · simp [List.getD, List.getElem?_eq_none (show o.length ≤ i by omega)]
theorem iCpy_by {o : List Int} (h : ∀ x ∈ o, 0 ≤ x ∧ x ≤ 255) (d n : Nat) : ∀ x ∈ iCpy o d n, 0 ≤ x ∧ x ≤ 255 := by
  induction n generalizing o with
  | zero => exact h
  | succ n ih =>
    rw [iCpy]
    refine ih fun x hx => ?_
    rcases List.mem_append.1 hx with hx | hx
    · exact h x hx
    · rw [List.mem_singleton.1 hx]
      exact iBy_ln (most := o.length) ⟨Nat.le_refl _, h⟩ _
theorem iOne_by {S D : List Int} {b : Nat → Nat} {T most p : Nat} {o : List Int} {q : Nat} {c : Bool} {t : List Int} (ho : iBy most o) (h : iOne S D b T most p o = .ok (q, (c, t))) : iBy most t := by
  unfold iOne at h
  obtain ⟨q1, v, -, h⟩ := iThen_ok h
  split at h
  · split at h
    · cases h
    · cases h
      refine ⟨by simp; omega, fun x hx => ?_⟩
      rcases List.mem_append.1 hx with hx | hx
      · exact ho.2 x hx
      · rw [List.mem_singleton.1 hx]; omega
  · split at h
    · cases h; exact ho
    · split at h
      · cases h
      · obtain ⟨q2, m, -, h⟩ := iThen_ok h
        obtain ⟨q3, w, -, h⟩ := iThen_ok h
        split at h
        · cases h
        · obtain ⟨q4, y, -, h⟩ := iThen_ok h
          split at h
          · cases h
          · split at h
            · cases h
            · cases h
              exact ⟨by rw [iCpy_length]; omega, iCpy_by ho.2 _ _⟩
theorem iDat_by {S D : List Int} {b : Nat → Nat} {T most p : Nat} {o : List Int} {q : Nat} {t : List Int} (ho : iBy most o) (h : iDat S D b T most p o = .ok (q, t)) : iBy most t := by
  obtain ⟨p', s', h1, h2⟩ := iLoop_fin (iBy most) (fun p s q t hs e => iOne_by hs e) (fun p s => iGo_one S D b T most p s) p o ho q t h
  exact iOne_by h1 h2
theorem iBytes_by {b : Nat → Nat} (hb : ∀ i, b i ≤ 1) (p n : Nat) : ∀ x ∈ iBytes b p n, 0 ≤ x ∧ x ≤ 255 := by
  intro x hx
  unfold iBytes at hx
  obtain ⟨i, -, rfl⟩ := List.mem_map.1 hx
  have := iNum_lt hb (p + 8 * i) 8
  omega
theorem iBytes_length (b : Nat → Nat) (p n : Nat) : (iBytes b p n).length = n := by simp [iBytes]
theorem iSto_by {b : Nat → Nat} (hb : ∀ i, b i ≤ 1) {T most p : Nat} {o : List Int} {q : Nat} {t : List Int} (ho : iBy most o) (h : iSto b T most p o = .ok (q, t)) : iBy most t := by
  unfold iSto at h
  obtain ⟨q1, n, -, h⟩ := iThen_ok h
  obtain ⟨q2, m, -, h⟩ := iThen_ok h
  split at h
  · cases h
  · split at h
    · cases h
    · split at h
      · cases h
      · cases h
        refine ⟨by rw [List.length_append, iBytes_length]; omega, fun x hx => ?_⟩
        rcases List.mem_append.1 hx with hx | hx
        · exact ho.2 x hx
        · exact iBytes_by hb _ _ x hx
theorem iBlk_by {b : Nat → Nat} (hb : ∀ i, b i ≤ 1) {T most p : Nat} {o : List Int} {q : Nat} {c : Bool} {t : List Int} (ho : iBy most o) (h : iBlk b T most p o = .ok (q, (c, t))) : iBy most t := by
  unfold iBlk at h
  obtain ⟨q1, l, -, h⟩ := iThen_ok h
  obtain ⟨q2, kind, -, h⟩ := iThen_ok h
  obtain ⟨q3, o2, h3, h⟩ := iThen_ok h
  cases h
  unfold iKind at h3
  split at h3
  · exact iSto_by hb ho h3
  · split at h3
    · exact iDat_by ho h3
    · split at h3
      · obtain ⟨q4, sd, -, h4⟩ := iThen_ok h3
        exact iDat_by ho h4
      · cases h3
/-! Over bytes. -/
/-- Bit i of bytes. -/
def ib (zs : List Int) (i : Nat) : Nat := (zs.getD (i / 8) 0 / 2 ^ (i % 8) % 2).toNat
theorem ib_le (zs : List Int) (i : Nat) : ib zs i ≤ 1 := by unfold ib; omega
noncomputable def iRes (r : Except Int (Nat × List Int)) : List Int × Nat × Int :=
  match r with
  | .error e => ([], 0, e)
  | .ok x => (x.2, (x.1 + 7) / 8, 0)
/-- What Inflate answers. -/
noncomputable def iAns (zs : List Int) (most : Nat) : List Int × Nat × Int := iRes (iInf (ib zs) (8 * zs.length) most)

end Go.Proofs.YtlakgbckopjelabGreatDoor

/- Stored blocks, and what stands behind them. No Go text in sight. -/
namespace Go.Proofs.YtlakgbckopjelabGreatDoor
set_option maxRecDepth 100000

theorem iNum_add (b : Nat → Nat) (p m n : Nat) : iNum b p (m + n) = iNum b p m + 2 ^ m * iNum b (p + m) n := by
  induction n with
  | zero => simp [iNum]
  | succ n ih =>
    rw [← Nat.add_assoc, iNum, ih, iNum, Nat.mul_add, Nat.pow_add, Nat.add_assoc p m n, Nat.add_assoc, Nat.mul_left_comm, Nat.mul_comm (b _) (2 ^ n)]
theorem ib_at (zs : List Int) (j r z : Nat) (hr : r < 8) (hz : zs.getD j 0 = (z : Int)) : ib zs (8 * j + r) = z / 2 ^ r % 2 := by
  unfold ib
  rw [show (8 * j + r) / 8 = j by omega, show (8 * j + r) % 8 = r by omega, hz]
  have e : (z : Int) / 2 ^ r % 2 = ((z / 2 ^ r % 2 : Nat) : Int) := by simp
  rw [e, Int.toNat_natCast]
theorem iNum_in (zs : List Int) (j z : Nat) (hz : zs.getD j 0 = (z : Int)) (r n : Nat) (h : r + n ≤ 8) : iNum (ib zs) (8 * j + r) n = z / 2 ^ r % 2 ^ n := by
  induction n with
  | zero => simp [iNum, Nat.mod_one]
  | succ n ih =>
    rw [iNum, ih (by omega), Nat.add_assoc, ib_at zs j (r + n) z (by omega) hz, Nat.mod_pow_succ, Nat.pow_add, Nat.div_div_eq_div_mul, Nat.mul_comm (2 ^ n)]
theorem iNum_byte (zs : List Int) (j z : Nat) (hz : zs.getD j 0 = (z : Int)) (h : z < 256) : iNum (ib zs) (8 * j) 8 = z := by
  have := iNum_in zs j z hz 0 8 (by omega)
  simp at this
  rw [this]; omega
theorem iNum_two (zs : List Int) (j y z : Nat) (hy : zs.getD j 0 = (y : Int)) (hz : zs.getD (j + 1) 0 = (z : Int)) (h : y < 256) (h' : z < 256) : iNum (ib zs) (8 * j) 16 = y + 256 * z := by
  have e := iNum_add (ib zs) (8 * j) 8 8
  rw [iNum_byte zs j y hy h, show 8 * j + 8 = 8 * (j + 1) by omega, iNum_byte zs (j + 1) z hz h'] at e
  exact e

/-- The five bytes ahead of a stored block's. -/
def iHead (l n : Nat) : List Int := [(l : Int), ((n % 256 : Nat) : Int), ((n / 256 : Nat) : Int), ((255 - n % 256 : Nat) : Int), ((255 - n / 256 : Nat) : Int)]
theorem iHead_length (l n : Nat) : (iHead l n).length = 5 := rfl
theorem getD_mid (A H B : List Int) (i : Nat) (hi : i < H.length) : (A ++ (H ++ B)).getD (A.length + i) 0 = H.getD i 0 := by
  simp [List.getD, List.getElem?_append_right, List.getElem?_append_left hi]
theorem iBytes_mid (A s B : List Int) (hs : ∀ x ∈ s, 0 ≤ x ∧ x ≤ 255) : iBytes (ib (A ++ (s ++ B))) (8 * A.length) s.length = s := by
  refine List.ext_getElem (by rw [iBytes_length]) fun i h1 h2 => ?_
  have hb := hs _ (List.getElem_mem h2)
  obtain ⟨z, hz⟩ := Int.eq_ofNat_of_zero_le hb.1
  have hg : (A ++ (s ++ B)).getD (A.length + i) 0 = (z : Int) := by rw [getD_mid A s B i h2, ← hz]; simp [List.getD, h2]
  simp only [iBytes, List.getElem_map, List.getElem_range]
  rw [show 8 * A.length + 8 * i = 8 * (A.length + i) by omega, iNum_byte _ _ z hg (by omega), hz]
/-- A stored block, read. -/
theorem iBlk_sto (A s B : List Int) (l : Nat) (hl : l ≤ 1) (hs : ∀ x ∈ s, 0 ≤ x ∧ x ≤ 255) (hn : s.length ≤ 65535) (most : Nat) (out : List Int) (hm : out.length + s.length ≤ most) (Z : List Int) (hZ : Z = A ++ (iHead l s.length ++ (s ++ B))) :
    iBlk (ib Z) (8 * Z.length) most (8 * A.length) out = .ok (8 * (A.length + 5 + s.length), (decide (l = 0), out ++ s)) := by
  have hlen : Z.length = A.length + (5 + (s.length + B.length)) := by subst hZ; simp only [List.length_append, iHead_length]
  have g : ∀ i, i < 5 → Z.getD (A.length + i) 0 = (iHead l s.length).getD i 0 := fun i hi => by subst hZ; exact getD_mid _ _ _ i hi
  have g0 := g 0 (by omega)
  have g1 := g 1 (by omega)
  have g2 := g 2 (by omega)
  have g3 := g 3 (by omega)
  have g4 := g 4 (by omega)
  replace g0 : Z.getD A.length 0 = ((l : Nat) : Int) := g0
  replace g1 : Z.getD (A.length + 1) 0 = ((s.length % 256 : Nat) : Int) := g1
  replace g2 : Z.getD (A.length + 2) 0 = ((s.length / 256 : Nat) : Int) := g2
  replace g3 : Z.getD (A.length + 3) 0 = ((255 - s.length % 256 : Nat) : Int) := g3
  replace g4 : Z.getD (A.length + 4) 0 = ((255 - s.length / 256 : Nat) : Int) := g4
  have t1 := iTk_ok (b := ib Z) (T := 8 * Z.length) (p := 8 * A.length) (n := 1) (by omega)
  have v1 := iNum_in Z A.length l g0 0 1 (by omega)
  simp at v1
  rw [v1, show l % 2 = l by omega] at t1
  have t2 := iTk_ok (b := ib Z) (T := 8 * Z.length) (p := 8 * A.length + 1) (n := 2) (by omega)
  have v2 := iNum_in Z A.length l g0 1 2 (by omega)
  rw [v2, show l / 2 ^ 1 % 2 ^ 2 = 0 by omega] at t2
  have t3 := iTk_ok (b := ib Z) (T := 8 * Z.length) (p := 8 * (A.length + 1)) (n := 16) (by omega)
  rw [iNum_two Z (A.length + 1) _ _ g1 g2 (by omega) (by omega), show s.length % 256 + 256 * (s.length / 256) = s.length by omega] at t3
  have t4 := iTk_ok (b := ib Z) (T := 8 * Z.length) (p := 8 * (A.length + 3)) (n := 16) (by omega)
  rw [iNum_two Z (A.length + 3) _ _ g3 g4 (by omega) (by omega)] at t4
  unfold iBlk
  rw [iThen_of_ok t1, iThen_of_ok t2]
  have hk : iKind (ib Z) (8 * Z.length) most 0 (8 * A.length + 1 + 2) out = .ok (8 * (A.length + 5 + s.length), out ++ s) := by
    unfold iKind iSto
    rw [if_pos rfl, show (8 * A.length + 1 + 2 + 7) / 8 * 8 = 8 * (A.length + 1) by omega, iThen_of_ok t3, show 8 * (A.length + 1) + 16 = 8 * (A.length + 3) by omega, iThen_of_ok t4, if_neg (by omega), if_neg (by omega), if_neg (by omega)]
    have hb := iBytes_mid (A ++ iHead l s.length) s B hs
    rw [List.append_assoc, ← hZ, List.length_append, iHead_length] at hb
    rw [show 8 * (A.length + 3) + 16 = 8 * (A.length + 5) by omega, hb]
    congr 2
    omega
  rw [iThen_of_ok hk]

/-- Pieces in stored blocks, one behind the other, and an empty one at the end. -/
def iRow : List (List Int) → List Int
  | [] => iHead 1 0
  | s :: r => iHead 0 s.length ++ (s ++ iRow r)
end Go.Proofs.YtlakgbckopjelabGreatDoor

/- How many lengths a dynamic block tells, and that they are lengths. No Go text in sight. -/
namespace Go.Proofs.YtlakgbckopjelabGreatDoor
set_option maxRecDepth 100000

theorem fit_app {L M : List Int} (h : Fit L) (k : Fit M) : Fit (L ++ M) := fun y hy => by
  rcases List.mem_append.1 hy with hy | hy
  · exact h y hy
  · exact k y hy
/-- One number more, of those that tell lengths. -/
theorem iLen_got {first : List Int} {many : Nat} {b : Nat → Nat} {T p : Nat} {all : List Int} {q : Nat} {c : Bool} {t : List Int} (hl : all.length < many) (hf : Fit all) (h : iLen first many b T p all = .ok (q, (c, t))) : t.length ≤ many ∧ Fit t ∧ c = decide (t.length < many) ∧ all.length < t.length := by
  unfold iLen at h
  obtain ⟨q1, v, -, h⟩ := iThen_ok h
  split at h
  · cases h
    refine ⟨by simp; omega, fit_app hf fun y hy => ?_, by simp, by simp⟩
    rw [List.mem_singleton.1 hy]; omega
  · split at h
    · cases h
    · obtain ⟨q2, x, -, h⟩ := iThen_ok h
      have hpos : 3 ≤ x + (if v = 18 then 11 else 3) := by split <;> omega
      generalize x + (if v = 18 then 11 else 3) = n at h hpos
      split at h
      · cases h
      · cases h
        refine ⟨by simp; omega, fit_app hf fun y hy => ?_, by simp, by simp; omega⟩
        rw [List.eq_of_mem_replicate hy]
        split
        · exact ln_fit hf _
        · omega
theorem iLens_got {first : List Int} {many : Nat} {b : Nat → Nat} {T p : Nat} (hm : 0 < many) {q : Nat} {t : List Int} (h : iLoop T (iLen first many b T) p [] = .ok (q, t)) : t.length = many ∧ Fit t := by
  obtain ⟨p', s', h1, h2⟩ := iLoop_fin (fun l => l.length < many ∧ Fit l) (fun p s q t hs e => by
    have := iLen_got hs.1 hs.2 e
    exact ⟨by have := this.2.2.1; simpa using this.symm, this.2.1⟩) (fun p s => iGo_len first many b T p s) p [] ⟨by simpa using hm, fun y hy => absurd hy (by simp)⟩ q t h
  obtain ⟨g1, g2, g3, -⟩ := iLen_got h1.1 h1.2 h2
  have : ¬ t.length < many := by simpa using g3.symm
  exact ⟨by omega, g2⟩
/-- What a dynamic block's codes are. -/
theorem iHdr_got {b : Nat → Nat} {T p q : Nat} {S D : List Int} (h : iHdr b T p = .ok (q, (S, D))) : 257 ≤ S.length ∧ S.length ≤ 286 ∧ 1 ≤ D.length ∧ D.length ≤ 30 ∧ check S true = 0 ∧ check D true = 0 := by
  unfold iHdr at h
  obtain ⟨q1, x, -, h⟩ := iThen_ok h
  obtain ⟨q2, y, -, h⟩ := iThen_ok h
  obtain ⟨q3, z, -, h⟩ := iThen_ok h
  split at h
  · cases h
  · rename_i hxy
    obtain ⟨q4, first, -, h⟩ := iThen_ok h
    split at h
    · cases h
    · obtain ⟨q5, all, ha, h⟩ := iThen_ok h
      have hg := (iLens_got (by omega) ha).1
      split at h
      · cases h
      · rename_i hc
        cases h
        simp only [List.length_take, List.length_drop]
        exact ⟨by omega, by omega, by omega, by omega, Decidable.not_not.1 fun e => hc (.inr (.inl e)), Decidable.not_not.1 fun e => hc (.inr (.inr e))⟩
end Go.Proofs.YtlakgbckopjelabGreatDoor

/- A run's length and distance, as plain functions; how one symbol of the data goes on. No Go text in sight. -/
namespace Go.Proofs.YtlakgbckopjelabGreatDoor
set_option maxRecDepth 100000

/-- A run's length; its distance; the run. -/
def iLong (b : Nat → Nat) (T q v : Nat) : Except Int (Nat × Nat) := if 285 < v then .error 63 else iThen (iTk b T q (iLx v)) fun q x => .ok (q, iLb v + x)
noncomputable def iBack (D : List Int) (b : Nat → Nat) (T q : Nat) : Except Int (Nat × Nat) := iThen (iNx D b T q) fun q w => if 29 < w then .error 63 else iThen (iTk b T q (iDx w)) fun q x => .ok (q, iDb w + x)
noncomputable def iRun (D : List Int) (b : Nat → Nat) (T most q v : Nat) (out : List Int) : Except Int (Nat × List Int) :=
  iThen (iLong b T q v) fun q n => iThen (iBack D b T q) fun q d => if out.length < d then .error 64 else if most < out.length + n then .error 65 else .ok (q, iCpy out d n)
def iOn (r : Except Int (Nat × List Int)) : Except Int (Nat × (Bool × List Int)) := iThen r fun q o => .ok (q, (true, o))
theorem iRun_eq (D : List Int) (b : Nat → Nat) (T most q v : Nat) (out : List Int) :
    iOn (iRun D b T most q v out) = if 285 < v then .error 63
      else iThen (iTk b T q (iLx v)) fun q more => iThen (iNx D b T q) fun q w =>
    if 29 < w then .error 63 else iThen (iTk b T q (iDx w)) fun q away =>
    if out.length < iDb w + away then .error 64 else if most < out.length + (iLb v + more) then .error 65
    else .ok (q, (true, iCpy out (iDb w + away) (iLb v + more))) := by
  unfold iOn iRun iLong iBack
  by_cases h1 : 285 < v
  · rw [if_pos h1, if_pos h1]; rfl
  · rw [if_neg h1, if_neg h1]
    cases iTk b T q (iLx v) with
    | error e => rfl
    | ok x =>
      obtain ⟨q1, more⟩ := x
      simp only [iThen]
      cases iNx D b T q1 with
      | error e => rfl
      | ok x =>
        obtain ⟨q2, w⟩ := x
        simp only
        by_cases h2 : 29 < w
        · rw [if_pos h2, if_pos h2]
        · rw [if_neg h2, if_neg h2]
          cases iTk b T q2 (iDx w) with
          | error e => rfl
          | ok x =>
            obtain ⟨q3, away⟩ := x
            simp only
            by_cases h3 : out.length < iDb w + away
            · rw [if_pos h3, if_pos h3]
            · rw [if_neg h3, if_neg h3]
              by_cases h4 : most < out.length + (iLb v + more)
              · rw [if_pos h4, if_pos h4]
              · rw [if_neg h4, if_neg h4]
/-- One symbol of the data, by what it is. -/
theorem iOne_err {S D : List Int} {b : Nat → Nat} {T most p : Nat} {out : List Int} {e : Int} (h : iNx S b T p = .error e) : iOne S D b T most p out = .error e := by unfold iOne; rw [iThen_of_err h]
theorem iOne_byte {S D : List Int} {b : Nat → Nat} {T most p q v : Nat} {out : List Int} (h : iNx S b T p = .ok (q, v)) (hv : v < 256) (ho : out.length < most) : iOne S D b T most p out = .ok (q, (true, out ++ [(v : Int)])) := by
  unfold iOne; rw [iThen_of_ok h, if_pos hv, if_neg (by omega)]
theorem iOne_over {S D : List Int} {b : Nat → Nat} {T most p q v : Nat} {out : List Int} (h : iNx S b T p = .ok (q, v)) (hv : v < 256) (ho : most ≤ out.length) : iOne S D b T most p out = .error 65 := by
  unfold iOne; rw [iThen_of_ok h, if_pos hv, if_pos (by omega)]
theorem iOne_end {S D : List Int} {b : Nat → Nat} {T most p q : Nat} {out : List Int} (h : iNx S b T p = .ok (q, 256)) : iOne S D b T most p out = .ok (q, (false, out)) := by
  unfold iOne; rw [iThen_of_ok h, if_neg (by decide), if_pos rfl]
theorem iOne_run {S D : List Int} {b : Nat → Nat} {T most p q v : Nat} {out : List Int} (h : iNx S b T p = .ok (q, v)) (hv : 256 < v) : iOne S D b T most p out = iOn (iRun D b T most q v out) := by
  rw [iRun_eq]; unfold iOne; rw [iThen_of_ok h, if_neg (by omega), if_neg (by omega)]
theorem iCpy_length' (out : List Int) (d n : Nat) : (iCpy out d n).length = out.length + n := by
  induction n generalizing out with
  | zero => rfl
  | succ n ih => rw [iCpy, ih]; simp; omega
theorem iCpy_succ (out : List Int) (d n : Nat) : iCpy out d (n + 1) = iCpy out d n ++ [ln (iCpy out d n) (out.length + n - d)] := by
  induction n generalizing out with
  | zero => rfl
  | succ n ih =>
    rw [iCpy, ih, iCpy]
    congr 3
    simp; omega
/-- What is read is a code's symbol. -/
theorem iNx_lt {ls : List Int} {b : Nat → Nat} {T p q v : Nat} (h : iNx ls b T p = .ok (q, v)) : v < ls.length ∧ p < q := by
  obtain ⟨n, rfl, hh⟩ := iNx_got h
  exact ⟨hh.2.1, by have := hh.2.2.1; omega⟩
theorem iTk_lt {b : Nat → Nat} (hb : ∀ i, b i ≤ 1) {T p n q v : Nat} (h : iTk b T p n = .ok (q, v)) : v < 2 ^ n := by
  rw [(iTk_got h).2.2]; exact iNum_lt hb p n
theorem iLong_err {b : Nat → Nat} {T q v : Nat} (h : 285 < v) : iLong b T q v = .error 63 := if_pos h
theorem iLong_is {b : Nat → Nat} {T q v n k : Nat} (h : v ≤ 285) (hn : iLx v = n) (hk : iLb v = k) : iLong b T q v = iThen (iTk b T q n) fun q x => .ok (q, k + x) := by
  unfold iLong; rw [if_neg (by omega), hn, hk]
/-- How long a run is at the most. -/
theorem iLb_le : ∀ v, v ≤ 285 → iLb v ≤ 258 := by decide
theorem iLx_le : ∀ v, v ≤ 285 → iLx v ≤ 5 := by decide
theorem iDb_le : ∀ v, v ≤ 29 → iDb v ≤ 24577 := by decide
theorem iDx_le : ∀ v, v ≤ 29 → iDx v ≤ 13 := by decide
theorem iRun_le {D : List Int} {b : Nat → Nat} {T most q v : Nat} {out : List Int} {q' : Nat} {o : List Int} (h : iRun D b T most q v out = .ok (q', o)) : o.length ≤ most := by
  unfold iRun at h
  obtain ⟨q1, n, _, h⟩ := iThen_ok h
  obtain ⟨q2, d, _, h⟩ := iThen_ok h
  split at h
  · cases h
  · split at h
    · cases h
    · cases h
      rw [iCpy_length']; omega
end Go.Proofs.YtlakgbckopjelabGreatDoor
