/- Several texts, laid together: IFar, ILaws, IStored, ILens. -/
import Derived.Test.YtlakgbckopjelabDoorISim
/- Inflate of two streams side by side. No Go text in sight. -/
namespace Go.Proofs.YtlakgbckopjelabDoor
set_option maxRecDepth 100000

theorem iGe_if {α : Type} {T p : Nat} {c : Prop} [Decidable c] {r s : Except Int (Nat × α)} (h1 : c → iGe T p r) (h2 : ¬ c → iGe T p s) : iGe T p (if c then r else s) := by
  by_cases h : c
  · rw [if_pos h]; exact h1 h
  · rw [if_neg h]; exact h2 h
theorem iGo_one (S D : List Int) (b : Nat → Nat) (T most p : Nat) (out : List Int) : iGo T p (iOne S D b T most p out) := by
  unfold iOne
  refine iGo_then (iGo_nx S b T p) fun q v hq => ?_
  refine iGe_if (fun _ => iGe_if (fun _ => iGe_err _ _ _) fun _ => iGe_ok _ (Nat.le_refl _) hq) fun _ => ?_
  refine iGe_if (fun _ => iGe_ok _ (Nat.le_refl _) hq) fun _ => iGe_if (fun _ => iGe_err _ _ _) fun _ => ?_
  refine iGe_then (iGe_tk b T q _) fun q m hq => iGe_then (iGo_nx D b T q).ge fun q w hq => iGe_if (fun _ => iGe_err _ _ _) fun _ => ?_
  refine iGe_then (iGe_tk b T q _) fun q y hq => iGe_if (fun _ => iGe_err _ _ _) fun _ => iGe_if (fun _ => iGe_err _ _ _) fun _ => iGe_ok _ (Nat.le_refl _) hq
theorem iGo_len (first : List Int) (many : Nat) (b : Nat → Nat) (T p : Nat) (all : List Int) : iGo T p (iLen first many b T p all) := by
  unfold iLen
  refine iGo_then (iGo_nx first b T p) fun q v hq => ?_
  refine iGe_if (fun _ => iGe_ok _ (Nat.le_refl _) hq) fun _ => iGe_if (fun _ => iGe_err _ _ _) fun _ => ?_
  exact iGe_then (iGe_tk b T q _) fun q x hq => iGe_if (fun _ => iGe_err _ _ _) fun _ => iGe_ok _ (Nat.le_refl _) hq
/-! A run. -/
theorem iCpy_ahead (s out : List Int) (d n : Nat) (h2 : d ≤ out.length) : iCpy (s ++ out) d n = s ++ iCpy out d n := by
  induction n generalizing out with
  | zero => rfl
  | succ n ih =>
    rw [iCpy, iCpy]
    have e : ln (s ++ out) ((s ++ out).length - d) = ln out (out.length - d) := by
      unfold ln
      rw [List.length_append, show s.length + out.length - d = s.length + (out.length - d) by omega]
      simp [List.getD, List.getElem?_append_right]
    rw [e, List.append_assoc, ih _ (by simp; omega)]

/-- What was told ahead, and how much more may be told. -/
structure iMay (X : Int → Prop) (s : List Int) (most most' : Nat) : Prop where
  le : most + s.length ≤ most'
  over : most + s.length = most' ∨ X 65
  back : s = [] ∨ X 64

variable {X : Int → Prop} {k T T' : Nat} {b b' : Nat → Nat} {s : List Int} {most most' : Nat}
theorem iFar.one (h : iFar X k b b' T T') (m : iMay X s most most') {S D : List Int} (hS : Fit S) (hD : Fit D) (p : Nat) (o o' : List Int) (ho : o' = s ++ o) :
    iSim X k (fun x y => x.1 = y.1 ∧ y.2 = s ++ x.2) (iOne S D b T most p o) (iOne S D b' T' most' (p + k) o') := by
  subst ho
  have hl : (s ++ o).length = s.length + o.length := List.length_append
  have hm := m.le
  unfold iOne
  refine iSim_then (h.nx hS p) ?_
  rintro q v _ - rfl
  refine iSim_if Iff.rfl (fun _ => ?_) fun _ => iSim_if Iff.rfl (fun _ => iSim_ok ⟨rfl, rfl⟩ rfl) fun _ => iSim_if Iff.rfl (fun _ => iSim_err _) fun _ => ?_
  · refine iSim_ifx (by omega) ?_ fun _ => iSim_ok ⟨rfl, by simp⟩ rfl
    exact m.over.symm.imp id fun _ _ => by omega
  · refine iSim_then (h.tk q _) ?_
    rintro q x _ - rfl
    refine iSim_then (h.nx hD q) ?_
    rintro q w _ - rfl
    refine iSim_if Iff.rfl (fun _ => iSim_err _) fun _ => ?_
    refine iSim_then (h.tk q _) ?_
    rintro q y _ - rfl
    refine iSim_ifx (by omega) ?_ fun hd => ?_
    · exact m.back.symm.imp id fun e _ => by subst e; simpa using by assumption
    refine iSim_ifx (by omega) ?_ fun _ => iSim_ok ⟨rfl, ?_⟩ rfl
    · exact m.over.symm.imp id fun _ _ => by omega
    · exact iCpy_ahead _ _ _ _ (by omega)
theorem iFar.dat (h : iFar X k b b' T T') (m : iMay X s most most') {S D : List Int} (hS : Fit S) (hD : Fit D) (p : Nat) (o : List Int) :
    iSim X k (fun x y => y = s ++ x) (iDat S D b T most p o) (iDat S D b' T' most' (p + k) (s ++ o)) :=
  iSim_loop (R := fun x y => y = s ++ x) h.le (fun p s => iGo_one S D b T most p s) (fun p o o' ho => h.one m hS hD p o o' ho) p o _ rfl
theorem iFar.bytes (h : iFar X k b b' T T') {q n : Nat} (hq : q + 8 * n ≤ T) : iBytes b' (q + k) n = iBytes b q n := by
  unfold iBytes
  refine List.map_congr_left fun i hi => ?_
  have := List.mem_range.1 hi
  rw [show q + k + 8 * i = q + 8 * i + k by omega, h.num (by omega)]
theorem iFar.sto (h : iFar X k b b' T T') (m : iMay X s most most') (p : Nat) (o : List Int) : iSim X k (fun x y => y = s ++ x) (iSto b T most p o) (iSto b' T' most' (p + k) (s ++ o)) := by
  have hl : (s ++ o).length = s.length + o.length := List.length_append
  have hm := m.le
  have hle := h.le
  have ho := h.oct
  unfold iSto
  rw [show (p + k + 7) / 8 * 8 = (p + 7) / 8 * 8 + k by omega]
  refine iSim_then (h.tk _ 16) ?_
  rintro q n _ - rfl
  refine iSim_then (h.tk q 16) ?_
  rintro q n' _ - rfl
  refine iSim_if Iff.rfl (fun _ => iSim_err _) fun _ => ?_
  refine iSim_ifx (by omega) (m.over.symm.imp id fun _ _ => by omega) fun _ => ?_
  refine iSim_ifx (by omega) (h.cut.symm.imp id fun _ _ => by omega) fun hn => iSim_ok ?_ (by omega)
  rw [h.bytes (by omega), List.append_assoc]
theorem iFar.rd3 (h : iFar X k b b' T T') (n p i : Nat) (first : List Int) : iSim X k (fun x y => x = y) (iRd3 b T n p i first) (iRd3 b' T' n (p + k) i first) := by
  induction n generalizing p i first with
  | zero => exact iSim_ok rfl rfl
  | succ n ih =>
    rw [iRd3, iRd3]
    refine iSim_then (h.tk p 3) ?_
    rintro q v _ - rfl
    exact ih q _ _
theorem iFar.len (h : iFar X k b b' T T') {first : List Int} (hf : Fit first) (many p : Nat) (all all' : List Int) (ha : all = all') : iSim X k (fun x y => x.1 = y.1 ∧ x.2 = y.2) (iLen first many b T p all) (iLen first many b' T' (p + k) all') := by
  subst ha
  unfold iLen
  refine iSim_then (h.nx hf p) ?_
  rintro q v _ - rfl
  refine iSim_if Iff.rfl (fun _ => iSim_ok ⟨rfl, rfl⟩ rfl) fun _ => iSim_if Iff.rfl (fun _ => iSim_err _) fun _ => ?_
  refine iSim_then (h.tk q _) ?_
  rintro q x _ - rfl
  exact iSim_if Iff.rfl (fun _ => iSim_err _) fun _ => iSim_ok ⟨rfl, rfl⟩ rfl
theorem iFar.hdr (h : iFar X k b b' T T') (p : Nat) : iSim X k (fun x y => x = y ∧ Fit x.1 ∧ Fit x.2) (iHdr b T p) (iHdr b' T' (p + k)) := by
  unfold iHdr
  refine iSim_then (h.tk p 5) ?_
  rintro q x _ - rfl
  refine iSim_then (h.tk q 5) ?_
  rintro q y _ - rfl
  refine iSim_then (h.tk q 4) ?_
  rintro q z _ - rfl
  refine iSim_if Iff.rfl (fun _ => iSim_err _) fun _ => ?_
  refine iSim_then (h.rd3 _ q 0 _) ?_
  rintro q first _ - rfl
  refine iSim_if Iff.rfl (fun _ => iSim_err _) fun hc => ?_
  have hF := (check_ok (Decidable.not_not.1 hc)).2.1
  refine iSim_then (iSim_loop (R := fun x y => x = y) h.le (fun p s => iGo_len first _ b T p s) (fun p a a' e => h.len hF _ p a a' e) q [] [] rfl) ?_
  rintro q all _ - rfl
  refine iSim_if Iff.rfl (fun _ => iSim_err _) fun hc => iSim_ok ⟨rfl, ?_, ?_⟩ rfl
  · exact (check_ok (Decidable.not_not.1 fun e => hc (.inr (.inl e)))).2.1
  · exact (check_ok (Decidable.not_not.1 fun e => hc (.inr (.inr e)))).2.1
theorem fit_fix : Fit iFix := by unfold Fit iFix; intro x hx; simp only [List.mem_append, List.mem_replicate] at hx; omega
theorem fit_five : Fit iFive := by unfold Fit iFive; intro x hx; simp only [List.mem_replicate] at hx; omega
theorem iFar.kind (h : iFar X k b b' T T') (m : iMay X s most most') (kind p : Nat) (o : List Int) : iSim X k (fun x y => y = s ++ x) (iKind b T most kind p o) (iKind b' T' most' kind (p + k) (s ++ o)) := by
  unfold iKind
  refine iSim_if Iff.rfl (fun _ => h.sto m p o) fun _ => iSim_if Iff.rfl (fun _ => h.dat m fit_fix fit_five p o) fun _ => iSim_if Iff.rfl (fun _ => ?_) fun _ => iSim_err _
  refine iSim_then (h.hdr p) ?_
  rintro q sd _ - ⟨rfl, h1, h2⟩
  exact h.dat m h1 h2 q o
end Go.Proofs.YtlakgbckopjelabDoor

/- What follows of Inflate: more bytes behind, more that may be told, a stream cut off, a stream behind a stored block, stored blocks alone. No Go text in sight. -/
namespace Go.Proofs.YtlakgbckopjelabDoor
set_option maxRecDepth 100000

/-! Errors are those of the document. -/
def iBad {α : Type} (r : Except Int (Nat × α)) : Prop := ∀ e, r = .error e → 60 ≤ e ∧ e ≤ 65
/-! What is told: bytes, and at most most. -/
/-- Bytes, at most most. -/
def iBy (most : Nat) (o : List Int) : Prop := o.length ≤ most ∧ ∀ x ∈ o, 0 ≤ x ∧ x ≤ 255
/-! Over bytes. -/
/-- Bit i of bytes. -/
def ib (zs : List Int) (i : Nat) : Nat := (zs.getD (i / 8) 0 / 2 ^ (i % 8) % 2).toNat
theorem ib_le (zs : List Int) (i : Nat) : ib zs i ≤ 1 := by unfold ib; omega
noncomputable def iRes (r : Except Int (Nat × List Int)) : List Int × Nat × Int :=
  match r with
  | .error e => ([], 0, e)
  | .ok x => (x.2, (x.1 + 7) / 8, 0)
/-- What Inflate answers. -/
noncomputable def iAns (zs : List Int) (most : Nat) : List Int × Nat × Int := iRes (iInf (ib zs) (8 * zs.length) most)

end Go.Proofs.YtlakgbckopjelabDoor

/- Stored blocks, and what stands behind them. No Go text in sight. -/
namespace Go.Proofs.YtlakgbckopjelabDoor
set_option maxRecDepth 100000

/-- The five bytes ahead of a stored block's. -/
def iHead (l n : Nat) : List Int := [(l : Int), ((n % 256 : Nat) : Int), ((n / 256 : Nat) : Int), ((255 - n % 256 : Nat) : Int), ((255 - n / 256 : Nat) : Int)]
theorem iHead_length (l n : Nat) : (iHead l n).length = 5 := rfl
/-- Pieces in stored blocks, one behind the other, and an empty one at the end. -/
def iRow : List (List Int) → List Int
  | [] => iHead 1 0
  | s :: r => iHead 0 s.length ++ (s ++ iRow r)
end Go.Proofs.YtlakgbckopjelabDoor

/- How many lengths a dynamic block tells, and that they are lengths. No Go text in sight. -/
namespace Go.Proofs.YtlakgbckopjelabDoor
set_option maxRecDepth 100000

theorem fit_app {L M : List Int} (h : Fit L) (k : Fit M) : Fit (L ++ M) := fun y hy => by
  rcases List.mem_append.1 hy with hy | hy
  · exact h y hy
  · exact k y hy
end Go.Proofs.YtlakgbckopjelabDoor
