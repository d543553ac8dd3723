/- Several texts, laid together: IFar, ILaws, IStored, ILens, ReadBits, HNext, PState, PRead, PSpec, PRun. -/
import Derived.Test.YteknifnadbmfiaaGreatDoorpISim
import Derived.Test.YteknifnadbmfiaaGreatDoorpAg00Row
import Derived.Test.YteknifnadbmfiaaGreatDoorpAg04ISpec
import Derived.Test.YteknifnadbmfiaaGreatDoorpAg02HMath
import Derived.Handy
/- Inflate of two streams side by side. No Go text in sight. -/
namespace Go.Proofs.YteknifnadbmfiaaGreatDoor
set_option maxRecDepth 100000

theorem iGe_if {α : Type} {T p : Nat} {c : Prop} [Decidable c] {r s : Except Int (Nat × α)} (h1 : c -> iGe T p r) (h2 : ¬ c -> iGe T p s) : iGe T p (if c then r else s) := by
 by_cases h : c
 ·rw [if_pos h]; exact h1 h
 ·rw [if_neg h]; exact h2 h
theorem iGo_one (S D : List Int) (b : Nat -> Nat) (T most p : Nat) (out : List Int) : iGo T p (iOne S D b T most p out) := by
 unfold iOne
 refine iGo_then (iGo_nx S b T p) fun q v hq => ?_
 refine iGe_if (fun _ => iGe_if (fun _ => iGe_err _ _ _) fun _ => iGe_ok _ (Nat.le_refl _) hq) fun _ => ?_
 refine iGe_if (fun _ => iGe_ok _ (Nat.le_refl _) hq) fun _ => iGe_if (fun _ => iGe_err _ _ _) fun _ => ?_
 refine iGe_then (iGe_tk b T q _) fun q m hq => iGe_then (iGo_nx D b T q).ge fun q w hq => iGe_if (fun _ => iGe_err _ _ _) fun _ => ?_
 refine iGe_then (iGe_tk b T q _) fun q y hq => iGe_if (fun _ => iGe_err _ _ _) fun _ => iGe_if (fun _ => iGe_err _ _ _) fun _ => iGe_ok _ (Nat.le_refl _) hq
theorem iGo_dat (S D : List Int) (b : Nat -> Nat) (T most p : Nat) (out : List Int) : iGo T p (iDat S D b T most p out) := iGe_loop (fun p s => iGo_one S D b T most p s) p out
theorem iGe_sto (b : Nat -> Nat) (T most p : Nat) (out : List Int) : iGe T p (iSto b T most p out) := by
 unfold iSto
 intro q a h
 obtain ⟨q1, n, h1, h⟩ := iThen_ok h
 obtain ⟨q2, m, h2, h⟩ := iThen_ok h
 have g1 := iTk_got h1
 have g2 := iTk_got h2
 split at h
 ·cases h
 ·split at h
  ·cases h
  ·split at h
   ·cases h
   ·cases h; omega
theorem iGe_rd3 (b : Nat -> Nat) (T n p i : Nat) (first : List Int) (hp : p <= T) : iGe T p (iRd3 b T n p i first) := by
 induction n generalizing p i first with
 | zero => exact iGe_ok _ (Nat.le_refl _) hp
 | succ n ih =>
  rw [iRd3]
  exact iGe_then (iGe_tk b T p 3) fun q v hq => ih q _ _ hq
theorem iGo_len (first : List Int) (many : Nat) (b : Nat -> Nat) (T p : Nat) (all : List Int) : iGo T p (iLen first many b T p all) := by
 unfold iLen
 refine iGo_then (iGo_nx first b T p) fun q v hq => ?_
 refine iGe_if (fun _ => iGe_ok _ (Nat.le_refl _) hq) fun _ => iGe_if (fun _ => iGe_err _ _ _) fun _ => ?_
 exact iGe_then (iGe_tk b T q _) fun q x hq => iGe_if (fun _ => iGe_err _ _ _) fun _ => iGe_ok _ (Nat.le_refl _) hq
theorem iGe_hdr (b : Nat -> Nat) (T p : Nat) : iGe T p (iHdr b T p) := by
 unfold iHdr
 refine iGe_then (iGe_tk b T p 5) fun q x hq => iGe_then (iGe_tk b T q 5) fun q y hq => iGe_then (iGe_tk b T q 4) fun q z hq => iGe_if (fun _ => iGe_err _ _ _) fun _ => ?_
 refine iGe_then (iGe_rd3 b T _ q 0 _ hq) fun q first hq => iGe_if (fun _ => iGe_err _ _ _) fun _ => ?_
 refine iGe_then (iGe_loop (fun p s => iGo_len first _ b T p s) q []).ge fun q all hq => iGe_if (fun _ => iGe_err _ _ _) fun _ => iGe_ok _ (Nat.le_refl _) hq
theorem iGe_kind (b : Nat -> Nat) (T most kind p : Nat) (out : List Int) : iGe T p (iKind b T most kind p out) := by
 unfold iKind
 refine iGe_if (fun _ => iGe_sto b T most p out) fun _ => iGe_if (fun _ => (iGo_dat _ _ b T most p out).ge) fun _ => iGe_if (fun _ => ?_) fun _ => iGe_err _ _ _
 exact iGe_then (iGe_hdr b T p) fun q sd hq => (iGo_dat _ _ b T most q out).ge
theorem iGo_blk (b : Nat -> Nat) (T most p : Nat) (out : List Int) : iGo T p (iBlk b T most p out) := by
 unfold iBlk
 refine iGo_then (iGo_tk b T p 1 (by omega)) fun q l hq => iGe_then (iGe_tk b T q 2) fun q kind hq => iGe_then (iGe_kind b T most kind q out) fun q o hq => iGe_ok _ (Nat.le_refl _) hq
theorem iGo_inf (b : Nat -> Nat) (T most : Nat) : iGo T 0 (iInf b T most) := iGe_loop (fun p s => iGo_blk b T most p s) 0 []

/-! A run. -/
theorem iDb_pos (w : Nat) : 1 <= iDb w := by unfold iDb; omega
theorem iCpy_length (out : List Int) (d n : Nat) : (iCpy out d n).length = out.length + n := by
 induction n generalizing out with
 | zero => rfl
 | succ n ih => rw [iCpy, ih]; simp; omega
theorem iCpy_ahead (s out : List Int) (d n : Nat) (h2 : d <= out.length) : iCpy (s ++ out) d n = s ++ iCpy out d n := by
 induction n generalizing out with
 | zero => rfl
 | succ n ih =>
  rw [iCpy, iCpy]
  have e : ln (s ++ out) ((s ++ out).length - d) = ln out (out.length - d) := by
   unfold ln
   rw [List.length_append, show s.length + out.length - d = s.length + (out.length - d) by omega]
   simp [List.getD, List.getElem?_append_right]
  rw [e, List.append_assoc, ih _ (by simp; omega)]

structure iMay (X : Int -> Prop) (s : List Int) (most most' : Nat) : Prop where
 le : most + s.length <= most'
 over : most + s.length = most' \/ X 65
 back : s = [] \/ X 64

variable {X : Int -> Prop} {k T T' : Nat} {b b' : Nat -> Nat} {s : List Int} {most most' : Nat}
theorem iFar.one (h : iFar X k b b' T T') (m : iMay X s most most') {S D : List Int} (hS : Fit S) (hD : Fit D) (p : Nat) (o o' : List Int) (ho : o' = s ++ o) :
  iSim X k (fun x y => x.1 = y.1 /\ y.2 = s ++ x.2) (iOne S D b T most p o) (iOne S D b' T' most' (p + k) o') := by
 subst ho
 have hl : (s ++ o).length = s.length + o.length := List.length_append
 have hm := m.le
 unfold iOne
 refine iSim_then (h.nx hS p) ?_
 rintro q v _ - rfl
 refine iSim_if Iff.rfl (fun _ => ?_) fun _ => iSim_if Iff.rfl (fun _ => iSim_ok ⟨rfl, rfl⟩ rfl) fun _ => iSim_if Iff.rfl (fun _ => iSim_err _) fun _ => ?_
 ·refine iSim_ifx (by omega) ?_ fun _ => iSim_ok ⟨rfl, by simp⟩ rfl
  exact m.over.symm.imp id fun _ _ => by omega
 ·refine iSim_then (h.tk q _) ?_
  rintro q x _ - rfl
  refine iSim_then (h.nx hD q) ?_
  rintro q w _ - rfl
  refine iSim_if Iff.rfl (fun _ => iSim_err _) fun _ => ?_
  refine iSim_then (h.tk q _) ?_
  rintro q y _ - rfl
  refine iSim_ifx (by omega) ?_ fun hd => ?_
  ·exact m.back.symm.imp id fun e _ => by subst e; simpa using by assumption
  refine iSim_ifx (by omega) ?_ fun _ => iSim_ok ⟨rfl, ?_⟩ rfl
  ·exact m.over.symm.imp id fun _ _ => by omega
  ·exact iCpy_ahead _ _ _ _ (by omega)
theorem iFar.dat (h : iFar X k b b' T T') (m : iMay X s most most') {S D : List Int} (hS : Fit S) (hD : Fit D) (p : Nat) (o : List Int) :
  iSim X k (fun x y => y = s ++ x) (iDat S D b T most p o) (iDat S D b' T' most' (p + k) (s ++ o)) :=
 iSim_loop (R := fun x y => y = s ++ x) h.le (fun p s => iGo_one S D b T most p s) (fun p o o' ho => h.one m hS hD p o o' ho) p o _ rfl
theorem iFar.bytes (h : iFar X k b b' T T') {q n : Nat} (hq : q + 8 * n <= T) : iBytes b' (q + k) n = iBytes b q n := by
 unfold iBytes
 refine List.map_congr_left fun i hi => ?_
 have := List.mem_range.1 hi
 rw [show q + k + 8 * i = q + 8 * i + k by omega, h.num (by omega)]
theorem iFar.sto (h : iFar X k b b' T T') (m : iMay X s most most') (p : Nat) (o : List Int) : iSim X k (fun x y => y = s ++ x) (iSto b T most p o) (iSto b' T' most' (p + k) (s ++ o)) := by
 have hl : (s ++ o).length = s.length + o.length := List.length_append
 have hm := m.le
 have hle := h.le
 have ho := h.oct
 unfold iSto
 rw [show (p + k + 7) / 8 * 8 = (p + 7) / 8 * 8 + k by omega]
 refine iSim_then (h.tk _ 16) ?_
 rintro q n _ - rfl
 refine iSim_then (h.tk q 16) ?_
 rintro q n' _ - rfl
 refine iSim_if Iff.rfl (fun _ => iSim_err _) fun _ => ?_
 refine iSim_ifx (by omega) (m.over.symm.imp id fun _ _ => by omega) fun _ => ?_
 refine iSim_ifx (by omega) (h.cut.symm.imp id fun _ _ => by omega) fun hn => iSim_ok ?_ (by omega)
 rw [h.bytes (by omega), List.append_assoc]
theorem iFar.rd3 (h : iFar X k b b' T T') (n p i : Nat) (first : List Int) : iSim X k (fun x y => x = y) (iRd3 b T n p i first) (iRd3 b' T' n (p + k) i first) := by
 induction n generalizing p i first with
 | zero => exact iSim_ok rfl rfl
 | succ n ih =>
  rw [iRd3, iRd3]
  refine iSim_then (h.tk p 3) ?_
  rintro q v _ - rfl
  exact ih q _ _
theorem iFar.len (h : iFar X k b b' T T') {first : List Int} (hf : Fit first) (many p : Nat) (all all' : List Int) (ha : all = all') : iSim X k (fun x y => x.1 = y.1 /\ x.2 = y.2) (iLen first many b T p all) (iLen first many b' T' (p + k) all') := by
 subst ha
 unfold iLen
 refine iSim_then (h.nx hf p) ?_
 rintro q v _ - rfl
 refine iSim_if Iff.rfl (fun _ => iSim_ok ⟨rfl, rfl⟩ rfl) fun _ => iSim_if Iff.rfl (fun _ => iSim_err _) fun _ => ?_
 refine iSim_then (h.tk q _) ?_
 rintro q x _ - rfl
 exact iSim_if Iff.rfl (fun _ => iSim_err _) fun _ => iSim_ok ⟨rfl, rfl⟩ rfl
theorem iFar.hdr (h : iFar X k b b' T T') (p : Nat) : iSim X k (fun x y => x = y /\ Fit x.1 /\ Fit x.2) (iHdr b T p) (iHdr b' T' (p + k)) := by
 unfold iHdr
 refine iSim_then (h.tk p 5) ?_
 rintro q x _ - rfl
 refine iSim_then (h.tk q 5) ?_
 rintro q y _ - rfl
 refine iSim_then (h.tk q 4) ?_
 rintro q z _ - rfl
 refine iSim_if Iff.rfl (fun _ => iSim_err _) fun _ => ?_
 refine iSim_then (h.rd3 _ q 0 _) ?_
 rintro q first _ - rfl
 refine iSim_if Iff.rfl (fun _ => iSim_err _) fun hc => ?_
 have hF := (check_ok (Decidable.not_not.1 hc)).2.1
 refine iSim_then (iSim_loop (R := fun x y => x = y) h.le (fun p s => iGo_len first _ b T p s) (fun p a a' e => h.len hF _ p a a' e) q [] [] rfl) ?_
 rintro q all _ - rfl
 refine iSim_if Iff.rfl (fun _ => iSim_err _) fun hc => iSim_ok ⟨rfl, ?_, ?_⟩ rfl
 ·exact (check_ok (Decidable.not_not.1 fun e => hc (.inr (.inl e)))).2.1
 ·exact (check_ok (Decidable.not_not.1 fun e => hc (.inr (.inr e)))).2.1
theorem fit_fix : Fit iFix := by unfold Fit iFix; intro x hx; simp only [List.mem_append, List.mem_replicate] at hx; omega
theorem fit_five : Fit iFive := by unfold Fit iFive; intro x hx; simp only [List.mem_replicate] at hx; omega
theorem iFar.kind (h : iFar X k b b' T T') (m : iMay X s most most') (kind p : Nat) (o : List Int) : iSim X k (fun x y => y = s ++ x) (iKind b T most kind p o) (iKind b' T' most' kind (p + k) (s ++ o)) := by
 unfold iKind
 refine iSim_if Iff.rfl (fun _ => h.sto m p o) fun _ => iSim_if Iff.rfl (fun _ => h.dat m fit_fix fit_five p o) fun _ => iSim_if Iff.rfl (fun _ => ?_) fun _ => iSim_err _
 refine iSim_then (h.hdr p) ?_
 rintro q sd _ - ⟨rfl, h1, h2⟩
 exact h.dat m h1 h2 q o
theorem iFar.blk (h : iFar X k b b' T T') (m : iMay X s most most') (p : Nat) (o o' : List Int) (ho : o' = s ++ o) : iSim X k (fun x y => x.1 = y.1 /\ y.2 = s ++ x.2) (iBlk b T most p o) (iBlk b' T' most' (p + k) o') := by
 subst ho
 unfold iBlk
 refine iSim_then (h.tk p 1) ?_
 rintro q l _ - rfl
 refine iSim_then (h.tk q 2) ?_
 rintro q kind _ - rfl
 refine iSim_then (h.kind m kind q o) ?_
 rintro q a a' - rfl
 exact iSim_ok ⟨rfl, rfl⟩ rfl
theorem iFar.inf (h : iFar X k b b' T T') (m : iMay X s most most') : iSim X k (fun x y => y = s ++ x) (iInf b T most) (iLoop T' (iBlk b' T' most') k s) := by
 have := iSim_loop (R := fun x y => y = s ++ x) h.le (fun p o => iGo_blk b T most p o) (fun p o o' ho => h.blk m p o o' ho) 0 [] s (by simp)
 rw [Nat.zero_add] at this
 exact this
end Go.Proofs.YteknifnadbmfiaaGreatDoor

/- What follows of Inflate: more bytes behind, more that may be told, a stream cut off, a stream behind a stored block, stored blocks alone. No Go text in sight. -/
namespace Go.Proofs.YteknifnadbmfiaaGreatDoor
set_option maxRecDepth 100000

/-! Errors are those of the document. -/
def iBad {α : Type} (r : Except Int (Nat × α)) : Prop := ∀ e, r = .error e -> 60 <= e /\ e <= 65
/-! What is told: bytes, and at most most. -/
theorem iLoop_fin {σ : Type} {T : Nat} {f : Nat -> σ -> Except Int (Nat × (Bool × σ))} (I : σ -> Prop) (hf : ∀ p s q t, I s -> f p s = .ok (q, (true, t)) -> I t) (hg : ∀ p s, iGo T p (f p s)) (p : Nat) (s : σ) (hs : I s) (q : Nat) (t : σ) : iLoop T f p s = .ok (q, t) -> ∃ p' s', I s' /\ f p' s' = .ok (q, (false, t)) := by
 generalize hn : T - p = n
 induction n using Nat.strongRecOn generalizing p s with
 | ind n ih =>
  intro h
  cases hfp : f p s with
  | error e => rw [iLoop_err hfp] at h; cases h
  | ok x =>
   obtain ⟨r, c, u⟩ := x
   have hgo := hg p s r _ hfp
   cases c with
   | false => rw [iLoop_end hfp] at h; cases h; exact ⟨p, s, hs, hfp⟩
   | true =>
    rw [iLoop_on hfp hgo.1 hgo.2] at h
    exact ih (T - r) (by omega) r u (hf p s r u hs hfp) rfl h

def iBy (most : Nat) (o : List Int) : Prop := o.length <= most /\ ∀ x ∈ o, 0 <= x /\ x <= 255
theorem iBy_ln {most : Nat} {o : List Int} (h : iBy most o) (i : Nat) : 0 <= ln o i /\ ln o i <= 255 := by
 unfold ln
 by_cases hi : i < o.length
 ·have := h.2 _ (List.getElem_mem hi)
  simpa [List.getD, hi] using this
 ·simp [List.getD, List.getElem?_eq_none (show o.length <= i by omega)]
theorem iCpy_by {o : List Int} (h : ∀ x ∈ o, 0 <= x /\ x <= 255) (d n : Nat) : ∀ x ∈ iCpy o d n, 0 <= x /\ x <= 255 := by
 induction n generalizing o with
 | zero => exact h
 | succ n ih =>
  rw [iCpy]
  refine ih fun x hx => ?_
  rcases List.mem_append.1 hx with hx | hx
  ·exact h x hx
  ·rw [List.mem_singleton.1 hx]
   exact iBy_ln (most := o.length) ⟨Nat.le_refl _, h⟩ _
theorem iOne_by {S D : List Int} {b : Nat -> Nat} {T most p : Nat} {o : List Int} {q : Nat} {c : Bool} {t : List Int} (ho : iBy most o) (h : iOne S D b T most p o = .ok (q, (c, t))) : iBy most t := by
 unfold iOne at h
 obtain ⟨q1, v, -, h⟩ := iThen_ok h
 split at h
 ·split at h
  ·cases h
  ·cases h
   refine ⟨by simp; omega, fun x hx => ?_⟩
   rcases List.mem_append.1 hx with hx | hx
   ·exact ho.2 x hx
   ·rw [List.mem_singleton.1 hx]; omega
 ·split at h
  ·cases h; exact ho
  ·split at h
   ·cases h
   ·obtain ⟨q2, m, -, h⟩ := iThen_ok h
    obtain ⟨q3, w, -, h⟩ := iThen_ok h
    split at h
    ·cases h
    ·obtain ⟨q4, y, -, h⟩ := iThen_ok h
     split at h
     ·cases h
     ·split at h
      ·cases h
      ·cases h
       exact ⟨by rw [iCpy_length]; omega, iCpy_by ho.2 _ _⟩
theorem iDat_by {S D : List Int} {b : Nat -> Nat} {T most p : Nat} {o : List Int} {q : Nat} {t : List Int} (ho : iBy most o) (h : iDat S D b T most p o = .ok (q, t)) : iBy most t := by
 obtain ⟨p', s', h1, h2⟩ := iLoop_fin (iBy most) (fun p s q t hs e => iOne_by hs e) (fun p s => iGo_one S D b T most p s) p o ho q t h
 exact iOne_by h1 h2
theorem iBytes_by {b : Nat -> Nat} (hb : ∀ i, b i <= 1) (p n : Nat) : ∀ x ∈ iBytes b p n, 0 <= x /\ x <= 255 := by
 intro x hx
 unfold iBytes at hx
 obtain ⟨i, -, rfl⟩ := List.mem_map.1 hx
 have := iNum_lt hb (p + 8 * i) 8
 omega
theorem iBytes_length (b : Nat -> Nat) (p n : Nat) : (iBytes b p n).length = n := by simp [iBytes]
theorem iSto_by {b : Nat -> Nat} (hb : ∀ i, b i <= 1) {T most p : Nat} {o : List Int} {q : Nat} {t : List Int} (ho : iBy most o) (h : iSto b T most p o = .ok (q, t)) : iBy most t := by
 unfold iSto at h
 obtain ⟨q1, n, -, h⟩ := iThen_ok h
 obtain ⟨q2, m, -, h⟩ := iThen_ok h
 split at h
 ·cases h
 ·split at h
  ·cases h
  ·split at h
   ·cases h
   ·cases h
    refine ⟨by rw [List.length_append, iBytes_length]; omega, fun x hx => ?_⟩
    rcases List.mem_append.1 hx with hx | hx
    ·exact ho.2 x hx
    ·exact iBytes_by hb _ _ x hx
theorem iBlk_by {b : Nat -> Nat} (hb : ∀ i, b i <= 1) {T most p : Nat} {o : List Int} {q : Nat} {c : Bool} {t : List Int} (ho : iBy most o) (h : iBlk b T most p o = .ok (q, (c, t))) : iBy most t := by
 unfold iBlk at h
 obtain ⟨q1, l, -, h⟩ := iThen_ok h
 obtain ⟨q2, kind, -, h⟩ := iThen_ok h
 obtain ⟨q3, o2, h3, h⟩ := iThen_ok h
 cases h
 unfold iKind at h3
 split at h3
 ·exact iSto_by hb ho h3
 ·split at h3
  ·exact iDat_by ho h3
  ·split at h3
   ·obtain ⟨q4, sd, -, h4⟩ := iThen_ok h3
    exact iDat_by ho h4
   ·cases h3
theorem iInf_by {b : Nat -> Nat} (hb : ∀ i, b i <= 1) {T most q : Nat} {t : List Int} (h : iInf b T most = .ok (q, t)) : iBy most t := by
 obtain ⟨p', s', h1, h2⟩ := iLoop_fin (iBy most) (fun p s q t hs e => iBlk_by hb hs e) (fun p s => iGo_blk b T most p s) 0 [] ⟨Nat.zero_le _, fun x hx => absurd hx (by simp)⟩ q t h
 exact iBlk_by hb h1 h2

/-! Over bytes. -/
def ib (zs : List Int) (i : Nat) : Nat := (zs.getD (i / 8) 0 / 2 ^ (i % 8) % 2).toNat
theorem ib_le (zs : List Int) (i : Nat) : ib zs i <= 1 := by unfold ib; omega
noncomputable def iRes (r : Except Int (Nat × List Int)) : List Int × Nat × Int :=
 match r with
 | .error e => ([], 0, e)
 | .ok x => (x.2, (x.1 + 7) / 8, 0)
noncomputable def iAns (zs : List Int) (most : Nat) : List Int × Nat × Int := iRes (iInf (ib zs) (8 * zs.length) most)

theorem ib_app (zs ys : List Int) (i : Nat) (hi : i < 8 * zs.length) : ib (zs ++ ys) i = ib zs i := by
 unfold ib
 have : i / 8 < zs.length := by omega
 simp [List.getD, List.getElem?_append_left this]
theorem iAns_more (zs ys : List Int) (most : Nat) : (iAns zs most).2.2 = 60 \/ iAns (zs ++ ys) most = iAns zs most := by
 have h : iFar (fun e => e = 60) 0 (ib zs) (ib (zs ++ ys)) (8 * zs.length) (8 * (zs ++ ys).length) := ⟨fun i hi => ib_app zs ys i hi, by simp; omega, .inr rfl, ib_le _, ib_le _, rfl⟩
 have hs := h.inf (s := []) (most := most) (most' := most) ⟨by simp, .inl (by simp), .inl rfl⟩
 unfold iAns
 cases hr : iInf (ib zs) (8 * zs.length) most with
 | error e =>
  rcases hs.1 e hr with rfl | h2
  ·exact .inl rfl
  ·right; unfold iInf; rw [h2]
 | ok x =>
  obtain ⟨q, o⟩ := x
  obtain ⟨o', h2, h3⟩ := hs.2 q o hr
  right; unfold iInf; rw [h2, h3]; rfl
theorem iAns_most (zs : List Int) (most more : Nat) : (iAns zs most).2.2 = 65 \/ iAns zs (most + more) = iAns zs most := by
 have h : iFar (fun e => e = 65) 0 (ib zs) (ib zs) (8 * zs.length) (8 * zs.length) := ⟨fun i hi => rfl, by simp, .inl rfl, ib_le _, ib_le _, rfl⟩
 have hs := h.inf (s := []) (most := most) (most' := most + more) ⟨by simp, .inr rfl, .inl rfl⟩
 unfold iAns
 cases hr : iInf (ib zs) (8 * zs.length) most with
 | error e =>
  rcases hs.1 e hr with rfl | h2
  ·exact .inl rfl
  ·right; unfold iInf; rw [h2]
 | ok x =>
  obtain ⟨q, o⟩ := x
  obtain ⟨o', h2, h3⟩ := hs.2 q o hr
  right; unfold iInf; rw [h2, h3]; rfl
theorem iAns_by (zs : List Int) (most : Nat) : iBy most (iAns zs most).1 := by
 unfold iAns
 cases hr : iInf (ib zs) (8 * zs.length) most with
 | error e => exact ⟨Nat.zero_le _, fun x hx => absurd hx (by simp [iRes])⟩
 | ok x => exact iInf_by (ib_le _) (q := x.1) (t := x.2) hr
theorem iAns_read (zs : List Int) (most : Nat) : (iAns zs most).2.1 <= zs.length := by
 unfold iAns
 cases hr : iInf (ib zs) (8 * zs.length) most with
 | error e => exact Nat.zero_le _
 | ok x => have := (iGo_inf _ _ _ x.1 x.2 hr).2; show (x.1 + 7) / 8 <= _; omega
theorem iAns_cut (zs : List Int) (most cut : Nat) (hc : cut < (iAns zs most).2.1) : (iAns (zs.take cut) most).2.2 = 60 := by
 have hr := iAns_read zs most
 rcases iAns_more (zs.take cut) (zs.drop cut) most with h | h
 ·exact h
 ·rw [List.take_append_drop] at h
  exfalso
  have := iAns_read (zs.take cut) most
  rw [<- h] at this
  rw [List.length_take] at this
  omega
end Go.Proofs.YteknifnadbmfiaaGreatDoor

/- Stored blocks, and what stands behind them. No Go text in sight. -/
namespace Go.Proofs.YteknifnadbmfiaaGreatDoor
set_option maxRecDepth 100000

theorem iNum_add (b : Nat -> Nat) (p m n : Nat) : iNum b p (m + n) = iNum b p m + 2 ^ m * iNum b (p + m) n := by
 induction n with
 | zero => simp [iNum]
 | succ n ih =>
  rw [<- Nat.add_assoc, iNum, ih, iNum, Nat.mul_add, Nat.pow_add, Nat.add_assoc p m n, Nat.add_assoc, Nat.mul_left_comm, Nat.mul_comm (b _) (2 ^ n)]
theorem ib_at (zs : List Int) (j r z : Nat) (hr : r < 8) (hz : zs.getD j 0 = (z : Int)) : ib zs (8 * j + r) = z / 2 ^ r % 2 := by
 unfold ib
 rw [show (8 * j + r) / 8 = j by omega, show (8 * j + r) % 8 = r by omega, hz]
 have e : (z : Int) / 2 ^ r % 2 = ((z / 2 ^ r % 2 : Nat) : Int) := by simp
 rw [e, Int.toNat_natCast]
theorem iNum_in (zs : List Int) (j z : Nat) (hz : zs.getD j 0 = (z : Int)) (r n : Nat) (h : r + n <= 8) : iNum (ib zs) (8 * j + r) n = z / 2 ^ r % 2 ^ n := by
 induction n with
 | zero => simp [iNum, Nat.mod_one]
 | succ n ih =>
  rw [iNum, ih (by omega), Nat.add_assoc, ib_at zs j (r + n) z (by omega) hz, Nat.mod_pow_succ, Nat.pow_add, Nat.div_div_eq_div_mul, Nat.mul_comm (2 ^ n)]
theorem iNum_byte (zs : List Int) (j z : Nat) (hz : zs.getD j 0 = (z : Int)) (h : z < 256) : iNum (ib zs) (8 * j) 8 = z := by
 have := iNum_in zs j z hz 0 8 (by omega)
 simp at this
 rw [this]; omega
theorem iNum_two (zs : List Int) (j y z : Nat) (hy : zs.getD j 0 = (y : Int)) (hz : zs.getD (j + 1) 0 = (z : Int)) (h : y < 256) (h' : z < 256) : iNum (ib zs) (8 * j) 16 = y + 256 * z := by
 have e := iNum_add (ib zs) (8 * j) 8 8
 rw [iNum_byte zs j y hy h, show 8 * j + 8 = 8 * (j + 1) by omega, iNum_byte zs (j + 1) z hz h'] at e
 exact e

def iHead (l n : Nat) : List Int := [(l : Int), ((n % 256 : Nat) : Int), ((n / 256 : Nat) : Int), ((255 - n % 256 : Nat) : Int), ((255 - n / 256 : Nat) : Int)]
theorem iHead_length (l n : Nat) : (iHead l n).length = 5 := rfl
theorem getD_mid (A H B : List Int) (i : Nat) (hi : i < H.length) : (A ++ (H ++ B)).getD (A.length + i) 0 = H.getD i 0 := by
 simp [List.getD, List.getElem?_append_right, List.getElem?_append_left hi]
theorem iBytes_mid (A s B : List Int) (hs : ∀ x ∈ s, 0 <= x /\ x <= 255) : iBytes (ib (A ++ (s ++ B))) (8 * A.length) s.length = s := by
 refine List.ext_getElem (by rw [iBytes_length]) fun i h1 h2 => ?_
 have hb := hs _ (List.getElem_mem h2)
 obtain ⟨z, hz⟩ := Int.eq_ofNat_of_zero_le hb.1
 have hg : (A ++ (s ++ B)).getD (A.length + i) 0 = (z : Int) := by rw [getD_mid A s B i h2, <- hz]; simp [List.getD, h2]
 simp only [iBytes, List.getElem_map, List.getElem_range]
 rw [show 8 * A.length + 8 * i = 8 * (A.length + i) by omega, iNum_byte _ _ z hg (by omega), hz]
theorem iBlk_sto (A s B : List Int) (l : Nat) (hl : l <= 1) (hs : ∀ x ∈ s, 0 <= x /\ x <= 255) (hn : s.length <= 65535) (most : Nat) (out : List Int) (hm : out.length + s.length <= most) (Z : List Int) (hZ : Z = A ++ (iHead l s.length ++ (s ++ B))) :
  iBlk (ib Z) (8 * Z.length) most (8 * A.length) out = .ok (8 * (A.length + 5 + s.length), (decide (l = 0), out ++ s)) := by
 have hlen : Z.length = A.length + (5 + (s.length + B.length)) := by subst hZ; simp only [List.length_append, iHead_length]
 have g : ∀ i, i < 5 -> Z.getD (A.length + i) 0 = (iHead l s.length).getD i 0 := fun i hi => by subst hZ; exact getD_mid _ _ _ i hi
 have g0 := g 0 (by omega)
 have g1 := g 1 (by omega)
 have g2 := g 2 (by omega)
 have g3 := g 3 (by omega)
 have g4 := g 4 (by omega)
 replace g0 : Z.getD A.length 0 = ((l : Nat) : Int) := g0
 replace g1 : Z.getD (A.length + 1) 0 = ((s.length % 256 : Nat) : Int) := g1
 replace g2 : Z.getD (A.length + 2) 0 = ((s.length / 256 : Nat) : Int) := g2
 replace g3 : Z.getD (A.length + 3) 0 = ((255 - s.length % 256 : Nat) : Int) := g3
 replace g4 : Z.getD (A.length + 4) 0 = ((255 - s.length / 256 : Nat) : Int) := g4
 have t1 := iTk_ok (b := ib Z) (T := 8 * Z.length) (p := 8 * A.length) (n := 1) (by omega)
 have v1 := iNum_in Z A.length l g0 0 1 (by omega)
 simp at v1
 rw [v1, show l % 2 = l by omega] at t1
 have t2 := iTk_ok (b := ib Z) (T := 8 * Z.length) (p := 8 * A.length + 1) (n := 2) (by omega)
 have v2 := iNum_in Z A.length l g0 1 2 (by omega)
 rw [v2, show l / 2 ^ 1 % 2 ^ 2 = 0 by omega] at t2
 have t3 := iTk_ok (b := ib Z) (T := 8 * Z.length) (p := 8 * (A.length + 1)) (n := 16) (by omega)
 rw [iNum_two Z (A.length + 1) _ _ g1 g2 (by omega) (by omega), show s.length % 256 + 256 * (s.length / 256) = s.length by omega] at t3
 have t4 := iTk_ok (b := ib Z) (T := 8 * Z.length) (p := 8 * (A.length + 3)) (n := 16) (by omega)
 rw [iNum_two Z (A.length + 3) _ _ g3 g4 (by omega) (by omega)] at t4
 unfold iBlk
 rw [iThen_of_ok t1, iThen_of_ok t2]
 have hk : iKind (ib Z) (8 * Z.length) most 0 (8 * A.length + 1 + 2) out = .ok (8 * (A.length + 5 + s.length), out ++ s) := by
  unfold iKind iSto
  rw [if_pos rfl, show (8 * A.length + 1 + 2 + 7) / 8 * 8 = 8 * (A.length + 1) by omega, iThen_of_ok t3, show 8 * (A.length + 1) + 16 = 8 * (A.length + 3) by omega, iThen_of_ok t4, if_neg (by omega), if_neg (by omega), if_neg (by omega)]
  have hb := iBytes_mid (A ++ iHead l s.length) s B hs
  rw [List.append_assoc, <- hZ, List.length_append, iHead_length] at hb
  rw [show 8 * (A.length + 3) + 16 = 8 * (A.length + 5) by omega, hb]
  congr 2
  omega
 rw [iThen_of_ok hk]

def iRow : List (List Int) -> List Int
 | [] => iHead 1 0
 | s :: r => iHead 0 s.length ++ (s ++ iRow r)
end Go.Proofs.YteknifnadbmfiaaGreatDoor

/- How many lengths a dynamic block tells, and that they are lengths. No Go text in sight. -/
namespace Go.Proofs.YteknifnadbmfiaaGreatDoor
set_option maxRecDepth 100000

theorem fit_set {L : List Int} (h : Fit L) (i : Nat) {x : Int} (hx : 0 <= x /\ x <= 15) : Fit (L.set i x) := fun y hy => by
 rcases List.mem_or_eq_of_mem_set hy with hy | rfl
 ·exact h y hy
 ·exact hx
theorem fit_app {L M : List Int} (h : Fit L) (k : Fit M) : Fit (L ++ M) := fun y hy => by
 rcases List.mem_append.1 hy with hy | hy
 ·exact h y hy
 ·exact k y hy
theorem iRd3_fit {b : Nat -> Nat} (hb : ∀ i, b i <= 1) {T n p i : Nat} {first : List Int} (hf : Fit first) {q : Nat} {f : List Int} (h : iRd3 b T n p i first = .ok (q, f)) : f.length = first.length /\ Fit f := by
 induction n generalizing p i first with
 | zero => cases h; exact ⟨rfl, hf⟩
 | succ n ih =>
  rw [iRd3] at h
  obtain ⟨q1, v, h1, h⟩ := iThen_ok h
  have hv := iNum_lt hb p 3
  rw [<- (iTk_got h1).2.2] at hv
  have := ih (fit_set hf _ (by omega)) h
  rw [List.length_set] at this
  exact this
theorem iLen_got {first : List Int} {many : Nat} {b : Nat -> Nat} {T p : Nat} {all : List Int} {q : Nat} {c : Bool} {t : List Int} (hl : all.length < many) (hf : Fit all) (h : iLen first many b T p all = .ok (q, (c, t))) : t.length <= many /\ Fit t /\ c = decide (t.length < many) /\ all.length < t.length := by
 unfold iLen at h
 obtain ⟨q1, v, -, h⟩ := iThen_ok h
 split at h
 ·cases h
  refine ⟨by simp; omega, fit_app hf fun y hy => ?_, by simp, by simp⟩
  rw [List.mem_singleton.1 hy]; omega
 ·split at h
  ·cases h
  ·obtain ⟨q2, x, -, h⟩ := iThen_ok h
   have hpos : 3 <= x + (if v = 18 then 11 else 3) := by split <;> omega
   generalize x + (if v = 18 then 11 else 3) = n at h hpos
   split at h
   ·cases h
   ·cases h
    refine ⟨by simp; omega, fit_app hf fun y hy => ?_, by simp, by simp; omega⟩
    rw [List.eq_of_mem_replicate hy]
    split
    ·exact ln_fit hf _
    ·omega
theorem iLens_got {first : List Int} {many : Nat} {b : Nat -> Nat} {T p : Nat} (hm : 0 < many) {q : Nat} {t : List Int} (h : iLoop T (iLen first many b T) p [] = .ok (q, t)) : t.length = many /\ Fit t := by
 obtain ⟨p', s', h1, h2⟩ := iLoop_fin (fun l => l.length < many /\ Fit l) (fun p s q t hs e => by
  have := iLen_got hs.1 hs.2 e
  exact ⟨by have := this.2.2.1; simpa using this.symm, this.2.1⟩) (fun p s => iGo_len first many b T p s) p [] ⟨by simpa using hm, fun y hy => absurd hy (by simp)⟩ q t h
 obtain ⟨g1, g2, g3, -⟩ := iLen_got h1.1 h1.2 h2
 have : ¬ t.length < many := by simpa using g3.symm
 exact ⟨by omega, g2⟩
end Go.Proofs.YteknifnadbmfiaaGreatDoor

/- The reader's Bits: where so many bits are left, it tells them as a number and stands behind them. -/
namespace Go.Proofs.YteknifnadbmfiaaGreatDoor
set_option maxRecDepth 100000
open Go.RowKit

theorem piece_nat (ba bt b off len cap pos wanted : Nat) (wi : Int) (hwi : wi = wanted) (zs : List Int) (w : World)
  (ha : w.cell? ⟨ba, 0, none⟩ = some (.int .i64 (pos : Int))) (hf : w.frozen? ⟨ba, 0, none⟩ = false) (ht : w.cell? ⟨bt, 0, none⟩ = some (.slice (some ⟨b, off, none⟩) len cap))
  (hc : ∀ i, i < len -> w.cell? ⟨b, off + i, none⟩ = some (.int .u8 (zs.getD i 0))) (hz : ∀ i, 0 <= zs.getD i 0 /\ zs.getD i 0 <= 255) (hp1 : pos < len * 8) (hl : len * 8 <= 9223372036854775000) (hw0 : 1 <= wanted) (hw1 : wanted <= 24) :
  Calls Tryz.prog 138 #[.int .i64 wi, .pointer (some ⟨ba, 0, none⟩), .pointer (some ⟨bt, 0, none⟩)] w fun e w' => ∃ l : Nat, 1 <= l /\ l <= wanted /\ l <= 8 /\ e = .returned (.tuple #[.int .i64 (bitsVal zs pos l), .int .i64 (l : Int)]) /\ w' = w.setCell ⟨ba, 0, none⟩ (.int .i64 ((pos + l : Nat) : Int)) := by
 subst hwi
 have e8 : ((pos : Int) / 8).toNat = pos / 8 := by omega
 have hzz := hz (pos / 8)
 refine (piece_any ba bt b off len cap pos wanted (zs.getD (pos / 8) 0) w ha hf ht (by rw [e8]; exact hc _ (by omega)) (by omega) (by omega) hl (by omega) (by omega) hzz.1 hzz.2).mono ?_
 rintro e w' ⟨rfl, rfl⟩
 have em : min (8 - (pos : Int) % 8) wanted = ((min (8 - pos % 8) wanted : Nat) : Int) := by omega
 refine ⟨min (8 - pos % 8) wanted, by omega, by omega, by omega, ?_, ?_⟩
 ·rw [em, bitsVal_byte zs pos _ (by omega), show ((pos : Int) % 8).toNat = pos % 8 by omega, Int.toNat_natCast]
 ·rw [em]; rfl

theorem bits_join (zs : List Int) (p k l : Nat) (h : k + l <= 24) : bits .or .i64 (bitsVal zs p k) (wrap64 (bitsVal zs (p + k) l * 2 ^ k)) = bitsVal zs p (k + l) := by
 have h1 := bitsVal_bd zs p k
 have h2 := bitsVal_bd zs (p + k) l
 have hp := pow_pos' k
 have h3 : bitsVal zs (p + k) l * 2 ^ k < 2 ^ (k + l) := by
  rw [Nat.add_comm k l, Int.pow_add]
  exact Int.mul_lt_mul_of_pos_right h2.2 (show (0 : Int) < 2 ^ k by omega)
 have h4 : 0 <= bitsVal zs (p + k) l * 2 ^ k := Int.mul_nonneg h2.1 (by omega)
 have h5 := @pow_le_24 (k + l) h
 rw [IntWalk.wrap64_in _ ⟨by omega, by omega⟩, or_add _ _ k h1.1 h1.2 h2.1 (by omega) (by omega), bitsVal_add]

set_option maxHeartbeats 1000000 in
theorem bits_yes (B br : Nat) (a : Option Addr) (len cap p n : Nat) (zs : List Int) (w : World) (hb : w.heap[br]? = some (.cells #[.slice a len cap, .int .i64 (p : Int)] 148 (0, 0)))
  (ht : Text B w a len zs) (hl : len * 8 <= 9223372036854775000) (hn : n <= 24) (hp : p + n <= len * 8) :
  Calls Tryz.prog 98 #[.pointer (some ⟨br, 0, none⟩), .int .i64 n] w fun e w' => e = .returned (.tuple #[.int .i64 (bitsVal zs p n), .bool true]) /\ w'.heap[br]? = some (.cells #[.slice a len cap, .int .i64 ((p + n : Nat) : Int)] 148 (0, 0)) /\ Kept (fun k => k = br) w w' := by
 have c0 := cells_of hb 0
 have c1 := cells_of hb 1
 have hbr := lt_of_block hb
 simp at c0 c1
 go_enter Tryz.func98, Tryz.ntmps98
 go_wp2_with (first | (go_at_call 80; refine (fits_yes _ _ (by omega) (by omega)).mono ?_; rintro e w ⟨rfl, rfl⟩) | (go_at_call 60; refine (left_any br a len cap p _ (by assumption) (by assumption) (by omega) (by omega) (by omega)).mono ?_; rintro e w' ⟨rfl, q, rfl⟩))
 go_region_held3 (fun w' => w'.cell? ⟨br, 0, none⟩ = some (.slice a len cap) /\ w'.cell? ⟨br, 1, none⟩ = some (.int .i64 (p : Int))) (go_keep) ((go_at_call 123; refine (pieces_any _ _ _ _ _).mono ?_; rintro e w' ⟨rfl, rfl⟩))
 all_goals go_wp2
 go_loopw [7, 8] (fun v i wr => ∃ k : Nat, k <= n /\ i = .int .i64 k /\ v = .int .i64 (bitsVal zs p k) /\ wr.heap[w.heap.size]? = some (.cells #[.slice a len cap] 24 (0, 0)) /\ wr.heap[w.heap.size + 1]? = some (.cells #[.int .i64 ((p + k : Nat) : Int)] 3 (0, 0)) /\ Kept (fun _ => False) w wr)
  (fun _ i _ => n - (intOf i).toNat)
 case atStart => exact ⟨0, Nat.zero_le _, rfl, rfl, heap_new1 (w.drewN (q + 1)) _ _, heap_new2 (w.drewN (q + 1)) _ _, ((Kept.refl _ _).drewN _).alloc _ _ |>.alloc _ _⟩
 case round =>
  obtain ⟨k, hk, rfl, rfl, hT, hA, hK⟩ := hrel
  clear c0 c1
  have hbr' := hK.heap hb (fun h => h)
  have d0 := cells_of hbr' 0
  have d1 := cells_of hbr' 1
  have f1 := free_of hbr' 1
  simp at d0 d1
  by_cases hlt : k < n
  ·obtain ⟨hz1, hz2, hz3⟩ := ht.kept hK (fun _ _ h => h)
   obtain ⟨b, off, hbB, rfl, hcell⟩ := hz3.resolve_left (by omega)
   have t0 := cell_of_one hT
   have a0 := cell_of_one hA
   have af := free_of_one hA
   have HH : Hid (∀ i, i < len -> wr.cell? ⟨b, off + i, none⟩ = some (.int .u8 (zs.getD i 0))) := hcell
   have HZ : Hid (∀ i, 0 <= zs.getD i 0 /\ zs.getD i 0 <= 255) := hz2
   clear hcell hz2 hz3
   go_wp2_with (go_at_call 138; refine (piece_nat _ _ b off len cap (p + k) (n - k) _ (by omega) zs _ a0 af t0 HH.out HZ.out (by omega) hl (by omega) (by omega)).mono ?_; rintro e w' ⟨l, hl1, hl2, hl3, rfl, rfl⟩)
   go_roundw
   case rel =>
    refine ⟨k + l, by omega, by go_num, ?_, ?_, ?_, ?_⟩
    ·exact congrArg (Value.int .i64) (bits_join zs p k l (by omega))
    ·rw [set_other (by omega)]; exact hT
    ·rw [one_setCell hA, show ((p : Int) + k + l) = ((p + (k + l) : Nat) : Int) by omega]
    ·exact hK.setCell (fun h => absurd (show w.heap.size + 1 < w.heap.size from h) (by omega)) _
   case measure => simp [intOf]; omega
  ·have : k = n := by omega
   subst this
   go_wp2
   go_ret2
   refine ⟨rfl, ?_, ?_⟩
   ·rw [set_of hbr']; rfl
   ·exact Kept.setCell (M := fun k => k = br) (hK.mono (fun _ _ h => h.elim)) (fun _ => rfl) _
#print axioms bits_yes
end Go.Proofs.YteknifnadbmfiaaGreatDoor

/- huff's Next: contract. -/
namespace Go.Proofs.YteknifnadbmfiaaGreatDoor
set_option maxRecDepth 100000
open Go Go.RowKit

def bz (zs : List Int) (p i : Nat) : Nat := (bitAt zs (p + i)).toNat
theorem bz_le (zs : List Int) (p i : Nat) : bz zs p i <= 1 := by have := bitAt_bd zs (p + i); unfold bz; omega
theorem bz_int (zs : List Int) (p i : Nat) : (bz zs p i : Int) = bitAt zs (p + i) := by have := bitAt_bd zs (p + i); unfold bz; omega

theorem code_join (v x : Nat) (hv : v <= 1000000) (hx : x <= 1) : bits .or .i64 ((v : Int) * 2) (x : Int) = ((2 * v + x : Nat) : Int) := by
 have := or_add_low (x : Int) (v : Int) 1 (by omega) (by omega) (by omega) (by omega) (by omega)
 simp only [Int.pow_one] at this
 rw [this]; push_cast; omega

theorem bits1_yes (B br : Nat) (a : Option Addr) (len cap p : Nat) (zs : List Int) (w : World) (hb : w.heap[br]? = some (.cells #[.slice a len cap, .int .i64 (p : Int)] 148 (0, 0)))
  (ht : Text B w a len zs) (hl : len * 8 <= 9223372036854775000) (hp : p + 1 <= len * 8) :
  Calls Tryz.prog 98 #[.pointer (some ⟨br, 0, none⟩), .int .i64 1] w fun e w' => e = .returned (.tuple #[.int .i64 (bz zs p 0 : Int), .bool true]) /\ w'.heap[br]? = some (.cells #[.slice a len cap, .int .i64 ((p + 1 : Nat) : Int)] 148 (0, 0)) /\ Kept (fun k => k = br) w w' := by
 have h := bits_yes B br a len cap p 1 zs w hb ht hl (by omega) hp
 have e : bitsVal zs p 1 = (bz zs p 0 : Int) := by rw [bz_int]; simp [bitsVal]
 rw [e] at h
 exact h

structure Nx (lo hi bc gl gc : Nat) (vo : Value) (N : Nat) (ls : List Int) (br : Nat) (a : Option Addr) (len cap p : Nat) (zs : List Int) (B : Nat) (w wr : World) (n : Nat) : Prop where
 code : CodeAt lo hi wr bc gl gc vo N ls
 rd : wr.heap[br]? = some (.cells #[.slice a len cap, .int .i64 ((p + n : Nat) : Int)] 148 (0, 0))
 tx : Text B wr a len zs
 kept : Kept (fun k => k = br) w wr
 no : ∀ m, m <= n -> ¬ Hit ls (bz zs p) m
 le : n <= N
 av : p + n <= len * 8

theorem no_zero (ls : List Int) (b : Nat -> Nat) : ∀ m, m <= 0 -> ¬ Hit ls b m := fun m hm h => by
 have := hit_pos h; omega

theorem bz_at (zs : List Int) (p n : Nat) : bz zs (p + n) 0 = bz zs p n := by unfold bz; rfl

set_option maxHeartbeats 2000000 in
set_option maxRecDepth 100000 in
theorem next_any (lo hi bc gl gc : Nat) (vo : Value) (N : Nat) (ls : List Int) (br : Nat) (a : Option Addr) (len cap p : Nat) (zs : List Int) (B : Nat) (w : World) (hc : CodeAt lo hi w bc gl gc vo N ls) (hg : Good ls) (h3 : ls.length <= 320)
  (hr : w.heap[br]? = some (.cells #[.slice a len cap, .int .i64 (p : Int)] 148 (0, 0))) (ht : Text B w a len zs) (hl : len * 8 <= 9223372036854775000) (hp : p <= len * 8) (hbr : br < lo \/ hi <= br) (hBr : B <= br) :
  Calls Tryz.prog 139 #[.pointer (some ⟨bc, 0, none⟩), .pointer (some ⟨br, 0, none⟩)] w fun e w' => ∃ s n err, NextIs ls (bz zs p) (len * 8 - p) N s n err /\ e = .returned (.tuple #[.int .i64 (s : Int), .int .i64 err]) /\ (∃ q : Nat, w'.heap[br]? = some (.cells #[.slice a len cap, .int .i64 (q : Int)] 148 (0, 0)) /\ q <= len * 8 /\ (err = 0 -> q = p + n)) /\ Kept (fun k => k = br) w w' := by
 have HS : Hid (Nx lo hi bc gl gc vo N ls br a len cap p zs B w w 0) := ⟨hc, hr, ht, Kept.refl _ _, no_zero ls _, by omega, by omega⟩
 have HG : Hid (Good ls) := hg
 have HLo : Hid (Longest ls N) := hc.long
 have hN := hc.long.le
 have HBR : Hid (∀ b, lo <= b -> b < hi -> ¬ b = br) := fun b h1 h2 e => by omega
 clear hc hr ht hg
 go_enter Tryz.func139, Tryz.ntmps139
 go_wp2
 go_loopw [6, 7, 8, 9] (fun s6 s7 s8 s9 wr => ∃ n : Nat, s9 = .int .i64 ((n : Int) + 1) /\ s6 = .int .i64 (vl (bz zs p) n : Int) /\ s7 = .int .i64 (fc ls (n + 1) : Int) /\ s8 = .int .i64 (sh ls n : Int) /\ Nx lo hi bc gl gc vo N ls br a len cap p zs B w wr n) (fun _ _ _ s9 _ => 16 - (intOf s9).toNat)
 case atStart => exact ⟨0, rfl, rfl, rfl, rfl, HS.out⟩
 case round =>
  obtain ⟨n, rfl, rfl, rfl, rfl, hn⟩ := hrel
  clear HS
  have c19 := cells_of hn.code.block 19
  rw [codeA_19] at c19
  have hle := hn.le
  have hav := hn.av
  have HN : Hid _ := hn
  by_cases hlt : n < N
  ·have hv := vl_lt (bz zs p) (bz_le zs p) n
   have hp15 : 2 ^ n <= 2 ^ 15 := Nat.pow_le_pow_right (by decide) (by omega)
   have hp16 : 2 ^ (n + 1) <= 2 ^ 15 := Nat.pow_le_pow_right (by decide) (by omega)
   by_cases hmore : p + n + 1 <= len * 8
   ·have hup := up_le ls HG.out.le (n + 1) (by omega)
    have hsl := sh_le ls h3 n (by omega)
    have hct := ct_le ls (n + 1)
    have hb1 := bz_le zs p n
    have HV : Hid (vl (bz zs p) (n + 1) = 2 * vl (bz zs p) n + bz zs p n) := rfl
    have HNB : Hid (fc ls (n + 1) <= vl (bz zs p) (n + 1)) := not_below ls (bz zs p) (n + 1) (fun k hk => hn.no k (by omega))
    have hj := code_join (vl (bz zs p) n) (bz zs p n) (by omega) hb1
    have HBits : Hid (Calls Tryz.prog 98 #[.pointer (some ⟨br, 0, none⟩), .int .i64 1] wr fun e w' => e = .returned (.tuple #[.int .i64 (bz zs p n : Int), .bool true]) /\ w'.heap[br]? = some (.cells #[.slice a len cap, .int .i64 ((p + n + 1 : Nat) : Int)] 148 (0, 0)) /\ Kept (fun k => k = br) wr w') := by
     have := bits1_yes B br a len cap (p + n) zs wr hn.rd hn.tx hl (by omega)
     rw [bz_at] at this
     exact this
    have HF : Hid (fc ls (n + 1 + 1) = 2 * (fc ls (n + 1) + ct ls (n + 1))) := rfl
    have HSH : Hid (sh ls (n + 1) = sh ls n + ct ls (n + 1)) := rfl
    rw [<- HV.out] at hj
    generalize vl (bz zs p) n = V0 at hj hv
    generalize bz zs p n = X at hj hb1 HBits
    have hvb : vl (bz zs p) (n + 1) <= 32768 := by have := vl_lt (bz zs p) (bz_le zs p) (n + 1); omega
    have hlt' : (n : Int) + 1 <= N := by omega
    have hV0 : V0 <= 32768 := by omega
    have hfc : fc ls (n + 1) <= 32768 := by omega
    have hsl' : sh ls n <= 4800 := by omega
    have hct' : ct ls (n + 1) <= 320 := by omega
    clear hv hp15 hp16 hup hsl hct hn HV
    by_cases hhit : vl (bz zs p) (n + 1) < fc ls (n + 1) + ct ls (n + 1)
    ·obtain ⟨s, hs, hsl, hcd⟩ := hit_sym (ls := ls) (b := bz zs p) (n := n + 1) ⟨HNB.out, hhit⟩
     have hrk : rk ls s = vl (bz zs p) (n + 1) - fc ls (n + 1) := by
      have : cd ls s = fc ls (ln ls s).toNat + rk ls s := rfl
      rw [hsl, Int.toNat_natCast] at this
      omega
     have hod := od_at ls n s hs hsl 15 (by omega)
     have HR : Hid (NextIs ls (bz zs p) (len * 8 - p) N s (n + 1) 0) := .inl ⟨rfl, by omega, hs, by omega, hsl, hcd⟩
     obtain ⟨ao, co, hvo, hform⟩ := HN.out.code.ord.form
     have hol : sh ls n + rk ls s < ((od ls 15).map (fun (x : Nat) => (x : Int))).length := by
      rw [List.length_map]
      rcases Nat.lt_or_ge (sh ls n + rk ls s) (od ls 15).length with h' | h'
      ·exact h'
      ·rw [List.getElem?_eq_none h'] at hod; simp at hod
     obtain ⟨g, hg1, hg2, hg3, rfl, hcell⟩ := hform (by omega)
     have hci := hcell _ hol
     have hgv : ((od ls 15).map (fun (x : Nat) => (x : Int))).getD (sh ls n + rk ls s) 0 = (s : Int) := by
      simp [List.getD, hod]
     rw [hgv, hrk] at hci
     have hgne : g ≠ br := HBR.out g hg2 (HN.out.code.ordlt g hg1)
     have HCI : Hid (wr.cell? ⟨g, sh ls n + (vl (bz zs p) (n + 1) - fc ls (n + 1)), none⟩ = some (.int .i64 (s : Int))) := hci
     rw [hrk] at hol
     generalize ((od ls 15).map (fun (x : Nat) => (x : Int))).length = OL at hvo hol
     have hbcn := HBR.out bc HN.out.code.inb.1 HN.out.code.inb.2
     have hnb := HNB.out
     subst hvo
     clear hrk hod hsl hcd hform hcell hci hgv hg1
     generalize hVe : vl (bz zs p) (n + 1) = V at hj hvb hhit hnb hol HCI HNB
     generalize fc ls (n + 1) = F at hfc hhit hnb hol HCI HNB HF ⊢
     generalize sh ls n = S at hsl' hol HCI HSH ⊢
     have HVe : Hid (vl (bz zs p) (n + 1) = V) := hVe
     obtain ⟨D, hD⟩ : ∃ D, D = V - F := ⟨_, rfl⟩
     have hDi : (S : Int) + V - F = ((S + D : Nat) : Int) := by omega
     rw [<- hD] at HCI hol
     have hVF : (V : Int) - F < (ct ls (n + 1) : Int) := by omega
     have hsd : ((S + D : Nat) : Int) < (OL : Int) := by omega
     clear hVe hD hhit HSH HF HNB
     go_wp2_with (go_at_call 98; refine HBits.out.mono ?_; rintro e w1 ⟨rfl, hb2, hk2⟩; have kb := hk2.heap HN.out.code.block hbcn; have d16 := cells_of kb 16; rw [codeA_16] at d16; have dn := cells_of kb (n + 1); rw [codeA_low _ _ _ _ _ (by omega) (by omega)] at dn; have dg := (hk2.cell (p := ⟨g, S + D, none⟩) hg3 hgne).trans HCI.out; have HB2 : Hid (w1.heap[br]? = some (.cells #[.slice a len cap, .int .i64 ((p + n + 1 : Nat) : Int)] 148 (0, 0))) := hb2; have HK2 : Hid (Kept (fun k => k = br) wr w1) := hk2; clear hb2 hk2 kb)
     go_ret2
     exact ⟨s, n + 1, 0, HR.out, rfl, ⟨p + n + 1, HB2.out, by omega, fun _ => by omega⟩, HN.out.kept.trans HK2.out (fun _ _ h => h)⟩
    ·have hbcn := HBR.out bc HN.out.code.inb.1 HN.out.code.inb.2
     have hVF : ¬ (vl (bz zs p) (n + 1) : Int) - (fc ls (n + 1) : Int) < (ct ls (n + 1) : Int) := by omega
     have HNO : Hid (∀ m, m <= n + 1 -> ¬ Hit ls (bz zs p) m) := fun m hm => by
      by_cases e : m = n + 1
      ·subst e; intro hh; exact hhit hh.2
      ·exact HN.out.no m (by omega)
     clear hhit HNB
     have HVe : Hid (∃ V, V = vl (bz zs p) (n + 1)) := ⟨_, rfl⟩
     go_wp2_with (go_at_call 98; refine HBits.out.mono ?_; rintro e w1 ⟨rfl, hb2, hk2⟩; have kb := hk2.heap HN.out.code.block hbcn; have dn := cells_of kb (n + 1); rw [codeA_low _ _ _ _ _ (by omega) (by omega)] at dn; have HB2 : Hid (w1.heap[br]? = some (.cells #[.slice a len cap, .int .i64 ((p + n + 1 : Nat) : Int)] 148 (0, 0))) := hb2; have HK2 : Hid (Kept (fun k => k = br) wr w1) := hk2; clear hb2 hk2 kb)
     go_roundw
     case rel =>
      refine ⟨n + 1, by go_num, rfl, by rw [HF.out]; go_num, by rw [HSH.out]; go_num, ⟨HN.out.code.kept HK2.out HBR.out, HB2.out, HN.out.tx.kept HK2.out (fun b hb e => by omega), HN.out.kept.trans HK2.out (fun _ _ h => h), HNO.out, by omega, by omega⟩⟩
     case measure => simp [intOf]; omega
   ·have HBits : Hid (Calls Tryz.prog 98 #[.pointer (some ⟨br, 0, none⟩), .int .i64 1] wr fun e w' => e = .returned (.tuple #[.int .i64 0, .bool false]) /\ ∃ k, w' = wr.drewN k) :=
     bits_no br a len cap (p + n) 1 wr hn.rd hl hn.av (.inr (.inr (by omega)))
    have HR : Hid (NextIs ls (bz zs p) (len * 8 - p) N 0 0 42) := .inr ⟨rfl, rfl, fun m hm => hn.no m (by omega), .inl ⟨by omega, rfl⟩⟩
    have hlt' : (n : Int) + 1 <= N := by omega
    clear hv hp15 hp16 hn
    go_wp2_with (go_at_call 98; refine HBits.out.mono ?_; rintro e w1 ⟨rfl, q, rfl⟩)
    go_ret2
    exact ⟨0, 0, 42, HR.out, rfl, ⟨p + n, HN.out.rd, hav, fun h => by simp at h⟩, HN.out.kept.drewN q⟩
  ·obtain rfl : n = N := by omega
   have HR : Hid (NextIs ls (bz zs p) (len * 8 - p) n 0 0 43) := by
    refine .inr ⟨rfl, rfl, fun m hm => ?_, .inr ⟨by omega, rfl⟩⟩
    by_cases e : m <= n
    ·exact hn.no m e
    ·intro hh
     have := HLo.out.zero m (by omega)
     unfold Hit at hh; omega
   clear hn
   go_wp2
   go_ret2
   exact ⟨0, 0, 43, HR.out, rfl, ⟨p + n, HN.out.rd, hav, fun h => by simp at h⟩, HN.out.kept⟩
end Go.Proofs.YteknifnadbmfiaaGreatDoor

/- The program's stream as it lies in memory, and what its methods answer. -/
namespace Go.Proofs.YteknifnadbmfiaaGreatDoor
set_option maxRecDepth 100000
open Go Go.RowKit

theorem hide {p : Prop} (h : p) : Hid p := h
def fA (br : Nat) (o : Option Addr) (ol oc : Nat) (m : Int) (fc : Value) : Array Value := #[.pointer (some ⟨br, 0, none⟩), .slice o ol oc, .int .i64 m, fc]
def rA (a : Option Addr) (len cap p : Nat) : Array Value := #[.slice a len cap, .int .i64 (p : Int)]
theorem bz_ib (zs : List Int) (p : Nat) : bz zs p = fun i => ib zs (p + i) := rfl
theorem bits_num (zs : List Int) (p n : Nat) : bitsVal zs p n = (iNum (ib zs) p n : Int) := by
 induction n with
 | zero => rfl
 | succ n ih =>
  have h := bitAt_bd zs (p + n)
  have e : (ib zs (p + n) : Int) = bitAt zs (p + n) := by
   show ((bitAt zs (p + n)).toNat : Int) = _
   omega
  rw [bitsVal, iNum, ih, <- e]
  push_cast
  rfl

structure SS (B bs br : Nat) (a : Option Addr) (len cap : Nat) (zs : List Int) (m : Nat) (w : World) (p : Nat) (o : Option Addr) (oc : Nat) (fc : Value) (out : List Int) : Prop where
 s0 : w.heap[bs]? = some (.cells (fA br o out.length oc m fc) 120 (0, 0))
 rd : w.heap[br]? = some (.cells (rA a len cap p) 148 (0, 0))
 tx : Text B w a len zs
 owns : OwnsB w B (.slice o out.length oc) out
 inb : B <= bs /\ B <= br
 pl : p <= len * 8

section
variable {B bs br : Nat} {a : Option Addr} {len cap : Nat} {zs : List Int} {m : Nat} {w w' : World} {p : Nat} {o : Option Addr} {oc : Nat} {fc : Value} {out : List Int}
theorem SS.c0 (h : SS B bs br a len cap zs m w p o oc fc out) : w.cell? ⟨bs, 0, none⟩ = some (.pointer (some ⟨br, 0, none⟩)) := by rw [cells_of h.s0]; rfl
theorem SS.c1 (h : SS B bs br a len cap zs m w p o oc fc out) : w.cell? ⟨bs, 1, none⟩ = some (.slice o out.length oc) := by rw [cells_of h.s0]; rfl
theorem SS.c2 (h : SS B bs br a len cap zs m w p o oc fc out) : w.cell? ⟨bs, 2, none⟩ = some (.int .i64 m) := by rw [cells_of h.s0]; rfl
theorem SS.c3 (h : SS B bs br a len cap zs m w p o oc fc out) : w.cell? ⟨bs, 3, none⟩ = some fc := by rw [cells_of h.s0]; rfl
theorem SS.ne (h : SS B bs br a len cap zs m w p o oc fc out) : bs ≠ br := fun e => by
 have h1 := h.s0; rw [e, h.rd] at h1; simp at h1
theorem SS.ns (h : SS B bs br a len cap zs m w p o oc fc out) : (Value.slice o out.length oc).ownBlock ≠ some bs := ownsRow_apart h.owns h.s0 (by decide)
theorem SS.nr (h : SS B bs br a len cap zs m w p o oc fc out) : (Value.slice o out.length oc).ownBlock ≠ some br := ownsRow_apart h.owns h.rd (by decide)
theorem SS.move (h : SS B bs br a len cap zs m w p o oc fc out) (k : Kept (fun b => b = br) w w') {q : Nat} (hr : w'.heap[br]? = some (.cells (rA a len cap q) 148 (0, 0))) (hq : q <= len * 8) : SS B bs br a len cap zs m w' q o oc fc out :=
 ⟨k.heap h.s0 h.ne, hr, h.tx.kept k (fun b hb e => by have := h.inb; omega), ownsRow_kept h.owns k (fun g hg e => h.nr (by rw [hg, e])), h.inb, hq⟩
theorem SS.stay (h : SS B bs br a len cap zs m w p o oc fc out) (k : Below w.heap.size w w') : SS B bs br a len cap zs m w' p o oc fc out := by
 have hb := lt_of_block h.s0
 have hr := lt_of_block h.rd
 exact ⟨(k.block _ hb).trans h.s0, (k.block _ hr).trans h.rd, h.tx.kept (Kept.of_below k) (fun b hb' e => by have := h.inb; omega), ownsRow_kept h.owns (Kept.of_below k) (fun g hg e => by have := (ownsRow_lt h.owns hg).2; omega), h.inb, h.pl⟩

def Mv (bs br : Nat) (ov : Value) (b : Nat) : Prop := b = bs \/ b = br \/ ov.ownBlock = some b
theorem Mv.rd {bs br : Nat} {ov : Value} {w w' : World} (k : Kept (fun b => b = br) w w') : Kept (Mv bs br ov) w w' := k.mono fun _ _ e => .inr (.inl e)
theorem Mv.below {bs br : Nat} {ov : Value} {w w' : World} (k : Below w.heap.size w w') : Kept (Mv bs br ov) w w' := (Kept.of_below k).mono fun i hi e => by omega

def NOk (br : Nat) (a : Option Addr) (len cap : Nat) (w : World) (r : Except Int (Nat × Nat)) (x : Ending) (w' : World) : Prop :=
 Kept (fun b => b = br) w w' /\ ((∃ q v, r = .ok (q, v) /\ x = .returned (.tuple #[.int .i64 (v : Int), .int .i64 0]) /\ w'.heap[br]? = some (.cells (rA a len cap q) 148 (0, 0)) /\ q <= len * 8) \/ (∃ e, 60 <= e /\ e <= 65 /\ r = .error e /\ x = .returned (.tuple #[.int .i64 0, .int .i64 e])))
def NGot (br : Nat) (a : Option Addr) (len cap : Nat) (w : World) (q v : Nat) (x : Ending) (w' : World) : Prop :=
 x = .returned (.tuple #[.int .i64 (v : Int), .int .i64 0]) /\ Kept (fun b => b = br) w w' /\ w'.heap[br]? = some (.cells (rA a len cap q) 148 (0, 0)) /\ q <= len * 8
def NBad (br : Nat) (w : World) (e : Int) (x : Ending) (w' : World) : Prop := x = .returned (.tuple #[.int .i64 0, .int .i64 e]) /\ Kept (fun b => b = br) w w' /\ 60 <= e /\ e <= 65
theorem NOk.got {r : Except Int (Nat × Nat)} {x : Ending} {q v : Nat} (hr : r = .ok (q, v)) (h : NOk br a len cap w r x w') : NGot br a len cap w q v x w' := by
 subst hr
 obtain ⟨k, ⟨q', v', e, rfl, h1, h2⟩ | ⟨e, _, _, h', _⟩⟩ := h
 ·cases e; exact ⟨rfl, k, h1, h2⟩
 ·cases h'
theorem NOk.bad {r : Except Int (Nat × Nat)} {x : Ending} {e : Int} (hr : r = .error e) (h : NOk br a len cap w r x w') : NBad br w e x w' := by
 subst hr
 obtain ⟨k, ⟨q', v', e, rfl, h1, h2⟩ | ⟨e, h1, h2, h', rfl⟩⟩ := h
 ·cases e
 ·cases h'; exact ⟨rfl, k, h1, h2⟩
theorem NGot.ok {r : Except Int (Nat × Nat)} {x : Ending} {q v : Nat} (hr : r = .ok (q, v)) (h : NGot br a len cap w q v x w') : NOk br a len cap w r x w' := ⟨h.2.1, .inl ⟨q, v, hr, h.1, h.2.2.1, h.2.2.2⟩⟩
theorem NBad.ok {r : Except Int (Nat × Nat)} {x : Ending} {e : Int} (hr : r = .error e) (h : NBad br w e x w') : NOk br a len cap w r x w' := ⟨h.2.1, .inr ⟨e, h.2.2.1, h.2.2.2, hr, h.1⟩⟩

def DOk (B bs br : Nat) (a : Option Addr) (len cap : Nat) (zs : List Int) (m : Nat) (fc : Value) (w : World) (ov : Value) (r : Except Int (Nat × List Int)) (x : Ending) (w' : World) : Prop :=
 Kept (Mv bs br ov) w w' /\ ((∃ q out o oc, r = .ok (q, out) /\ x = .returned (.int .i64 0) /\ SS B bs br a len cap zs m w' q o oc fc out /\ (∀ g, (Value.slice o out.length oc).ownBlock = some g -> g < w.heap.size -> ov.ownBlock = some g)) \/ (∃ e, 60 <= e /\ e <= 65 /\ r = .error e /\ x = .returned (.int .i64 e)))
def DGot (B bs br : Nat) (a : Option Addr) (len cap : Nat) (zs : List Int) (m : Nat) (fc : Value) (w : World) (ov : Value) (q : Nat) (out : List Int) (x : Ending) (w' : World) : Prop :=
 x = .returned (.int .i64 0) /\ Kept (Mv bs br ov) w w' /\ ∃ o oc, SS B bs br a len cap zs m w' q o oc fc out /\ (∀ g, (Value.slice o out.length oc).ownBlock = some g -> g < w.heap.size -> ov.ownBlock = some g)
def DBad (bs br : Nat) (w : World) (ov : Value) (e : Int) (x : Ending) (w' : World) : Prop := x = .returned (.int .i64 e) /\ Kept (Mv bs br ov) w w' /\ 60 <= e /\ e <= 65
theorem DOk.got {r : Except Int (Nat × List Int)} {x : Ending} {ov : Value} {q : Nat} (hr : r = .ok (q, out)) (h : DOk B bs br a len cap zs m fc w ov r x w') : DGot B bs br a len cap zs m fc w ov q out x w' := by
 subst hr
 obtain ⟨k, ⟨q', v', o, oc, e, rfl, h1, h2⟩ | ⟨e, _, _, h', _⟩⟩ := h
 ·cases e; exact ⟨rfl, k, o, oc, h1, h2⟩
 ·cases h'
theorem DOk.bad {r : Except Int (Nat × List Int)} {x : Ending} {ov : Value} {e : Int} (hr : r = .error e) (h : DOk B bs br a len cap zs m fc w ov r x w') : DBad bs br w ov e x w' := by
 subst hr
 obtain ⟨k, ⟨q', v', o, oc, e, rfl, h1, h2⟩ | ⟨e, h1, h2, h', rfl⟩⟩ := h
 ·cases e
 ·cases h'; exact ⟨rfl, k, h1, h2⟩
theorem DGot.ok {r : Except Int (Nat × List Int)} {x : Ending} {ov : Value} {q : Nat} (hr : r = .ok (q, out)) (h : DGot B bs br a len cap zs m fc w ov q out x w') : DOk B bs br a len cap zs m fc w ov r x w' := by
 obtain ⟨h1, h2, o, oc, h3, h4⟩ := h
 exact ⟨h2, .inl ⟨q, out, o, oc, hr, h1, h3, h4⟩⟩
theorem DBad.ok {r : Except Int (Nat × List Int)} {x : Ending} {ov : Value} {e : Int} (hr : r = .error e) (h : DBad bs br w ov e x w') : DOk B bs br a len cap zs m fc w ov r x w' := ⟨h.2.1, .inr ⟨e, h.2.2.1, h.2.2.2, hr, h.1⟩⟩
end

structure SW (B bs br : Nat) (a : Option Addr) (len cap : Nat) (zs : List Int) (m : Nat) (fc : Value) (w : World) (ov : Value) (wx : World) (p : Nat) (o : Option Addr) (oc : Nat) (out : List Int) : Prop where
 ss : SS B bs br a len cap zs m wx p o oc fc out
 kept : Kept (Mv bs br ov) w wx
 old : ∀ g, (Value.slice o out.length oc).ownBlock = some g -> g < w.heap.size -> ov.ownBlock = some g
section
variable {B bs br : Nat} {a : Option Addr} {len cap : Nat} {zs : List Int} {m : Nat} {fc ov : Value} {w wx wy : World} {p : Nat} {o : Option Addr} {oc : Nat} {out : List Int}
theorem SW.new (h : SS B bs br a len cap zs m w p o oc fc out) : SW B bs br a len cap zs m fc w (.slice o out.length oc) w p o oc out := ⟨h, Kept.refl _ _, fun _ h _ => h⟩
theorem SW.move (h : SW B bs br a len cap zs m fc w ov wx p o oc out) {q : Nat} (k : Kept (fun b => b = br) wx wy) (hr : wy.heap[br]? = some (.cells (rA a len cap q) 148 (0, 0))) (hq : q <= len * 8) : SW B bs br a len cap zs m fc w ov wy q o oc out :=
 ⟨h.ss.move k hr hq, h.kept.trans k (fun _ _ e => .inr (.inl e)), h.old⟩
theorem SW.stay (h : SW B bs br a len cap zs m fc w ov wx p o oc out) (k : Below wx.heap.size wx wy) : SW B bs br a len cap zs m fc w ov wy p o oc out :=
 ⟨h.ss.stay k, h.kept.trans (Kept.of_below k) (fun i hi e => by have := h.kept.size; omega), h.old⟩
theorem SW.on {p' : Nat} {o' : Option Addr} {oc' : Nat} {out' : List Int} (h : SW B bs br a len cap zs m fc w ov wx p o oc out) (k : SW B bs br a len cap zs m fc wx (.slice o out.length oc) wy p' o' oc' out') : SW B bs br a len cap zs m fc w ov wy p' o' oc' out' := by
 have hz := h.kept.size
 refine ⟨k.ss, h.kept.trans k.kept (fun i hi e => ?_), fun g hg hlt => ?_⟩
 ·rcases e with e | e | e
  ·exact .inl e
  ·exact .inr (.inl e)
  ·exact .inr (.inr (h.old i e hi))
 ·exact h.old g (k.old g hg (by omega)) hlt
theorem SW.bad (h : SW B bs br a len cap zs m fc w ov wx p o oc out) (k : Kept (Mv bs br (.slice o out.length oc)) wx wy) : Kept (Mv bs br ov) w wy :=
 h.kept.trans k (fun i hi e => by
  rcases e with e | e | e
  ·exact .inl e
  ·exact .inr (.inl e)
  ·exact .inr (.inr (h.old i e hi)))
theorem SW.got (h : SW B bs br a len cap zs m fc w ov wx p o oc out) : DGot B bs br a len cap zs m fc w ov p out (.returned (.int .i64 0)) wx := ⟨rfl, h.kept, o, oc, h.ss, h.old⟩
theorem DGot.sw {q : Nat} {x : Ending} (h : DGot B bs br a len cap zs m fc w ov q out x wx) : ∃ o oc, SW B bs br a len cap zs m fc w ov wx q o oc out := by
 obtain ⟨_, h2, o, oc, h3, h4⟩ := h
 exact ⟨o, oc, h3, h2, h4⟩
theorem SW.put {w4 : World} {o4 : Option Addr} {c4 : Nat} {out4 : List Int} (h : SW B bs br a len cap zs m fc w ov wx p o oc out) (hown : OwnsB w4 B (.slice o4 out4.length c4) out4) (hk : Kept (fun b => (Value.slice o out.length oc).ownBlock = some b) wx w4)
  (hat : ∀ g, (Value.slice o4 out4.length c4).ownBlock = some g -> g < wx.heap.size -> (Value.slice o out.length oc).ownBlock = some g) : SW B bs br a len cap zs m fc w ov (w4.setCell ⟨bs, 1, none⟩ (.slice o4 out4.length c4)) p o4 c4 out4 := by
 have q0 := hk.heap h.ss.s0 h.ss.ns
 have q1 := hk.heap h.ss.rd h.ss.nr
 have hz := h.kept.size
 have hz2 := hk.size
 have hlt := lt_of_block h.ss.s0
 have hset : Kept (fun b => b = bs) w4 (w4.setCell ⟨bs, 1, none⟩ (.slice o4 out4.length c4)) := Kept.setCell (M := fun b => b = bs) (Kept.refl _ w4) (fun _ => rfl) _
 have hne : (Value.slice o4 out4.length c4).ownBlock ≠ some bs := fun e => h.ss.ns (hat bs e hlt)
 refine ⟨⟨?_, ?_, ?_, ?_, h.ss.inb, h.ss.pl⟩, ?_, ?_⟩
 ·rw [set_of q0 1]; rfl
 ·rw [set_other (fun e => h.ss.ne e.symm)]; exact q1
 ·refine (h.ss.tx.kept hk (fun b hb e => ?_)).kept hset (fun b hb e => ?_)
  ·have := (ownsRow_lt h.ss.owns e).1; omega
  ·have := h.ss.inb; omega
 ·exact ownsRow_kept hown hset (fun g hg e => hne (by rw [hg, e]))
 ·refine Kept.setCell (h.kept.trans hk fun i hi e => .inr (.inr (h.old i e hi))) (fun _ => .inl rfl) _
 ·intro g hg hlt'
  exact h.old g (hat g hg (by omega)) hlt'
theorem SW.push {w4 : World} {g c4 : Nat} {x : Int} {ob : Obj} (h : SW B bs br a len cap zs m fc w ov wx p o oc out)
  (hown : w4.ownsRow B 5 1 (.slice (some ⟨g, 0, none⟩) (out.length + 1) c4) (out.length + 1) (out.map (Value.int .u8) ++ [.int .u8 x])) (hgrow : (wx.alloc ob).grownBy w4 (Value.slice o out.length oc).ownBlock)
  (hat : (Value.slice o out.length oc).ownBlock = some g \/ g = wx.heap.size + 1) : SW B bs br a len cap zs m fc w ov (w4.setCell ⟨bs, 1, none⟩ (.slice (some ⟨g, 0, none⟩) (out.length + 1) c4)) p (some ⟨g, 0, none⟩) c4 (out ++ [x]) := by
 have hl : (out ++ [x]).length = out.length + 1 := by simp
 have hk := Kept.of_grown hgrow
 have hk2 : Kept (fun b => (Value.slice o out.length oc).ownBlock = some b) wx w4 := (Kept.trans (M' := fun b => some b = (Value.slice o out.length oc).ownBlock) (b := wx.alloc ob) (Kept.alloc _ (Kept.refl _ wx) _) hk (fun _ _ h => h)).mono (fun _ _ e => e.symm)
 have := h.put (o4 := some ⟨g, 0, none⟩) (c4 := c4) (out4 := out ++ [x]) (by unfold OwnsB; rw [hl]; simpa using hown) hk2 (fun g' hg' hlt => by
  simp [Value.ownBlock] at hg'
  subst hg'
  rcases hat with hat | hat
  ·exact hat
  ·omega)
 rw [hl] at this
 exact this
theorem SW.after {w4 : World} {ob : Obj} (h : SW B bs br a len cap zs m fc w ov wx p o oc out) (hgrow : (wx.alloc ob).grownBy w4 (Value.slice o out.length oc).ownBlock) : w4.heap[bs]? = some (.cells (fA br o out.length oc m fc) 120 (0, 0)) := by
 have hk := Kept.of_grown hgrow
 have hk2 : Kept (fun b => some b = (Value.slice o out.length oc).ownBlock) wx w4 := Kept.trans (M' := fun b => some b = (Value.slice o out.length oc).ownBlock) (b := wx.alloc ob) (Kept.alloc _ (Kept.refl _ wx) _) hk (fun _ _ h => h)
 exact hk2.heap h.ss.s0 (fun e => h.ss.ns e.symm)
end

structure Cds (lo hi : Nat) (w : World) (bk : Nat) (bc gl gc : Nat) (vo : Value) (N : Nat) (bc' gl' gc' : Nat) (vo' : Value) (N' : Nat) (S D : List Int) : Prop where
 block : w.heap[bk]? = some (.cells #[.pointer (some ⟨bc, 0, none⟩), .pointer (some ⟨bc', 0, none⟩)] 203 (0, 0))
 sym : CodeAt lo hi w bc gl gc vo N S
 back : CodeAt lo hi w bc' gl' gc' vo' N' D
 inb : lo <= bk /\ bk < hi
theorem Cds.kept {lo hi : Nat} {w w' : World} {bk bc gl gc : Nat} {vo : Value} {N bc' gl' gc' : Nat} {vo' : Value} {N' : Nat} {S D : List Int} {M : Nat -> Prop} (h : Cds lo hi w bk bc gl gc vo N bc' gl' gc' vo' N' S D) (k : Kept M w w') (hn : ∀ b, lo <= b -> b < hi -> ¬ M b) : Cds lo hi w' bk bc gl gc vo N bc' gl' gc' vo' N' S D :=
 ⟨k.heap h.block (hn _ h.inb.1 h.inb.2), h.sym.kept k hn, h.back.kept k hn, h.inb⟩
def Aw (lo hi bs br : Nat) (ov : Value) : Prop := ∀ b, lo <= b -> b < hi -> ¬ Mv bs br ov b
end Go.Proofs.YteknifnadbmfiaaGreatDoor

/- The stream's number, symbol, room, times, long and back: contracts. -/
namespace Go.Proofs.YteknifnadbmfiaaGreatDoor
set_option maxRecDepth 100000
open Go Go.RowKit

section
variable {B bs br : Nat} {a : Option Addr} {len cap : Nat} {zs : List Int} {m : Nat} {w : World} {p : Nat} {o : Option Addr} {oc : Nat} {fc : Value} {out : List Int}
theorem number_c (h : SS B bs br a len cap zs m w p o oc fc out) (hl : len * 8 <= 9223372036854775000) (n : Nat) (ni : Int) (hni : ni = n) (hn : n <= 24) :
  Calls Tryz.prog 76 #[.pointer (some ⟨bs, 0, none⟩), .int .i64 ni] w (NOk br a len cap w (iTk (ib zs) (len * 8) p n)) := by
 subst hni
 have c0 := h.c0
 have hpl := h.pl
 by_cases hp : p + n <= len * 8
 ·have hb := bits_yes B br a len cap p n zs w h.rd h.tx hl hn hp
  rw [bits_num] at hb
  have HB := hide hb
  have HT := hide (iTk_ok (b := ib zs) hp)
  clear hb h
  go_enter Tryz.func76, Tryz.ntmps76
  go_wp2_with (go_at_call 98; refine HB.out.mono ?_; rintro x w1 ⟨rfl, h1, h2⟩; have H1 := hide h1; have H2 := hide h2; clear h1 h2)
  go_ret2
  exact NGot.ok HT.out ⟨rfl, H2.out, H1.out, hp⟩
 ·have HB := hide (bits_no br a len cap p (n : Int) w h.rd hl h.pl (.inr (.inr (by omega))))
  have HT := hide (iTk_err (b := ib zs) (show len * 8 < p + n by omega))
  clear h
  go_enter Tryz.func76, Tryz.ntmps76
  go_wp2_with (go_at_call 98; refine HB.out.mono ?_; rintro x w1 ⟨rfl, k, rfl⟩)
  go_ret2
  exact NBad.ok HT.out ⟨rfl, (Kept.refl _ w).drewN k, by decide, by decide⟩

theorem next_nok (h : SS B bs br a len cap zs m w p o oc fc out) (hl : len * 8 <= 9223372036854775000) {lo hi bc gl gc : Nat} {vo : Value} {N : Nat} {ls : List Int} (hc : CodeAt lo hi w bc gl gc vo N ls) (hg : Good ls) (h3 : ls.length <= 320) (hbr : br < lo \/ hi <= br) :
  Calls Tryz.prog 139 #[.pointer (some ⟨bc, 0, none⟩), .pointer (some ⟨br, 0, none⟩)] w fun x w' => Kept (fun b => b = br) w w' /\ ((∃ q v, iNx ls (ib zs) (len * 8) p = .ok (q, v) /\ x = .returned (.tuple #[.int .i64 (v : Int), .int .i64 0]) /\ w'.heap[br]? = some (.cells (rA a len cap q) 148 (0, 0)) /\ q <= len * 8) \/ (iNx ls (ib zs) (len * 8) p = .error 60 /\ x = .returned (.tuple #[.int .i64 0, .int .i64 42])) \/ (iNx ls (ib zs) (len * 8) p = .error 63 /\ x = .returned (.tuple #[.int .i64 0, .int .i64 43]))) := by
 refine (next_any lo hi bc gl gc vo N ls br a len cap p zs B w hc hg h3 h.rd h.tx hl h.pl hbr h.inb.2).mono ?_
 rintro x w' ⟨s, n, err, hx, rfl, ⟨q, hq, hql, hqe⟩, hk⟩
 refine ⟨hk, ?_⟩
 rw [bz_ib] at hx
 rcases iNx_of (ib_le zs) (T := len * 8) (p := p) hc.long hx with ⟨rfl, hh, e⟩ | ⟨rfl, e⟩ | ⟨rfl, e⟩
 ·obtain rfl := hqe rfl
  exact .inl ⟨_, _, e, rfl, hq, hql⟩
 ·rcases hx with ⟨h0, _⟩ | ⟨rfl, rfl, _⟩
  ·exact absurd h0 (by decide)
  ·exact .inr (.inl ⟨e, rfl⟩)
 ·rcases hx with ⟨h0, _⟩ | ⟨rfl, rfl, _⟩
  ·exact absurd h0 (by decide)
  ·exact .inr (.inr ⟨e, rfl⟩)

theorem symbol_c (h : SS B bs br a len cap zs m w p o oc fc out) (hl : len * 8 <= 9223372036854775000) {lo hi bc gl gc : Nat} {vo : Value} {N : Nat} {ls : List Int} (hc : CodeAt lo hi w bc gl gc vo N ls) (hg : Good ls) (h3 : ls.length <= 320) (hbr : br < lo \/ hi <= br) :
  Calls Tryz.prog 125 #[.pointer (some ⟨bs, 0, none⟩), .pointer (some ⟨bc, 0, none⟩)] w (NOk br a len cap w (iNx ls (ib zs) (len * 8) p)) := by
 have c0 := h.c0
 have HN := next_nok h hl hc hg h3 hbr
 clear h hc hg h3 hbr
 generalize iNx ls (ib zs) (len * 8) p = R at HN ⊢
 cases R with
 | ok x =>
  obtain ⟨q, v⟩ := x
  have HC : Hid (Calls Tryz.prog 139 #[.pointer (some ⟨bc, 0, none⟩), .pointer (some ⟨br, 0, none⟩)] w (NGot br a len cap w q v)) := HN.mono (by
   rintro x w' ⟨k, ⟨q', v', e, rfl, h1, h2⟩ | ⟨e, _⟩ | ⟨e, _⟩⟩
   ·cases e; exact ⟨rfl, k, h1, h2⟩
   ·cases e
   ·cases e)
  clear HN
  go_enter Tryz.func125, Tryz.ntmps125
  go_wp2_with (go_at_call 139; refine HC.out.mono ?_; rintro x w1 ⟨rfl, h1⟩; have H1 := hide h1; clear h1)
  go_ret2
  exact NGot.ok rfl ⟨rfl, H1.out⟩
 | error e =>
  have HC : Hid ((e = 60 /\ Calls Tryz.prog 139 #[.pointer (some ⟨bc, 0, none⟩), .pointer (some ⟨br, 0, none⟩)] w fun x w' => x = .returned (.tuple #[.int .i64 0, .int .i64 42]) /\ Kept (fun b => b = br) w w') \/ (e = 63 /\ Calls Tryz.prog 139 #[.pointer (some ⟨bc, 0, none⟩), .pointer (some ⟨br, 0, none⟩)] w fun x w' => x = .returned (.tuple #[.int .i64 0, .int .i64 43]) /\ Kept (fun b => b = br) w w') \/ (¬ e = 60 /\ ¬ e = 63)) := by
   by_cases h60 : e = 60
   ·refine .inl ⟨h60, HN.mono ?_⟩
    rintro x w' ⟨k, ⟨q', v', e', rfl, h1, h2⟩ | ⟨e', rfl⟩ | ⟨e', rfl⟩⟩
    ·cases e'
    ·exact ⟨rfl, k⟩
    ·cases e'; exact absurd h60 (by decide)
   ·by_cases h63 : e = 63
    ·refine .inr (.inl ⟨h63, HN.mono ?_⟩)
     rintro x w' ⟨k, ⟨q', v', e', rfl, h1, h2⟩ | ⟨e', rfl⟩ | ⟨e', rfl⟩⟩
     ·cases e'
     ·cases e'; exact absurd rfl h60
     ·exact ⟨rfl, k⟩
    ·exact .inr (.inr ⟨h60, h63⟩)
  rcases HC.out with ⟨rfl, hC⟩ | ⟨rfl, hC⟩ | ⟨n60, n63⟩
  ·have HD := hide hC
   clear HN HC hC
   go_enter Tryz.func125, Tryz.ntmps125
   go_wp2_with (go_at_call 139; refine HD.out.mono ?_; rintro x w1 ⟨rfl, h1⟩; have H1 := hide h1; clear h1)
   go_ret2
   exact NBad.ok rfl ⟨rfl, H1.out, by decide, by decide⟩
  ·have HD := hide hC
   clear HN HC hC
   go_enter Tryz.func125, Tryz.ntmps125
   go_wp2_with (go_at_call 139; refine HD.out.mono ?_; rintro x w1 ⟨rfl, h1⟩; have H1 := hide h1; clear h1)
   go_ret2
   exact NBad.ok rfl ⟨rfl, H1.out, by decide, by decide⟩
  ·have HD : Hid (Calls Tryz.prog 139 #[.pointer (some ⟨bc, 0, none⟩), .pointer (some ⟨br, 0, none⟩)] w fun x w' => False) := HN.mono (by
    rintro x w' ⟨k, ⟨q', v', e', rfl, h1, h2⟩ | ⟨e', rfl⟩ | ⟨e', rfl⟩⟩
    ·cases e'
    ·cases e'; exact n60 rfl
    ·cases e'; exact n63 rfl)
   clear HN HC
   go_enter Tryz.func125, Tryz.ntmps125
   go_wp2_with (go_at_call 139; refine HD.out.mono ?_; intro x w1 h1; exact h1.elim)

theorem room_yes (h : SS B bs br a len cap zs m w p o oc fc out) (hm : m <= 100000000) (n : Nat) (hn : out.length + n <= m) :
  Calls Tryz.prog 100 #[.pointer (some ⟨bs, 0, none⟩), .int .i64 (n : Int)] w fun x w' => x = .returned (.bool true) /\ ∃ k, w' = w.drewN k := by
 have c1 := h.c1
 have c2 := h.c2
 have hz := lt_of_block h.s0
 have h9 : (n : Int) <= (m : Int) - (out.length : Int) := by omega
 clear h
 go_enter Tryz.func100, Tryz.ntmps100
 go_wp2
 go_quiet (fail)
 go_wp2
 go_ret
 exact ⟨rfl, _, rfl⟩
theorem room_no (h : SS B bs br a len cap zs m w p o oc fc out) (hm : m <= 100000000) (ho : out.length <= m) (n : Nat) (hn : m < out.length + n) :
  Calls Tryz.prog 100 #[.pointer (some ⟨bs, 0, none⟩), .int .i64 (n : Int)] w fun x w' => x = .returned (.bool false) /\ ∃ k, w' = w.drewN k := by
 have c1 := h.c1
 have c2 := h.c2
 have hz := lt_of_block h.s0
 have h9 : ¬ (n : Int) <= (m : Int) - (out.length : Int) := by omega
 have HE := hide (decide_eq_false h9)
 clear h
 go_enter Tryz.func100, Tryz.ntmps100
 go_wp2
 go_quiet (fail)
 go_wp2
 go_ret
 exact ⟨congrArg (fun b => Ending.returned (.bool b)) HE.out, _, rfl⟩
end
end Go.Proofs.YteknifnadbmfiaaGreatDoor

/- A run's length and distance, as plain functions; how one symbol of the data goes on. No Go text in sight. -/
namespace Go.Proofs.YteknifnadbmfiaaGreatDoor
set_option maxRecDepth 100000

def iLong (b : Nat -> Nat) (T q v : Nat) : Except Int (Nat × Nat) := if 285 < v then .error 63 else iThen (iTk b T q (iLx v)) fun q x => .ok (q, iLb v + x)
noncomputable def iBack (D : List Int) (b : Nat -> Nat) (T q : Nat) : Except Int (Nat × Nat) := iThen (iNx D b T q) fun q w => if 29 < w then .error 63 else iThen (iTk b T q (iDx w)) fun q x => .ok (q, iDb w + x)
noncomputable def iRun (D : List Int) (b : Nat -> Nat) (T most q v : Nat) (out : List Int) : Except Int (Nat × List Int) :=
 iThen (iLong b T q v) fun q n => iThen (iBack D b T q) fun q d => if out.length < d then .error 64 else if most < out.length + n then .error 65 else .ok (q, iCpy out d n)
def iOn (r : Except Int (Nat × List Int)) : Except Int (Nat × (Bool × List Int)) := iThen r fun q o => .ok (q, (true, o))
theorem iRun_eq (D : List Int) (b : Nat -> Nat) (T most q v : Nat) (out : List Int) :
  iOn (iRun D b T most q v out) = if 285 < v then .error 63
   else iThen (iTk b T q (iLx v)) fun q more => iThen (iNx D b T q) fun q w =>
  if 29 < w then .error 63 else iThen (iTk b T q (iDx w)) fun q away =>
  if out.length < iDb w + away then .error 64 else if most < out.length + (iLb v + more) then .error 65
  else .ok (q, (true, iCpy out (iDb w + away) (iLb v + more))) := by
 unfold iOn iRun iLong iBack
 by_cases h1 : 285 < v
 ·rw [if_pos h1, if_pos h1]; rfl
 ·rw [if_neg h1, if_neg h1]
  cases iTk b T q (iLx v) with
  | error e => rfl
  | ok x =>
   obtain ⟨q1, more⟩ := x
   simp only [iThen]
   cases iNx D b T q1 with
   | error e => rfl
   | ok x =>
    obtain ⟨q2, w⟩ := x
    simp only
    by_cases h2 : 29 < w
    ·rw [if_pos h2, if_pos h2]
    ·rw [if_neg h2, if_neg h2]
     cases iTk b T q2 (iDx w) with
     | error e => rfl
     | ok x =>
      obtain ⟨q3, away⟩ := x
      simp only
      by_cases h3 : out.length < iDb w + away
      ·rw [if_pos h3, if_pos h3]
      ·rw [if_neg h3, if_neg h3]
       by_cases h4 : most < out.length + (iLb v + more)
       ·rw [if_pos h4, if_pos h4]
       ·rw [if_neg h4, if_neg h4]
theorem iOne_err {S D : List Int} {b : Nat -> Nat} {T most p : Nat} {out : List Int} {e : Int} (h : iNx S b T p = .error e) : iOne S D b T most p out = .error e := by unfold iOne; rw [iThen_of_err h]
theorem iOne_byte {S D : List Int} {b : Nat -> Nat} {T most p q v : Nat} {out : List Int} (h : iNx S b T p = .ok (q, v)) (hv : v < 256) (ho : out.length < most) : iOne S D b T most p out = .ok (q, (true, out ++ [(v : Int)])) := by
 unfold iOne; rw [iThen_of_ok h, if_pos hv, if_neg (by omega)]
theorem iOne_over {S D : List Int} {b : Nat -> Nat} {T most p q v : Nat} {out : List Int} (h : iNx S b T p = .ok (q, v)) (hv : v < 256) (ho : most <= out.length) : iOne S D b T most p out = .error 65 := by
 unfold iOne; rw [iThen_of_ok h, if_pos hv, if_pos (by omega)]
theorem iOne_end {S D : List Int} {b : Nat -> Nat} {T most p q : Nat} {out : List Int} (h : iNx S b T p = .ok (q, 256)) : iOne S D b T most p out = .ok (q, (false, out)) := by
 unfold iOne; rw [iThen_of_ok h, if_neg (by decide), if_pos rfl]
theorem iOne_run {S D : List Int} {b : Nat -> Nat} {T most p q v : Nat} {out : List Int} (h : iNx S b T p = .ok (q, v)) (hv : 256 < v) : iOne S D b T most p out = iOn (iRun D b T most q v out) := by
 rw [iRun_eq]; unfold iOne; rw [iThen_of_ok h, if_neg (by omega), if_neg (by omega)]
theorem iCpy_length' (out : List Int) (d n : Nat) : (iCpy out d n).length = out.length + n := by
 induction n generalizing out with
 | zero => rfl
 | succ n ih => rw [iCpy, ih]; simp; omega
theorem iCpy_succ (out : List Int) (d n : Nat) : iCpy out d (n + 1) = iCpy out d n ++ [ln (iCpy out d n) (out.length + n - d)] := by
 induction n generalizing out with
 | zero => rfl
 | succ n ih =>
  rw [iCpy, ih, iCpy]
  congr 3
  simp; omega
theorem iNx_lt {ls : List Int} {b : Nat -> Nat} {T p q v : Nat} (h : iNx ls b T p = .ok (q, v)) : v < ls.length /\ p < q := by
 obtain ⟨n, rfl, hh⟩ := iNx_got h
 exact ⟨hh.2.1, by have := hh.2.2.1; omega⟩
theorem iTk_lt {b : Nat -> Nat} (hb : ∀ i, b i <= 1) {T p n q v : Nat} (h : iTk b T p n = .ok (q, v)) : v < 2 ^ n := by
 rw [(iTk_got h).2.2]; exact iNum_lt hb p n
theorem iLong_err {b : Nat -> Nat} {T q v : Nat} (h : 285 < v) : iLong b T q v = .error 63 := if_pos h
theorem iLong_is {b : Nat -> Nat} {T q v n k : Nat} (h : v <= 285) (hn : iLx v = n) (hk : iLb v = k) : iLong b T q v = iThen (iTk b T q n) fun q x => .ok (q, k + x) := by
 unfold iLong; rw [if_neg (by omega), hn, hk]
theorem iLong_none {b : Nat -> Nat} {T q v k : Nat} (h : v <= 285) (hq : q <= T) (hn : iLx v = 0) (hk : iLb v = k) : iLong b T q v = .ok (q, k) := by
 rw [iLong_is h hn hk, iThen_of_ok (iTk_ok (by omega))]; rfl
theorem iLb_le : ∀ v, v <= 285 -> iLb v <= 258 := by decide
theorem iLx_le : ∀ v, v <= 285 -> iLx v <= 5 := by decide
theorem iDb_le : ∀ v, v <= 29 -> iDb v <= 24577 := by decide
theorem iDx_le : ∀ v, v <= 29 -> iDx v <= 13 := by decide
theorem iLong_le {b : Nat -> Nat} (hb : ∀ i, b i <= 1) {T q v q' n : Nat} (h : iLong b T q v = .ok (q', n)) : n <= 300 := by
 unfold iLong at h
 split at h
 ·cases h
 ·obtain ⟨q1, x, h1, h2⟩ := iThen_ok h
  have h3 := iTk_lt hb h1
  have h4 := iLb_le v (by omega)
  have h5 := iLx_le v (by omega)
  have : 2 ^ iLx v <= 2 ^ 5 := Nat.pow_le_pow_right (by decide) h5
  cases h2
  omega
theorem iBack_le {D : List Int} {b : Nat -> Nat} (hb : ∀ i, b i <= 1) {T q q' d : Nat} (h : iBack D b T q = .ok (q', d)) : 1 <= d /\ d <= 40000 := by
 unfold iBack at h
 obtain ⟨q1, v, h0, h⟩ := iThen_ok h
 split at h
 ·cases h
 ·obtain ⟨q1, x, h1, h2⟩ := iThen_ok h
  have h3 := iTk_lt hb h1
  have h4 := iDb_le v (by omega)
  have h5 := iDx_le v (by omega)
  have h6 := iDb_pos v
  have : 2 ^ iDx v <= 2 ^ 13 := Nat.pow_le_pow_right (by decide) h5
  cases h2
  omega
theorem iRun_le {D : List Int} {b : Nat -> Nat} {T most q v : Nat} {out : List Int} {q' : Nat} {o : List Int} (h : iRun D b T most q v out = .ok (q', o)) : o.length <= most := by
 unfold iRun at h
 obtain ⟨q1, n, _, h⟩ := iThen_ok h
 obtain ⟨q2, d, _, h⟩ := iThen_ok h
 split at h
 ·cases h
 ·split at h
  ·cases h
  ·cases h
   rw [iCpy_length']; omega
end Go.Proofs.YteknifnadbmfiaaGreatDoor

/- The stream's times, long and back: contracts. -/
namespace Go.Proofs.YteknifnadbmfiaaGreatDoor
set_option maxRecDepth 100000
open Go Go.RowKit

section
variable {B bs br : Nat} {a : Option Addr} {len cap : Nat} {zs : List Int} {m : Nat} {w : World} {p : Nat} {o : Option Addr} {oc : Nat} {fc : Value} {out : List Int}

theorem times_c (h : SS B bs br a len cap zs m w p o oc fc out) (hl : len * 8 <= 9223372036854775000) (v : Int) (n k : Nat) (hv : (v = 16 /\ n = 2 /\ k = 3) \/ (v = 17 /\ n = 3 /\ k = 3) \/ (v = 18 /\ n = 7 /\ k = 11)) :
  Calls Tryz.prog 127 #[.pointer (some ⟨bs, 0, none⟩), .int .i64 v] w (NOk br a len cap w (iThen (iTk (ib zs) (len * 8) p n) fun q x => .ok (q, k + x))) := by
 have HN := fun ni hni => number_c h hl n ni hni (by omega)
 have hlt : ∀ q x, iTk (ib zs) (len * 8) p n = .ok (q, x) -> x < 2 ^ n := fun q x e => iTk_lt (ib_le zs) e
 clear h
 generalize iTk (ib zs) (len * 8) p n = R at HN hlt ⊢
 cases R with
 | ok x =>
  obtain ⟨q, x⟩ := x
  have HC := fun ni hni => hide ((HN ni hni).mono fun _ _ => NOk.got rfl)
  have hx := hlt q x rfl
  have HR : Hid ((iThen (.ok (q, x)) fun q x => .ok (q, k + x) : Except Int (Nat × Nat)) = .ok (q, k + x)) := rfl
  clear HN hlt
  rcases hv with ⟨rfl, rfl, rfl⟩ | ⟨rfl, rfl, rfl⟩ | ⟨rfl, rfl, rfl⟩
  all_goals
   go_enter Tryz.func127, Tryz.ntmps127
   go_wp2_with (go_at_call 76; refine (HC _ rfl).out.mono ?_; rintro x w1 ⟨rfl, h1⟩; have H1 := hide h1; clear h1)
   go_ret2
   exact NGot.ok HR.out ⟨by go_num, H1.out⟩
 | error e =>
  have HC := fun ni hni => hide ((HN ni hni).mono fun _ _ => NOk.bad rfl)
  have HR : Hid ((iThen (.error e) fun q x => .ok (q, k + x) : Except Int (Nat × Nat)) = .error e) := rfl
  clear HN hlt
  rcases hv with ⟨rfl, rfl, rfl⟩ | ⟨rfl, rfl, rfl⟩ | ⟨rfl, rfl, rfl⟩
  all_goals
   go_enter Tryz.func127, Tryz.ntmps127
   go_wp2_with (go_at_call 76; refine (HC _ rfl).out.mono ?_; rintro x w1 ⟨rfl, h1, h2, h3⟩; have H1 := hide h1; have H2 := hide (And.intro h2 h3); clear h1)
   go_ret2
   exact NBad.ok HR.out ⟨rfl, H1.out, H2.out.1, H2.out.2⟩

def longRow (v : Int) (n k : Nat) : Prop := (v = 265 /\ n = 1 /\ k = 11) \/ (v = 266 /\ n = 1 /\ k = 13) \/ (v = 267 /\ n = 1 /\ k = 15) \/ (v = 268 /\ n = 1 /\ k = 17) \/ (v = 269 /\ n = 2 /\ k = 19) \/ (v = 270 /\ n = 2 /\ k = 23) \/ (v = 271 /\ n = 2 /\ k = 27) \/ (v = 272 /\ n = 2 /\ k = 31) \/ (v = 273 /\ n = 3 /\ k = 35) \/ (v = 274 /\ n = 3 /\ k = 43) \/ (v = 275 /\ n = 3 /\ k = 51) \/ (v = 276 /\ n = 3 /\ k = 59) \/ (v = 277 /\ n = 4 /\ k = 67) \/ (v = 278 /\ n = 4 /\ k = 83) \/ (v = 279 /\ n = 4 /\ k = 99) \/ (v = 280 /\ n = 4 /\ k = 115) \/ (v = 281 /\ n = 5 /\ k = 131) \/ (v = 282 /\ n = 5 /\ k = 163) \/ (v = 283 /\ n = 5 /\ k = 195) \/ (v = 284 /\ n = 5 /\ k = 227)
def backRow (v : Int) (n k : Nat) : Prop := (v = 4 /\ n = 1 /\ k = 5) \/ (v = 5 /\ n = 1 /\ k = 7) \/ (v = 6 /\ n = 2 /\ k = 9) \/ (v = 7 /\ n = 2 /\ k = 13) \/ (v = 8 /\ n = 3 /\ k = 17) \/ (v = 9 /\ n = 3 /\ k = 25) \/ (v = 10 /\ n = 4 /\ k = 33) \/ (v = 11 /\ n = 4 /\ k = 49) \/ (v = 12 /\ n = 5 /\ k = 65) \/ (v = 13 /\ n = 5 /\ k = 97) \/ (v = 14 /\ n = 6 /\ k = 129) \/ (v = 15 /\ n = 6 /\ k = 193) \/ (v = 16 /\ n = 7 /\ k = 257) \/ (v = 17 /\ n = 7 /\ k = 385) \/ (v = 18 /\ n = 8 /\ k = 513) \/ (v = 19 /\ n = 8 /\ k = 769) \/ (v = 20 /\ n = 9 /\ k = 1025) \/ (v = 21 /\ n = 9 /\ k = 1537) \/ (v = 22 /\ n = 10 /\ k = 2049) \/ (v = 23 /\ n = 10 /\ k = 3073) \/ (v = 24 /\ n = 11 /\ k = 4097) \/ (v = 25 /\ n = 11 /\ k = 6145) \/ (v = 26 /\ n = 12 /\ k = 8193) \/ (v = 27 /\ n = 12 /\ k = 12289) \/ (v = 28 /\ n = 13 /\ k = 16385) \/ (v = 29 /\ n = 13 /\ k = 24577)
set_option maxHeartbeats 4000000 in
theorem more_c (h : SS B bs br a len cap zs m w p o oc fc out) (hl : len * 8 <= 9223372036854775000) (v : Int) (n k : Nat) (hv : longRow v n k) :
  Calls Tryz.prog 140 #[.pointer (some ⟨bs, 0, none⟩), .int .i64 v] w (NOk br a len cap w (iThen (iTk (ib zs) (len * 8) p n) fun q x => .ok (q, k + x))) := by
 have hn5 : n <= 24 := by unfold longRow at hv; omega
 have HN := fun ni hni => number_c h hl n ni hni hn5
 have hlt : ∀ q x, iTk (ib zs) (len * 8) p n = .ok (q, x) -> x < 2 ^ n := fun q x e => iTk_lt (ib_le zs) e
 clear h hn5
 generalize iTk (ib zs) (len * 8) p n = R at HN hlt ⊢
 cases R with
 | ok x =>
  obtain ⟨q, x⟩ := x
  have HC := fun ni hni => hide ((HN ni hni).mono fun _ _ => NOk.got rfl)
  have hx := hlt q x rfl
  have HR : Hid ((iThen (.ok (q, x)) fun q x => .ok (q, k + x) : Except Int (Nat × Nat)) = .ok (q, k + x)) := rfl
  clear HN hlt
  rcases hv with ⟨rfl, rfl, rfl⟩ | ⟨rfl, rfl, rfl⟩ | ⟨rfl, rfl, rfl⟩ | ⟨rfl, rfl, rfl⟩ | ⟨rfl, rfl, rfl⟩ | ⟨rfl, rfl, rfl⟩ | ⟨rfl, rfl, rfl⟩ | ⟨rfl, rfl, rfl⟩ | ⟨rfl, rfl, rfl⟩ | ⟨rfl, rfl, rfl⟩ | ⟨rfl, rfl, rfl⟩ | ⟨rfl, rfl, rfl⟩ | ⟨rfl, rfl, rfl⟩ | ⟨rfl, rfl, rfl⟩ | ⟨rfl, rfl, rfl⟩ | ⟨rfl, rfl, rfl⟩ | ⟨rfl, rfl, rfl⟩ | ⟨rfl, rfl, rfl⟩ | ⟨rfl, rfl, rfl⟩ | ⟨rfl, rfl, rfl⟩
  all_goals
   go_enter Tryz.func140, Tryz.ntmps140
   go_wp2_with (go_at_call 76; refine (HC _ rfl).out.mono ?_; rintro x w1 ⟨rfl, h1⟩; have H1 := hide h1; clear h1)
   go_ret2
   exact NGot.ok HR.out ⟨by go_num, H1.out⟩
 | error e =>
  have HC := fun ni hni => hide ((HN ni hni).mono fun _ _ => NOk.bad rfl)
  have HR : Hid ((iThen (.error e) fun q x => .ok (q, k + x) : Except Int (Nat × Nat)) = .error e) := rfl
  clear HN hlt
  rcases hv with ⟨rfl, rfl, rfl⟩ | ⟨rfl, rfl, rfl⟩ | ⟨rfl, rfl, rfl⟩ | ⟨rfl, rfl, rfl⟩ | ⟨rfl, rfl, rfl⟩ | ⟨rfl, rfl, rfl⟩ | ⟨rfl, rfl, rfl⟩ | ⟨rfl, rfl, rfl⟩ | ⟨rfl, rfl, rfl⟩ | ⟨rfl, rfl, rfl⟩ | ⟨rfl, rfl, rfl⟩ | ⟨rfl, rfl, rfl⟩ | ⟨rfl, rfl, rfl⟩ | ⟨rfl, rfl, rfl⟩ | ⟨rfl, rfl, rfl⟩ | ⟨rfl, rfl, rfl⟩ | ⟨rfl, rfl, rfl⟩ | ⟨rfl, rfl, rfl⟩ | ⟨rfl, rfl, rfl⟩ | ⟨rfl, rfl, rfl⟩
  all_goals
   go_enter Tryz.func140, Tryz.ntmps140
   go_wp2_with (go_at_call 76; refine (HC _ rfl).out.mono ?_; rintro x w1 ⟨rfl, h1, h2, h3⟩; have H1 := hide h1; have H2 := hide (And.intro h2 h3); clear h1)
   go_ret2
   exact NBad.ok HR.out ⟨rfl, H1.out, H2.out.1, H2.out.2⟩

theorem long_c (h : SS B bs br a len cap zs m w p o oc fc out) (hl : len * 8 <= 9223372036854775000) (v : Nat) (hv : 257 <= v) (hv4 : v <= 400) :
  Calls Tryz.prog 140 #[.pointer (some ⟨bs, 0, none⟩), .int .i64 (v : Int)] w (NOk br a len cap w (iLong (ib zs) (len * 8) p v)) := by
 by_cases h1 : 285 < v
 ·have HR := hide (iLong_err (b := ib zs) (T := len * 8) (q := p) h1)
  have h2 : (285 : Int) < v := by omega
  clear h h1
  go_enter Tryz.func140, Tryz.ntmps140
  go_wp2
  go_ret2
  exact NBad.ok HR.out ⟨rfl, Kept.refl _ _, by decide, by decide⟩
 ·by_cases h2 : v = 285
  ·subst h2
   have HR := hide (iLong_none (b := ib zs) (T := len * 8) (q := p) (v := 285) (k := 258) (by decide) h.pl (by decide) (by decide))
   have H1 := hide h.rd
   have hpl := h.pl
   clear h h1
   go_enter Tryz.func140, Tryz.ntmps140
   go_wp2
   go_ret2
   exact NGot.ok HR.out ⟨rfl, Kept.refl _ _, H1.out, hpl⟩
  ·by_cases h3 : v < 265
   ·have hk : iLb v = v - 254 /\ iLx v = 0 := (show ∀ v, v < 265 -> 257 <= v -> iLb v = v - 254 /\ iLx v = 0 by decide) v h3 hv
    have HR := hide (iLong_none (b := ib zs) (T := len * 8) (q := p) (v := v) (k := v - 254) (by omega) h.pl hk.2 hk.1)
    have H1 := hide h.rd
    have hpl := h.pl
    have h4 : (v : Int) < 265 := by omega
    have h5 : (257 : Int) <= v := by omega
    clear h h1 h2 hk
    go_enter Tryz.func140, Tryz.ntmps140
    go_wp2
    go_ret2
    exact NGot.ok HR.out ⟨by go_num, Kept.refl _ _, H1.out, hpl⟩
   ·obtain ⟨n, k, hk, e1, e2⟩ : ∃ n k, longRow (v : Int) n k /\ iLx v = n /\ iLb v = k := by
     have : v = 265 \/ v = 266 \/ v = 267 \/ v = 268 \/ v = 269 \/ v = 270 \/ v = 271 \/ v = 272 \/ v = 273 \/ v = 274 \/ v = 275 \/ v = 276 \/ v = 277 \/ v = 278 \/ v = 279 \/ v = 280 \/ v = 281 \/ v = 282 \/ v = 283 \/ v = 284 := by omega
     clear h
     unfold longRow
     rcases this with rfl | rfl | rfl | rfl | rfl | rfl | rfl | rfl | rfl | rfl | rfl | rfl | rfl | rfl | rfl | rfl | rfl | rfl | rfl | rfl
     all_goals exact ⟨_, _, by simp; exact ⟨rfl, rfl⟩, by decide, by decide⟩
    rw [iLong_is (by omega) e1 e2]
    exact more_c h hl (v : Int) n k hk
end
end Go.Proofs.YteknifnadbmfiaaGreatDoor
