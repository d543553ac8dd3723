/- Several texts, laid together: IStored, ILens, PSpec, MMath. -/
import Derived.Test.YtlakgbckopjelaaGreatDoorG06ILaws
import Derived.Test.YtlakgbckopjelaaGreatDoorG00Read
/- Stored blocks, and what stands behind them. No Go text in sight. -/
namespace Go.Proofs.YtlakgbckopjelaaGreatDoor
set_option maxRecDepth 100000

theorem iNum_add (b : Nat → Nat) (p m n : Nat) : iNum b p (m + n) = iNum b p m + 2 ^ m * iNum b (p + m) n := by
  induction n with
  | zero => simp [iNum]
  | succ n ih =>
    rw [← Nat.add_assoc, iNum, ih, iNum, Nat.mul_add, Nat.pow_add, Nat.add_assoc p m n, Nat.add_assoc, Nat.mul_left_comm, Nat.mul_comm (b _) (2 ^ n)]
theorem ib_at (zs : List Int) (j r z : Nat) (hr : r < 8) (hz : zs.getD j 0 = (z : Int)) : ib zs (8 * j + r) = z / 2 ^ r % 2 := by
  unfold ib
  rw [show (8 * j + r) / 8 = j by omega, show (8 * j + r) % 8 = r by omega, hz]
  have e : (z : Int) / 2 ^ r % 2 = ((z / 2 ^ r % 2 : Nat) : Int) := by simp
  rw [e, Int.toNat_natCast]
theorem iNum_in (zs : List Int) (j z : Nat) (hz : zs.getD j 0 = (z : Int)) (r n : Nat) (h : r + n ≤ 8) : iNum (ib zs) (8 * j + r) n = z / 2 ^ r % 2 ^ n := by
  induction n with
  | zero => simp [iNum, Nat.mod_one]
  | succ n ih =>
    rw [iNum, ih (by omega), Nat.add_assoc, ib_at zs j (r + n) z (by omega) hz, Nat.mod_pow_succ, Nat.pow_add, Nat.div_div_eq_div_mul, Nat.mul_comm (2 ^ n)]
theorem iNum_byte (zs : List Int) (j z : Nat) (hz : zs.getD j 0 = (z : Int)) (h : z < 256) : iNum (ib zs) (8 * j) 8 = z := by
  have := iNum_in zs j z hz 0 8 (by omega)
  simp at this
  rw [this]; omega
theorem iNum_two (zs : List Int) (j y z : Nat) (hy : zs.getD j 0 = (y : Int)) (hz : zs.getD (j + 1) 0 = (z : Int)) (h : y < 256) (h' : z < 256) : iNum (ib zs) (8 * j) 16 = y + 256 * z := by
  have e := iNum_add (ib zs) (8 * j) 8 8
  rw [iNum_byte zs j y hy h, show 8 * j + 8 = 8 * (j + 1) by omega, iNum_byte zs (j + 1) z hz h'] at e
  exact e

/-- The five bytes ahead of a stored block's. -/
def iHead (l n : Nat) : List Int := [(l : Int), ((n % 256 : Nat) : Int), ((n / 256 : Nat) : Int), ((255 - n % 256 : Nat) : Int), ((255 - n / 256 : Nat) : Int)]
theorem iHead_length (l n : Nat) : (iHead l n).length = 5 := rfl
theorem getD_mid (A H B : List Int) (i : Nat) (hi : i < H.length) : (A ++ (H ++ B)).getD (A.length + i) 0 = H.getD i 0 := by
  simp [List.getD, List.getElem?_append_right, List.getElem?_append_left hi]
theorem iBytes_mid (A s B : List Int) (hs : ∀ x ∈ s, 0 ≤ x ∧ x ≤ 255) : iBytes (ib (A ++ (s ++ B))) (8 * A.length) s.length = s := by
  refine List.ext_getElem (by rw [iBytes_length]) fun i h1 h2 => ?_
  have hb := hs _ (List.getElem_mem h2)
  obtain ⟨z, hz⟩ := Int.eq_ofNat_of_zero_le hb.1
  have hg : (A ++ (s ++ B)).getD (A.length + i) 0 = (z : Int) := by rw [getD_mid A s B i h2, ← hz]; simp [List.getD, h2]
  simp only [iBytes, List.getElem_map, List.getElem_range]
  rw [show 8 * A.length + 8 * i = 8 * (A.length + i) by omega, iNum_byte _ _ z hg (by omega), hz]
/-- A stored block, read. -/
theorem iBlk_sto (A s B : List Int) (l : Nat) (hl : l ≤ 1) (hs : ∀ x ∈ s, 0 ≤ x ∧ x ≤ 255) (hn : s.length ≤ 65535) (most : Nat) (out : List Int) (hm : out.length + s.length ≤ most) (Z : List Int) (hZ : Z = A ++ (iHead l s.length ++ (s ++ B))) :
    iBlk (ib Z) (8 * Z.length) most (8 * A.length) out = .ok (8 * (A.length + 5 + s.length), (decide (l = 0), out ++ s)) := by
  have hlen : Z.length = A.length + (5 + (s.length + B.length)) := by subst hZ; simp only [List.length_append, iHead_length]
  have g : ∀ i, i < 5 → Z.getD (A.length + i) 0 = (iHead l s.length).getD i 0 := fun i hi => by subst hZ; exact getD_mid _ _ _ i hi
  have g0 := g 0 (by omega)
  have g1 := g 1 (by omega)
  have g2 := g 2 (by omega)
  have g3 := g 3 (by omega)
  have g4 := g 4 (by omega)
  replace g0 : Z.getD A.length 0 = ((l : Nat) : Int) := g0
  replace g1 : Z.getD (A.length + 1) 0 = ((s.length % 256 : Nat) : Int) := g1
  replace g2 : Z.getD (A.length + 2) 0 = ((s.length / 256 : Nat) : Int) := g2
  replace g3 : Z.getD (A.length + 3) 0 = ((255 - s.length % 256 : Nat) : Int) := g3
  replace g4 : Z.getD (A.length + 4) 0 = ((255 - s.length / 256 : Nat) : Int) := g4
  have t1 := iTk_ok (b := ib Z) (T := 8 * Z.length) (p := 8 * A.length) (n := 1) (by omega)
  have v1 := iNum_in Z A.length l g0 0 1 (by omega)
  simp at v1
  rw [v1, show l % 2 = l by omega] at t1
  have t2 := iTk_ok (b := ib Z) (T := 8 * Z.length) (p := 8 * A.length + 1) (n := 2) (by omega)
  have v2 := iNum_in Z A.length l g0 1 2 (by omega)
  rw [v2, show l / 2 ^ 1 % 2 ^ 2 = 0 by omega] at t2
  have t3 := iTk_ok (b := ib Z) (T := 8 * Z.length) (p := 8 * (A.length + 1)) (n := 16) (by omega)
  rw [iNum_two Z (A.length + 1) _ _ g1 g2 (by omega) (by omega), show s.length % 256 + 256 * (s.length / 256) = s.length by omega] at t3
  have t4 := iTk_ok (b := ib Z) (T := 8 * Z.length) (p := 8 * (A.length + 3)) (n := 16) (by omega)
  rw [iNum_two Z (A.length + 3) _ _ g3 g4 (by omega) (by omega)] at t4
  unfold iBlk
  rw [iThen_of_ok t1, iThen_of_ok t2]
  have hk : iKind (ib Z) (8 * Z.length) most 0 (8 * A.length + 1 + 2) out = .ok (8 * (A.length + 5 + s.length), out ++ s) := by
    unfold iKind iSto
    rw [if_pos rfl, show (8 * A.length + 1 + 2 + 7) / 8 * 8 = 8 * (A.length + 1) by omega, iThen_of_ok t3, show 8 * (A.length + 1) + 16 = 8 * (A.length + 3) by omega, iThen_of_ok t4, if_neg (by omega), if_neg (by omega), if_neg (by omega)]
    have hb := iBytes_mid (A ++ iHead l s.length) s B hs
    rw [List.append_assoc, ← hZ, List.length_append, iHead_length] at hb
    rw [show 8 * (A.length + 3) + 16 = 8 * (A.length + 5) by omega, hb]
    congr 2
    omega
  rw [iThen_of_ok hk]

/-- A stream behind a stored block that is not the last one. -/
theorem iAns_behind (s zs : List Int) (most : Nat) (hs : ∀ x ∈ s, 0 ≤ x ∧ x ≤ 255) (hn : s.length ≤ 65535) (h0 : (iAns zs most).2.2 = 0) :
    iAns (iHead 0 s.length ++ (s ++ zs)) (most + s.length) = (s ++ (iAns zs most).1, (iAns zs most).2.1 + 5 + s.length, 0) := by
  have hb := iBlk_sto [] s zs 0 (by omega) hs hn (most + s.length) [] (by simp) (iHead 0 s.length ++ (s ++ zs)) rfl
  have hlen : (iHead 0 s.length ++ (s ++ zs)).length = 5 + (s.length + zs.length) := by simp only [List.length_append, iHead_length]
  have hk : (iHead 0 s.length ++ s).length = 5 + s.length := by simp only [List.length_append, iHead_length]
  have h : iFar (fun _ => True) (8 * (5 + s.length)) (ib zs) (ib (iHead 0 s.length ++ (s ++ zs))) (8 * zs.length) (8 * (iHead 0 s.length ++ (s ++ zs)).length) := by
    refine ⟨fun i hi => ?_, by omega, .inr trivial, ib_le _, ib_le _, by omega⟩
    rw [← List.append_assoc, ← hk]
    exact ib_far zs _ i
  have hi := h.inf (s := s) (most := most) (most' := most + s.length) ⟨Nat.le_refl _, .inl rfl, .inr trivial⟩
  have hstep : iInf (ib (iHead 0 s.length ++ (s ++ zs))) (8 * (iHead 0 s.length ++ (s ++ zs)).length) (most + s.length) = iLoop (8 * (iHead 0 s.length ++ (s ++ zs)).length) (iBlk (ib (iHead 0 s.length ++ (s ++ zs))) (8 * (iHead 0 s.length ++ (s ++ zs)).length) (most + s.length)) (8 * (5 + s.length)) s := by
    simp only [List.length_nil, Nat.mul_zero, Nat.zero_add, List.nil_append, decide_true] at hb
    unfold iInf
    exact iLoop_on hb (by omega) (by omega)
  unfold iAns at h0 ⊢
  rw [hstep]
  cases hr : iInf (ib zs) (8 * zs.length) most with
  | error e =>
    have := iBad_inf _ _ _ e hr
    rw [hr] at h0
    simp only [iRes] at h0
    omega
  | ok x =>
    obtain ⟨q, o⟩ := x
    obtain ⟨o', h2, h3⟩ := hi.2 q o hr
    rw [h2, h3]
    simp only [iRes]
    congr 2
    omega

/-- Pieces in stored blocks, one behind the other, and an empty one at the end. -/
def iRow : List (List Int) → List Int
  | [] => iHead 1 0
  | s :: r => iHead 0 s.length ++ (s ++ iRow r)
theorem iLoop_row (ps : List (List Int)) (hs : ∀ s ∈ ps, s.length ≤ 65535 ∧ ∀ x ∈ s, 0 ≤ x ∧ x ≤ 255) (most : Nat) (A out : List Int) (hm : out.length + ps.flatten.length ≤ most) (Z : List Int) (hZ : Z = A ++ iRow ps) :
    iLoop (8 * Z.length) (iBlk (ib Z) (8 * Z.length) most) (8 * A.length) out = .ok (8 * Z.length, out ++ ps.flatten) := by
  induction ps generalizing A out with
  | nil =>
    have h := iBlk_sto A [] [] 1 (by omega) (by simp) (by simp) most out (by simpa using hm) Z (by rw [hZ]; simp [iRow])
    rw [iLoop_end h, hZ]
    simp [iRow, iHead_length]
  | cons s r ih =>
    have hl : (s :: r).flatten.length = s.length + r.flatten.length := by simp
    have h := iBlk_sto A s (iRow r) 0 (by omega) (hs s (by simp)).2 (hs s (by simp)).1 most out (by omega) Z (by rw [hZ]; rfl)
    have hlen : Z.length = A.length + (5 + (s.length + (iRow r).length)) := by rw [hZ, iRow]; simp only [List.length_append, iHead_length]
    rw [iLoop_on h (by omega) (by omega)]
    have := ih (fun t ht => hs t (by simp [ht])) (A ++ iHead 0 s.length ++ s) (out ++ s) (by rw [List.length_append]; omega) (by rw [hZ, iRow]; simp only [List.append_assoc])
    rw [List.length_append, List.length_append, iHead_length] at this
    rw [this, List.flatten_cons, List.append_assoc]
theorem iAns_row (ps : List (List Int)) (hs : ∀ s ∈ ps, s.length ≤ 65535 ∧ ∀ x ∈ s, 0 ≤ x ∧ x ≤ 255) (most : Nat) (hm : ps.flatten.length ≤ most) : iAns (iRow ps) most = (ps.flatten, (iRow ps).length, 0) := by
  have h := iLoop_row ps hs most [] [] (by simpa using hm) (iRow ps) rfl
  unfold iAns iInf
  rw [show (0 : Nat) = 8 * ([] : List Int).length from rfl, h]
  simp only [iRes, List.nil_append]
  congr 2
  omega
end Go.Proofs.YtlakgbckopjelaaGreatDoor

/- How many lengths a dynamic block tells, and that they are lengths. No Go text in sight. -/
namespace Go.Proofs.YtlakgbckopjelaaGreatDoor
set_option maxRecDepth 100000

theorem fit_set {L : List Int} (h : Fit L) (i : Nat) {x : Int} (hx : 0 ≤ x ∧ x ≤ 15) : Fit (L.set i x) := fun y hy => by
  rcases List.mem_or_eq_of_mem_set hy with hy | rfl
  · exact h y hy
  · exact hx
theorem fit_app {L M : List Int} (h : Fit L) (k : Fit M) : Fit (L ++ M) := fun y hy => by
  rcases List.mem_append.1 hy with hy | hy
  · exact h y hy
  · exact k y hy
theorem iRd3_fit {b : Nat → Nat} (hb : ∀ i, b i ≤ 1) {T n p i : Nat} {first : List Int} (hf : Fit first) {q : Nat} {f : List Int} (h : iRd3 b T n p i first = .ok (q, f)) : f.length = first.length ∧ Fit f := by
  induction n generalizing p i first with
  | zero => cases h; exact ⟨rfl, hf⟩
  | succ n ih =>
    rw [iRd3] at h
    obtain ⟨q1, v, h1, h⟩ := iThen_ok h
    have hv := iNum_lt hb p 3
    rw [← (iTk_got h1).2.2] at hv
    have := ih (fit_set hf _ (by omega)) h
    rw [List.length_set] at this
    exact this
/-- One number more, of those that tell lengths. -/
theorem iLen_got {first : List Int} {many : Nat} {b : Nat → Nat} {T p : Nat} {all : List Int} {q : Nat} {c : Bool} {t : List Int} (hl : all.length < many) (hf : Fit all) (h : iLen first many b T p all = .ok (q, (c, t))) : t.length ≤ many ∧ Fit t ∧ c = decide (t.length < many) ∧ all.length < t.length := by
  unfold iLen at h
  obtain ⟨q1, v, -, h⟩ := iThen_ok h
  split at h
  · cases h
    refine ⟨by simp; omega, fit_app hf fun y hy => ?_, by simp, by simp⟩
    rw [List.mem_singleton.1 hy]; omega
  · split at h
    · cases h
    · obtain ⟨q2, x, -, h⟩ := iThen_ok h
      have hpos : 3 ≤ x + (if v = 18 then 11 else 3) := by split <;> omega
      generalize x + (if v = 18 then 11 else 3) = n at h hpos
      split at h
      · cases h
      · cases h
        refine ⟨by simp; omega, fit_app hf fun y hy => ?_, by simp, by simp; omega⟩
        rw [List.eq_of_mem_replicate hy]
        split
        · exact ln_fit hf _
        · omega
theorem iLens_got {first : List Int} {many : Nat} {b : Nat → Nat} {T p : Nat} (hm : 0 < many) {q : Nat} {t : List Int} (h : iLoop T (iLen first many b T) p [] = .ok (q, t)) : t.length = many ∧ Fit t := by
  obtain ⟨p', s', h1, h2⟩ := iLoop_fin (fun l => l.length < many ∧ Fit l) (fun p s q t hs e => by
    have := iLen_got hs.1 hs.2 e
    exact ⟨by have := this.2.2.1; simpa using this.symm, this.2.1⟩) (fun p s => iGo_len first many b T p s) p [] ⟨by simpa using hm, fun y hy => absurd hy (by simp)⟩ q t h
  obtain ⟨g1, g2, g3, -⟩ := iLen_got h1.1 h1.2 h2
  have : ¬ t.length < many := by simpa using g3.symm
  exact ⟨by omega, g2⟩
/-- What a dynamic block's codes are. -/
theorem iHdr_got {b : Nat → Nat} {T p q : Nat} {S D : List Int} (h : iHdr b T p = .ok (q, (S, D))) : 257 ≤ S.length ∧ S.length ≤ 286 ∧ 1 ≤ D.length ∧ D.length ≤ 30 ∧ check S true = 0 ∧ check D true = 0 := by
  unfold iHdr at h
  obtain ⟨q1, x, -, h⟩ := iThen_ok h
  obtain ⟨q2, y, -, h⟩ := iThen_ok h
  obtain ⟨q3, z, -, h⟩ := iThen_ok h
  split at h
  · cases h
  · rename_i hxy
    obtain ⟨q4, first, -, h⟩ := iThen_ok h
    split at h
    · cases h
    · obtain ⟨q5, all, ha, h⟩ := iThen_ok h
      have hg := (iLens_got (by omega) ha).1
      split at h
      · cases h
      · rename_i hc
        cases h
        simp only [List.length_take, List.length_drop]
        exact ⟨by omega, by omega, by omega, by omega, Decidable.not_not.1 fun e => hc (.inr (.inl e)), Decidable.not_not.1 fun e => hc (.inr (.inr e))⟩
end Go.Proofs.YtlakgbckopjelaaGreatDoor

/- A run's length and distance, as plain functions; how one symbol of the data goes on. No Go text in sight. -/
namespace Go.Proofs.YtlakgbckopjelaaGreatDoor
set_option maxRecDepth 100000

/-- A run's length; its distance; the run. -/
def iLong (b : Nat → Nat) (T q v : Nat) : Except Int (Nat × Nat) := if 285 < v then .error 63 else iThen (iTk b T q (iLx v)) fun q x => .ok (q, iLb v + x)
noncomputable def iBack (D : List Int) (b : Nat → Nat) (T q : Nat) : Except Int (Nat × Nat) := iThen (iNx D b T q) fun q w => if 29 < w then .error 63 else iThen (iTk b T q (iDx w)) fun q x => .ok (q, iDb w + x)
noncomputable def iRun (D : List Int) (b : Nat → Nat) (T most q v : Nat) (out : List Int) : Except Int (Nat × List Int) :=
  iThen (iLong b T q v) fun q n => iThen (iBack D b T q) fun q d => if out.length < d then .error 64 else if most < out.length + n then .error 65 else .ok (q, iCpy out d n)
def iOn (r : Except Int (Nat × List Int)) : Except Int (Nat × (Bool × List Int)) := iThen r fun q o => .ok (q, (true, o))
theorem iRun_eq (D : List Int) (b : Nat → Nat) (T most q v : Nat) (out : List Int) :
    iOn (iRun D b T most q v out) = if 285 < v then .error 63
      else iThen (iTk b T q (iLx v)) fun q more => iThen (iNx D b T q) fun q w =>
    if 29 < w then .error 63 else iThen (iTk b T q (iDx w)) fun q away =>
    if out.length < iDb w + away then .error 64 else if most < out.length + (iLb v + more) then .error 65
    else .ok (q, (true, iCpy out (iDb w + away) (iLb v + more))) := by
  unfold iOn iRun iLong iBack
  by_cases h1 : 285 < v
  · rw [if_pos h1, if_pos h1]; rfl
  · rw [if_neg h1, if_neg h1]
    cases iTk b T q (iLx v) with
    | error e => rfl
    | ok x =>
      obtain ⟨q1, more⟩ := x
      simp only [iThen]
      cases iNx D b T q1 with
      | error e => rfl
      | ok x =>
        obtain ⟨q2, w⟩ := x
        simp only
        by_cases h2 : 29 < w
        · rw [if_pos h2, if_pos h2]
        · rw [if_neg h2, if_neg h2]
          cases iTk b T q2 (iDx w) with
          | error e => rfl
          | ok x =>
            obtain ⟨q3, away⟩ := x
            simp only
            by_cases h3 : out.length < iDb w + away
            · rw [if_pos h3, if_pos h3]
            · rw [if_neg h3, if_neg h3]
              by_cases h4 : most < out.length + (iLb v + more)
              · rw [if_pos h4, if_pos h4]
              · rw [if_neg h4, if_neg h4]
/-- One symbol of the data, by what it is. -/
theorem iOne_err {S D : List Int} {b : Nat → Nat} {T most p : Nat} {out : List Int} {e : Int} (h : iNx S b T p = .error e) : iOne S D b T most p out = .error e := by unfold iOne; rw [iThen_of_err h]
theorem iOne_byte {S D : List Int} {b : Nat → Nat} {T most p q v : Nat} {out : List Int} (h : iNx S b T p = .ok (q, v)) (hv : v < 256) (ho : out.length < most) : iOne S D b T most p out = .ok (q, (true, out ++ [(v : Int)])) := by
  unfold iOne; rw [iThen_of_ok h, if_pos hv, if_neg (by omega)]
theorem iOne_over {S D : List Int} {b : Nat → Nat} {T most p q v : Nat} {out : List Int} (h : iNx S b T p = .ok (q, v)) (hv : v < 256) (ho : most ≤ out.length) : iOne S D b T most p out = .error 65 := by
  unfold iOne; rw [iThen_of_ok h, if_pos hv, if_pos (by omega)]
theorem iOne_end {S D : List Int} {b : Nat → Nat} {T most p q : Nat} {out : List Int} (h : iNx S b T p = .ok (q, 256)) : iOne S D b T most p out = .ok (q, (false, out)) := by
  unfold iOne; rw [iThen_of_ok h, if_neg (by decide), if_pos rfl]
theorem iOne_run {S D : List Int} {b : Nat → Nat} {T most p q v : Nat} {out : List Int} (h : iNx S b T p = .ok (q, v)) (hv : 256 < v) : iOne S D b T most p out = iOn (iRun D b T most q v out) := by
  rw [iRun_eq]; unfold iOne; rw [iThen_of_ok h, if_neg (by omega), if_neg (by omega)]
theorem iCpy_length' (out : List Int) (d n : Nat) : (iCpy out d n).length = out.length + n := by
  induction n generalizing out with
  | zero => rfl
  | succ n ih => rw [iCpy, ih]; simp; omega
theorem iCpy_succ (out : List Int) (d n : Nat) : iCpy out d (n + 1) = iCpy out d n ++ [ln (iCpy out d n) (out.length + n - d)] := by
  induction n generalizing out with
  | zero => rfl
  | succ n ih =>
    rw [iCpy, ih, iCpy]
    congr 3
    simp; omega
/-- What is read is a code's symbol. -/
theorem iNx_lt {ls : List Int} {b : Nat → Nat} {T p q v : Nat} (h : iNx ls b T p = .ok (q, v)) : v < ls.length ∧ p < q := by
  obtain ⟨n, rfl, hh⟩ := iNx_got h
  exact ⟨hh.2.1, by have := hh.2.2.1; omega⟩
theorem iTk_lt {b : Nat → Nat} (hb : ∀ i, b i ≤ 1) {T p n q v : Nat} (h : iTk b T p n = .ok (q, v)) : v < 2 ^ n := by
  rw [(iTk_got h).2.2]; exact iNum_lt hb p n
theorem iLong_err {b : Nat → Nat} {T q v : Nat} (h : 285 < v) : iLong b T q v = .error 63 := if_pos h
theorem iLong_is {b : Nat → Nat} {T q v n k : Nat} (h : v ≤ 285) (hn : iLx v = n) (hk : iLb v = k) : iLong b T q v = iThen (iTk b T q n) fun q x => .ok (q, k + x) := by
  unfold iLong; rw [if_neg (by omega), hn, hk]
theorem iLong_none {b : Nat → Nat} {T q v k : Nat} (h : v ≤ 285) (hq : q ≤ T) (hn : iLx v = 0) (hk : iLb v = k) : iLong b T q v = .ok (q, k) := by
  rw [iLong_is h hn hk, iThen_of_ok (iTk_ok (by omega))]; rfl
/-- How long a run is at the most. -/
theorem iLb_le : ∀ v, v ≤ 285 → iLb v ≤ 258 := by decide
theorem iLx_le : ∀ v, v ≤ 285 → iLx v ≤ 5 := by decide
theorem iDb_le : ∀ v, v ≤ 29 → iDb v ≤ 24577 := by decide
theorem iDx_le : ∀ v, v ≤ 29 → iDx v ≤ 13 := by decide
theorem iLong_le {b : Nat → Nat} (hb : ∀ i, b i ≤ 1) {T q v q' n : Nat} (h : iLong b T q v = .ok (q', n)) : n ≤ 300 := by
  unfold iLong at h
  split at h
  · cases h
  · obtain ⟨q1, x, h1, h2⟩ := iThen_ok h
    have h3 := iTk_lt hb h1
    have h4 := iLb_le v (by omega)
    have h5 := iLx_le v (by omega)
    have : 2 ^ iLx v ≤ 2 ^ 5 := Nat.pow_le_pow_right (by decide) h5
    cases h2
    omega
theorem iBack_le {D : List Int} {b : Nat → Nat} (hb : ∀ i, b i ≤ 1) {T q q' d : Nat} (h : iBack D b T q = .ok (q', d)) : 1 ≤ d ∧ d ≤ 40000 := by
  unfold iBack at h
  obtain ⟨q1, v, h0, h⟩ := iThen_ok h
  split at h
  · cases h
  · obtain ⟨q1, x, h1, h2⟩ := iThen_ok h
    have h3 := iTk_lt hb h1
    have h4 := iDb_le v (by omega)
    have h5 := iDx_le v (by omega)
    have h6 := iDb_pos v
    have : 2 ^ iDx v ≤ 2 ^ 13 := Nat.pow_le_pow_right (by decide) h5
    cases h2
    omega
theorem iRun_le {D : List Int} {b : Nat → Nat} {T most q v : Nat} {out : List Int} {q' : Nat} {o : List Int} (h : iRun D b T most q v out = .ok (q', o)) : o.length ≤ most := by
  unfold iRun at h
  obtain ⟨q1, n, _, h⟩ := iThen_ok h
  obtain ⟨q2, d, _, h⟩ := iThen_ok h
  split at h
  · cases h
  · split at h
    · cases h
    · cases h
      rw [iCpy_length']; omega
end Go.Proofs.YtlakgbckopjelaaGreatDoor

/- Tokens and what they tell; runs; chains of places: of no program. -/
namespace Go.Proofs.YtlakgbckopjelaaGreatDoor.M
set_option maxRecDepth 100000
open Go Go.RowKit

theorem hide {p : Prop} (h : p) : Hid p := h
/-- A number of a list. -/
def ln (xs : List Int) (i : Nat) : Int := xs.getD i 0
theorem ln_in {xs : List Int} {i : Nat} (h : i < xs.length) : ln xs i = xs[i] := by simp [ln, List.getD, h]
theorem ln_left {A B : List Int} {i : Nat} (h : i < A.length) : ln (A ++ B) i = ln A i := by simp [ln, List.getD, List.getElem?_append_left h]
theorem ln_right {A B : List Int} {i : Nat} (h : A.length ≤ i) : ln (A ++ B) i = ln B (i - A.length) := by simp [ln, List.getD, List.getElem?_append_right h]
theorem ln_take {A : List Int} {t i : Nat} (h : i < t) : ln (A.take t) i = ln A i := by simp [ln, List.getD, h]
theorem take_snoc {A : List Int} {p : Nat} (h : p < A.length) : A.take (p + 1) = A.take p ++ [ln A p] := by
  rw [List.take_succ_eq_append_getElem h, ln_in h]

/-- A token: its byte, how long it is, how far back it goes. -/
abbrev Tk := Int × Int × Int
def tk (xs : List Tk) (i : Nat) : Tk := xs.getD i (0, 0, 0)
theorem tk_in {xs : List Tk} {i : Nat} (h : i < xs.length) : tk xs i = xs[i] := by simp [tk, List.getD, h]
theorem tk_left {A B : List Tk} {i : Nat} (h : i < A.length) : tk (A ++ B) i = tk A i := by simp [tk, List.getD, List.getElem?_append_left h]
theorem tk_last (A : List Tk) (t : Tk) : tk (A ++ [t]) A.length = t := by simp [tk, List.getD]
theorem tk_take_snoc {A : List Tk} {p : Nat} (h : p < A.length) : A.take (p + 1) = A.take p ++ [tk A p] := by
  rw [List.take_succ_eq_append_getElem h, tk_in h]
/-- How many bytes a token tells. -/
def tl (t : Tk) : Int := if t.2.1 = 0 then 1 else t.2.1
/-- A token that may be behind so many bytes. -/
def OkT (ahead : Int) (t : Tk) : Prop := (t.2.1 = 0 ∧ t.2.2 = 0) ∨ (t.1 = 0 ∧ 3 ≤ t.2.1 ∧ t.2.1 ≤ 258 ∧ 1 ≤ t.2.2 ∧ t.2.2 ≤ 32768 ∧ t.2.2 ≤ ahead)
instance (n : Int) (t : Tk) : Decidable (OkT n t) := by unfold OkT; exact inferInstance
theorem OkT.tl {n : Int} {t : Tk} (h : OkT n t) : 1 ≤ tl t ∧ tl t ≤ 258 := by
  unfold Go.Proofs.YtlakgbckopjelaaGreatDoor.M.tl
  rcases h with h | h
  · rw [if_pos h.1]; omega
  · rw [if_neg (by omega)]; omega
/-- What tokens tell together. -/
def sm (xs : List Tk) : Int := (xs.map tl).sum
theorem sm_snoc (xs : List Tk) (t : Tk) : sm (xs ++ [t]) = sm xs + tl t := by simp [sm]
/-- Tokens that may be, as far as the first i are asked. -/
def RtTo (xs : List Tk) (i : Nat) : Prop := ∀ j, j < i → OkT (sm (xs.take j)) (tk xs j)
def Rt (xs : List Tk) : Prop := RtTo xs xs.length
theorem RtTo.zero (xs : List Tk) : RtTo xs 0 := fun j h => by omega
theorem RtTo.succ {xs : List Tk} {i : Nat} (h : RtTo xs i) (k : OkT (sm (xs.take i)) (tk xs i)) : RtTo xs (i + 1) := fun j hj => by
  rcases Nat.lt_or_ge j i with h' | h'
  · exact h j h'
  · obtain rfl : j = i := by omega
    exact k
theorem RtTo.sum {xs : List Tk} {i : Nat} (h : RtTo xs i) (hi : i ≤ xs.length) : (i : Int) ≤ sm (xs.take i) ∧ sm (xs.take i) ≤ 258 * (i : Int) := by
  induction i with
  | zero => simp [sm]
  | succ i ih =>
    have := ih (fun j hj => h j (by omega)) (by omega)
    have h2 := (h i (by omega)).tl
    rw [tk_take_snoc (by omega), sm_snoc]
    omega
theorem Rt.snoc {xs : List Tk} (h : Rt xs) {t : Tk} (k : OkT (sm xs) t) : Rt (xs ++ [t]) := by
  intro j hj
  simp at hj
  rcases Nat.lt_or_ge j xs.length with h' | h'
  · rw [tk_left h', List.take_append_of_le_length (by omega)]; exact h j h'
  · obtain rfl : j = xs.length := by omega
    rw [tk_last, List.take_left']
    · exact k
    · rfl
theorem Rt.sum {xs : List Tk} (h : Rt xs) : (xs.length : Int) ≤ sm xs ∧ sm xs ≤ 258 * (xs.length : Int) := by
  have := RtTo.sum h (Nat.le_refl _)
  rwa [List.take_length] at this
theorem Rt.of_app {xs ys : List Tk} (h : Rt (xs ++ ys)) : Rt xs := fun j hj => by
  have := h j (by simp; omega)
  rwa [tk_left hj, List.take_append_of_le_length (by omega)] at this
theorem Rt.nil : Rt [] := fun j hj => by simp at hj

/-- Bytes told once more, one by one. -/
def cpy (out : List Int) (d : Nat) : Nat → List Int
  | 0 => out
  | n + 1 => cpy out d n ++ [ln (cpy out d n) ((cpy out d n).length - d)]
theorem cpy_length (out : List Int) (d n : Nat) : (cpy out d n).length = out.length + n := by
  induction n with
  | zero => rfl
  | succ n ih => simp only [cpy, List.length_append, List.length_singleton, ih]; omega
theorem cpy_mem {out : List Int} (h : ∀ x ∈ out, 0 ≤ x ∧ x ≤ 255) (d n : Nat) : ∀ x ∈ cpy out d n, 0 ≤ x ∧ x ≤ 255 := by
  induction n with
  | zero => exact h
  | succ n ih =>
    intro x hx
    rw [cpy] at hx
    rcases List.mem_append.1 hx with hx | hx
    · exact ih x hx
    · simp at hx
      subst hx
      unfold ln List.getD
      cases e : (cpy out d n)[(cpy out d n).length - d]? with
      | none => simp
      | some y => exact ih y (List.mem_of_getElem? e)
def tel1 (out : List Int) (t : Tk) : List Int := if t.2.1 = 0 then out ++ [t.1] else cpy out t.2.2.toNat t.2.1.toNat
/-- What tokens tell. -/
def tel (xs : List Tk) : List Int := xs.foldl tel1 []
theorem tel_snoc (xs : List Tk) (t : Tk) : tel (xs ++ [t]) = tel1 (tel xs) t := by simp [tel]
theorem tel1_length (out : List Int) {n : Int} {t : Tk} (h : OkT n t) : ((tel1 out t).length : Int) = out.length + tl t := by
  unfold tel1 tl
  rcases h with h | h
  · rw [if_pos h.1, if_pos h.1]; simp
  · rw [if_neg (by omega), if_neg (by omega), cpy_length]; omega
theorem tel_to {xs : List Tk} {i : Nat} (h : RtTo xs i) (hi : i ≤ xs.length) : ((tel (xs.take i)).length : Int) = sm (xs.take i) := by
  induction i with
  | zero => simp [tel, sm]
  | succ i ih =>
    rw [tk_take_snoc (by omega), tel_snoc, sm_snoc, tel1_length _ (h i (by omega)), ih (fun j hj => h j (by omega)) (by omega)]
theorem tel_length {xs : List Tk} (h : Rt xs) : ((tel xs).length : Int) = sm xs := by
  have := tel_to h (Nat.le_refl _)
  rwa [List.take_length] at this
/-- Tokens whose bytes are bytes. -/
def Bt (xs : List Tk) : Prop := ∀ i, 0 ≤ (tk xs i).1 ∧ (tk xs i).1 ≤ 255
theorem Bt.take {xs : List Tk} (h : Bt xs) (i : Nat) : ∀ x ∈ tel (xs.take i), 0 ≤ x ∧ x ≤ 255 := by
  induction i with
  | zero => intro x hx; simp [tel] at hx
  | succ i ih =>
    by_cases hi : i < xs.length
    · rw [tk_take_snoc hi, tel_snoc]
      unfold tel1
      split
      · intro x hx
        rcases List.mem_append.1 hx with hx | hx
        · exact ih x hx
        · simp at hx; subst hx; exact h i
      · exact cpy_mem ih _ _
    · rw [List.take_of_length_le (by omega)]
      rw [List.take_of_length_le (by omega)] at ih
      exact ih
theorem Bt.mem {xs : List Tk} (h : Bt xs) : ∀ x ∈ tel xs, 0 ≤ x ∧ x ≤ 255 := by
  have := h.take xs.length
  rwa [List.take_length] at this

/-- A run of the data at a place. -/
structure Run (zs : List Int) (p : Nat) (L B : Nat) : Prop where
  l3 : 3 ≤ L
  l258 : L ≤ 258
  b1 : 1 ≤ B
  bw : B ≤ 32768
  bp : B ≤ p
  fit : p + L ≤ zs.length
  same : ∀ k, k < L → ln zs (p - B + k) = ln zs (p + k)
theorem cpy_run {zs : List Int} {p B : Nat} (hB1 : 1 ≤ B) (hB : B ≤ p) : ∀ L, p + L ≤ zs.length → (∀ k, k < L → ln zs (p - B + k) = ln zs (p + k)) → cpy (zs.take p) B L = zs.take (p + L) := by
  intro L
  induction L with
  | zero => intro _ _; rfl
  | succ L ih =>
    intro h1 h2
    have i := ih (by omega) (fun k hk => h2 k (by omega))
    rw [cpy, i, List.length_take, Nat.min_eq_left (by omega), ← Nat.add_assoc, take_snoc (by omega), ln_take (by omega)]
    rw [show p + L - B = p - B + L by omega, h2 L (by omega)]
theorem Run.tell {zs : List Int} {p L B : Nat} (h : Run zs p L B) : tel1 (zs.take p) (0, (L : Int), (B : Int)) = zs.take (p + L) := by
  unfold tel1
  have := h.l3
  rw [if_neg (by simp only; omega)]
  exact cpy_run h.b1 h.bp L h.fit h.same
theorem Run.ok {zs : List Int} {p L B : Nat} (h : Run zs p L B) : OkT (p : Int) (0, (L : Int), (B : Int)) := by
  have := h.l3; have := h.l258; have := h.b1; have := h.bw; have := h.bp
  refine .inr ⟨rfl, ?_, ?_, ?_, ?_, ?_⟩ <;> simp only <;> omega
/-- What is found for a place: nothing that is near is overlooked. -/
structure RunOk (zs : List Int) (p : Nat) (L B : Nat) : Prop where
  is : (L = 0 ∧ B = 0) ∨ Run zs p L B
  near : ∀ b n, 1 ≤ b → b ≤ 64 → b ≤ p → p + n ≤ zs.length → n ≤ 258 → (∀ k, k < n → ln zs (p - b + k) = ln zs (p + k)) → n ≤ 2 ∨ n ≤ L

/-- Three bytes begin here that begin a little ahead, too. -/
def Nr (zs : List Int) (p : Nat) : Prop := ∃ b, 1 ≤ b ∧ b ≤ 64 ∧ b ≤ p ∧ p + 3 ≤ zs.length ∧ ln zs p = ln zs (p - b) ∧ ln zs (p + 1) = ln zs (p + 1 - b) ∧ ln zs (p + 2) = ln zs (p + 2 - b)
theorem RunOk.none {zs : List Int} {p B : Nat} (h : RunOk zs p 0 B) : ¬ Nr zs p := by
  rintro ⟨b, h1, h2, h3, h4, e0, e1, e2⟩
  have := h.near b 3 h1 h2 h3 h4 (by omega) (fun k hk => by
    have : k = 0 ∨ k = 1 ∨ k = 2 := by omega
    rcases this with rfl | rfl | rfl
    · simpa using e0.symm
    · rw [show p - b + 1 = p + 1 - b by omega]; exact e1.symm
    · rw [show p - b + 2 = p + 2 - b by omega]; exact e2.symm)
  omega
/-- Which places are told by a byte alone. -/
def alo (xs : List Tk) : List Bool := xs.flatMap fun t => List.replicate (tl t).toNat (decide (t.2.1 = 0))
theorem alo_snoc (xs : List Tk) (t : Tk) : alo (xs ++ [t]) = alo xs ++ List.replicate (tl t).toNat (decide (t.2.1 = 0)) := by simp [alo]
theorem alo_to {xs : List Tk} {i : Nat} (h : RtTo xs i) (hi : i ≤ xs.length) : ((alo (xs.take i)).length : Int) = sm (xs.take i) := by
  induction i with
  | zero => simp [alo, sm]
  | succ i ih =>
    have h2 := (h i (by omega)).tl
    rw [tk_take_snoc (by omega), alo_snoc, sm_snoc, List.length_append, List.length_replicate]
    have := ih (fun j hj => h j (by omega)) (by omega)
    omega
theorem alo_length {xs : List Tk} (h : Rt xs) : ((alo xs).length : Int) = sm xs := by
  have := alo_to h (Nat.le_refl _)
  rwa [List.take_length] at this
def al (bs : List Bool) (i : Nat) : Bool := bs.getD i false
theorem al_left {A B : List Bool} {i : Nat} (h : i < A.length) : al (A ++ B) i = al A i := by simp [al, List.getD, List.getElem?_append_left h]
theorem al_right {A B : List Bool} {i : Nat} (h : A.length ≤ i) : al (A ++ B) i = al B (i - A.length) := by simp [al, List.getD, List.getElem?_append_right h]
theorem al_rep {n i : Nat} (b : Bool) (h : i < n) : al (List.replicate n b) i = b := by simp [al, List.getD, h]

/-- As far as data is made tokens of. -/
structure FdTo (zs : List Int) (p : Nat) (xs : List Tk) : Prop where
  rt : Rt xs
  bt : Bt xs
  tell : tel xs = zs.take p
  many : xs.length ≤ p
  le : p ≤ zs.length
  near : ∀ i, i < p → al (alo xs) i = true → ¬ Nr zs i ∨ (i + 1 < p ∧ al (alo xs) (i + 1) = false)
  like : (∀ i, i < zs.length → ln zs i = ln zs 0) → xs.length ≤ (p + 516) / 258 + (p - (zs.length - 2))
theorem FdTo.sum {zs : List Int} {p : Nat} {xs : List Tk} (h : FdTo zs p xs) : sm xs = (p : Int) := by
  rw [← tel_length h.rt, h.tell, List.length_take, Nat.min_eq_left h.le]
theorem FdTo.alen {zs : List Int} {p : Nat} {xs : List Tk} (h : FdTo zs p xs) : (alo xs).length = p := by
  have := alo_length h.rt
  rw [h.sum] at this
  omega
theorem Bt.nil : Bt [] := fun i => by simp [tk]
theorem Bt.snoc {xs : List Tk} {t : Tk} (h : Bt xs) (h0 : 0 ≤ t.1) (h1 : t.1 ≤ 255) : Bt (xs ++ [t]) := fun i => by
  rcases Nat.lt_or_ge i xs.length with h' | h'
  · rw [tk_left h']; exact h i
  · by_cases e : i = xs.length
    · subst e; rw [tk_last]; exact ⟨h0, h1⟩
    · unfold tk List.getD
      rw [List.getElem?_eq_none (by simp; omega)]
      simp
theorem FdTo.start (zs : List Int) : FdTo zs 0 [] := ⟨Rt.nil, Bt.nil, by simp [tel], Nat.zero_le _, Nat.zero_le _, fun i hi => by omega, fun _ => by simp⟩
/-- Of like bytes the whole rest is a run, but at the first place. -/
theorem RunOk.like {zs : List Int} {p L B : Nat} (h : RunOk zs p L B) (hl : ∀ i, i < zs.length → ln zs i = ln zs 0) (hp : 1 ≤ p) (h3 : p + 3 ≤ zs.length) : min (zs.length - p) 258 ≤ L := by
  have := h.near 1 (min (zs.length - p) 258) (by omega) (by omega) hp (by omega) (by omega) (fun k hk => by rw [hl _ (by omega), hl (p + k) (by omega)])
  omega
theorem ok_byte (n b : Int) : OkT n (b, 0, 0) := .inl ⟨rfl, rfl⟩
/-- A byte alone, where nothing was found. -/
theorem FdTo.byte {zs : List Int} {p : Nat} {xs : List Tk} (h : FdTo zs p xs) (hz : ∀ i, 0 ≤ ln zs i ∧ ln zs i ≤ 255) (hp : p < zs.length) {B : Nat} (hr : RunOk zs p 0 B) : FdTo zs (p + 1) (xs ++ [(ln zs p, 0, 0)]) := by
  have ha := h.alen
  have hb := hz p
  have hal : alo (xs ++ [(ln zs p, 0, 0)]) = alo xs ++ [true] := by rw [alo_snoc]; simp [tl]
  refine ⟨h.rt.snoc (ok_byte _ _), h.bt.snoc hb.1 hb.2, ?_, ?_, hp, ?_, ?_⟩
  · rw [tel_snoc, h.tell, take_snoc hp]; simp [tel1]
  · have := h.many; simp; omega
  · intro i hi h1
    rw [hal] at h1 ⊢
    by_cases e : i < p
    · rw [al_left (by omega)] at h1
      rcases h.near i e h1 with h2 | ⟨h2, h3⟩
      · exact .inl h2
      · exact .inr ⟨by omega, by rw [al_left (by omega)]; exact h3⟩
    · obtain rfl : i = p := by omega
      exact .inl hr.none
  · intro hl
    have := h.like hl
    rw [List.length_append, List.length_singleton]
    by_cases hp0 : p = 0
    · subst hp0
      have h0 := h.many
      omega
    · by_cases h3 : p + 3 ≤ zs.length
      · have := hr.like hl (by omega) h3
        omega
      · omega
/-- A run. -/
theorem FdTo.run {zs : List Int} {p : Nat} {xs : List Tk} (h : FdTo zs p xs) {L B : Nat} (hr : RunOk zs p L B) (hL : 0 < L) : FdTo zs (p + L) (xs ++ [(0, (L : Int), (B : Int))]) := by
  have ha := h.alen
  have hR : Run zs p L B := by
    rcases hr.is with h' | h'
    · omega
    · exact h'
  have h3 := hR.l3
  have htl : tl ((0, (L : Int), (B : Int)) : Tk) = (L : Int) := by
    unfold tl
    rw [if_neg (by simp only; omega)]
  have hal : alo (xs ++ [(0, (L : Int), (B : Int))]) = alo xs ++ List.replicate L false := by
    rw [alo_snoc, htl]
    simp
    omega
  refine ⟨h.rt.snoc (by rw [h.sum]; exact hR.ok), h.bt.snoc (by simp) (by simp), ?_, ?_, hR.fit, ?_, ?_⟩
  · rw [tel_snoc, h.tell, hR.tell]
  · have := h.many; simp; omega
  · intro i hi h1
    rw [hal] at h1 ⊢
    by_cases e : i < p
    · rw [al_left (by omega)] at h1
      rcases h.near i e h1 with h2 | ⟨h2, h3⟩
      · exact .inl h2
      · exact .inr ⟨by omega, by rw [al_left (by omega)]; exact h3⟩
    · rw [al_right (by omega), al_rep _ (by omega)] at h1
      cases h1
  · intro hl
    have := h.like hl
    have hb := hR.bp
    have hb1 := hR.b1
    have hfit := hR.fit
    have hk := hr.like hl (by omega) (by omega)
    have h258 := hR.l258
    rw [List.length_append, List.length_singleton]
    omega
/-- A byte that waits for a longer run. -/
theorem FdTo.wait {zs : List Int} {p : Nat} {xs : List Tk} (h : FdTo zs p xs) (hz : ∀ i, 0 ≤ ln zs i ∧ ln zs i ≤ 255) {L B L2 B2 : Nat} (hr : RunOk zs p L B) (hL : 0 < L) (hr2 : RunOk zs (p + 1) L2 B2) (hL2 : L < L2) : FdTo zs (p + 1 + L2) (xs ++ [(ln zs p, 0, 0)] ++ [(0, (L2 : Int), (B2 : Int))]) := by
  have ha := h.alen
  have hb := hz p
  have hR : Run zs p L B := by
    rcases hr.is with h' | h'
    · omega
    · exact h'
  have hR2 : Run zs (p + 1) L2 B2 := by
    rcases hr2.is with h' | h'
    · omega
    · exact h'
  have h3 := hR2.l3
  have hfit := hR2.fit
  have hrt : Rt (xs ++ [(ln zs p, 0, 0)]) := h.rt.snoc (ok_byte _ _)
  have htl : tl ((0, (L2 : Int), (B2 : Int)) : Tk) = (L2 : Int) := by
    unfold tl
    rw [if_neg (by simp only; omega)]
  have hal : alo (xs ++ [(ln zs p, 0, 0)] ++ [(0, (L2 : Int), (B2 : Int))]) = alo xs ++ [true] ++ List.replicate L2 false := by
    rw [alo_snoc, alo_snoc, htl]
    simp [tl]
    omega
  have htell : tel (xs ++ [(ln zs p, 0, 0)]) = zs.take (p + 1) := by
    rw [tel_snoc, h.tell, take_snoc (by omega)]; simp [tel1]
  have hal1 : (alo xs ++ [true]).length = p + 1 := by simp; omega
  refine ⟨hrt.snoc (by rw [← tel_length hrt, htell, List.length_take, Nat.min_eq_left (by omega)]; exact hR2.ok), (h.bt.snoc hb.1 hb.2).snoc (by simp) (by simp), ?_, ?_, hfit, ?_, ?_⟩
  · rw [tel_snoc, htell, hR2.tell]
  · have := h.many; simp; omega
  · intro i hi h1
    rw [hal] at h1 ⊢
    by_cases e : i < p
    · rw [al_left (by rw [hal1]; omega), al_left (by omega)] at h1
      rcases h.near i e h1 with h2 | ⟨h2, h3⟩
      · exact .inl h2
      · exact .inr ⟨by omega, by rw [al_left (by rw [hal1]; omega), al_left (by omega)]; exact h3⟩
    · by_cases e2 : i = p
      · subst e2
        refine .inr ⟨by omega, ?_⟩
        rw [al_right (by rw [hal1]; exact Nat.le_refl _), hal1, al_rep _ (by omega)]
      · rw [al_right (by rw [hal1]; omega), al_rep _ (by rw [hal1]; omega)] at h1
        cases h1
  · intro hl
    have := hR.bp
    have := hR.b1
    have hk := hr.like hl (by omega) (by omega)
    have := hR2.l258
    omega
end Go.Proofs.YtlakgbckopjelaaGreatDoor.M
