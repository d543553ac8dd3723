/- A run's length and distance, as plain functions; how one symbol of the data goes on. No Go text in sight. -/
import Derived.Test.YtibolmgijaploaaDoorILens
namespace Go.Proofs.YtibolmgijaploaaDoor
set_option maxRecDepth 100000

/-- A run's length; its distance; the run. -/
def iLong (b : Nat → Nat) (T q v : Nat) : Except Int (Nat × Nat) := if 285 < v then .error 63 else iThen (iTk b T q (iLx v)) fun q x => .ok (q, iLb v + x)
noncomputable def iBack (D : List Int) (b : Nat → Nat) (T q : Nat) : Except Int (Nat × Nat) := iThen (iNx D b T q) fun q w => if 29 < w then .error 63 else iThen (iTk b T q (iDx w)) fun q x => .ok (q, iDb w + x)
noncomputable def iRun (D : List Int) (b : Nat → Nat) (T most q v : Nat) (out : List Int) : Except Int (Nat × List Int) :=
  iThen (iLong b T q v) fun q n => iThen (iBack D b T q) fun q d => if out.length < d then .error 64 else if most < out.length + n then .error 65 else .ok (q, iCpy out d n)
def iOn (r : Except Int (Nat × List Int)) : Except Int (Nat × (Bool × List Int)) := iThen r fun q o => .ok (q, (true, o))
theorem iRun_eq (D : List Int) (b : Nat → Nat) (T most q v : Nat) (out : List Int) :
    iOn (iRun D b T most q v out) = if 285 < v then .error 63
      else iThen (iTk b T q (iLx v)) fun q more => iThen (iNx D b T q) fun q w =>
    if 29 < w then .error 63 else iThen (iTk b T q (iDx w)) fun q away =>
    if out.length < iDb w + away then .error 64 else if most < out.length + (iLb v + more) then .error 65
    else .ok (q, (true, iCpy out (iDb w + away) (iLb v + more))) := by
  unfold iOn iRun iLong iBack
  by_cases h1 : 285 < v
  · rw [if_pos h1, if_pos h1]; rfl
  · rw [if_neg h1, if_neg h1]
    cases iTk b T q (iLx v) with
    | error e => rfl
    | ok x =>
      obtain ⟨q1, more⟩ := x
      simp only [iThen]
      cases iNx D b T q1 with
      | error e => rfl
      | ok x =>
        obtain ⟨q2, w⟩ := x
        simp only
        by_cases h2 : 29 < w
        · rw [if_pos h2, if_pos h2]
        · rw [if_neg h2, if_neg h2]
          cases iTk b T q2 (iDx w) with
          | error e => rfl
          | ok x =>
            obtain ⟨q3, away⟩ := x
            simp only
            by_cases h3 : out.length < iDb w + away
            · rw [if_pos h3, if_pos h3]
            · rw [if_neg h3, if_neg h3]
              by_cases h4 : most < out.length + (iLb v + more)
              · rw [if_pos h4, if_pos h4]
              · rw [if_neg h4, if_neg h4]
/-- One symbol of the data, by what it is. -/
theorem iOne_err {S D : List Int} {b : Nat → Nat} {T most p : Nat} {out : List Int} {e : Int} (h : iNx S b T p = .error e) : iOne S D b T most p out = .error e := by unfold iOne; rw [iThen_of_err h]
theorem iOne_byte {S D : List Int} {b : Nat → Nat} {T most p q v : Nat} {out : List Int} (h : iNx S b T p = .ok (q, v)) (hv : v < 256) (ho : out.length < most) : iOne S D b T most p out = .ok (q, (true, out ++ [(v : Int)])) := by
  unfold iOne; rw [iThen_of_ok h, if_pos hv, if_neg (by omega)]
theorem iOne_over {S D : List Int} {b : Nat → Nat} {T most p q v : Nat} {out : List Int} (h : iNx S b T p = .ok (q, v)) (hv : v < 256) (ho : most ≤ out.length) : iOne S D b T most p out = .error 65 := by
  unfold iOne; rw [iThen_of_ok h, if_pos hv, if_pos (by omega)]
theorem iOne_end {S D : List Int} {b : Nat → Nat} {T most p q : Nat} {out : List Int} (h : iNx S b T p = .ok (q, 256)) : iOne S D b T most p out = .ok (q, (false, out)) := by
  unfold iOne; rw [iThen_of_ok h, if_neg (by decide), if_pos rfl]
theorem iOne_run {S D : List Int} {b : Nat → Nat} {T most p q v : Nat} {out : List Int} (h : iNx S b T p = .ok (q, v)) (hv : 256 < v) : iOne S D b T most p out = iOn (iRun D b T most q v out) := by
  rw [iRun_eq]; unfold iOne; rw [iThen_of_ok h, if_neg (by omega), if_neg (by omega)]
theorem iCpy_length' (out : List Int) (d n : Nat) : (iCpy out d n).length = out.length + n := by
  induction n generalizing out with
  | zero => rfl
  | succ n ih => rw [iCpy, ih]; simp; omega
theorem iCpy_succ (out : List Int) (d n : Nat) : iCpy out d (n + 1) = iCpy out d n ++ [ln (iCpy out d n) (out.length + n - d)] := by
  induction n generalizing out with
  | zero => rfl
  | succ n ih =>
    rw [iCpy, ih, iCpy]
    congr 3
    simp; omega
/-- What is read is a code's symbol. -/
theorem iNx_lt {ls : List Int} {b : Nat → Nat} {T p q v : Nat} (h : iNx ls b T p = .ok (q, v)) : v < ls.length ∧ p < q := by
  obtain ⟨n, rfl, hh⟩ := iNx_got h
  exact ⟨hh.2.1, by have := hh.2.2.1; omega⟩
theorem iTk_lt {b : Nat → Nat} (hb : ∀ i, b i ≤ 1) {T p n q v : Nat} (h : iTk b T p n = .ok (q, v)) : v < 2 ^ n := by
  rw [(iTk_got h).2.2]; exact iNum_lt hb p n
theorem iLong_err {b : Nat → Nat} {T q v : Nat} (h : 285 < v) : iLong b T q v = .error 63 := if_pos h
theorem iLong_is {b : Nat → Nat} {T q v n k : Nat} (h : v ≤ 285) (hn : iLx v = n) (hk : iLb v = k) : iLong b T q v = iThen (iTk b T q n) fun q x => .ok (q, k + x) := by
  unfold iLong; rw [if_neg (by omega), hn, hk]
theorem iLong_none {b : Nat → Nat} {T q v k : Nat} (h : v ≤ 285) (hq : q ≤ T) (hn : iLx v = 0) (hk : iLb v = k) : iLong b T q v = .ok (q, k) := by
  rw [iLong_is h hn hk, iThen_of_ok (iTk_ok (by omega))]; rfl
/-- How long a run is at the most. -/
theorem iLb_le : ∀ v, v ≤ 285 → iLb v ≤ 258 := by decide
theorem iLx_le : ∀ v, v ≤ 285 → iLx v ≤ 5 := by decide
theorem iDb_le : ∀ v, v ≤ 29 → iDb v ≤ 24577 := by decide
theorem iDx_le : ∀ v, v ≤ 29 → iDx v ≤ 13 := by decide
theorem iLong_le {b : Nat → Nat} (hb : ∀ i, b i ≤ 1) {T q v q' n : Nat} (h : iLong b T q v = .ok (q', n)) : n ≤ 300 := by
  unfold iLong at h
  split at h
  · cases h
  · obtain ⟨q1, x, h1, h2⟩ := iThen_ok h
    have h3 := iTk_lt hb h1
    have h4 := iLb_le v (by omega)
    have h5 := iLx_le v (by omega)
    have : 2 ^ iLx v ≤ 2 ^ 5 := Nat.pow_le_pow_right (by decide) h5
    cases h2
    omega
theorem iBack_le {D : List Int} {b : Nat → Nat} (hb : ∀ i, b i ≤ 1) {T q q' d : Nat} (h : iBack D b T q = .ok (q', d)) : 1 ≤ d ∧ d ≤ 40000 := by
  unfold iBack at h
  obtain ⟨q1, v, h0, h⟩ := iThen_ok h
  split at h
  · cases h
  · obtain ⟨q1, x, h1, h2⟩ := iThen_ok h
    have h3 := iTk_lt hb h1
    have h4 := iDb_le v (by omega)
    have h5 := iDx_le v (by omega)
    have h6 := iDb_pos v
    have : 2 ^ iDx v ≤ 2 ^ 13 := Nat.pow_le_pow_right (by decide) h5
    cases h2
    omega
theorem iRun_le {D : List Int} {b : Nat → Nat} {T most q v : Nat} {out : List Int} {q' : Nat} {o : List Int} (h : iRun D b T most q v out = .ok (q', o)) : o.length ≤ most := by
  unfold iRun at h
  obtain ⟨q1, n, _, h⟩ := iThen_ok h
  obtain ⟨q2, d, _, h⟩ := iThen_ok h
  split at h
  · cases h
  · split at h
    · cases h
    · cases h
      rw [iCpy_length']; omega
end Go.Proofs.YtibolmgijaploaaDoor
