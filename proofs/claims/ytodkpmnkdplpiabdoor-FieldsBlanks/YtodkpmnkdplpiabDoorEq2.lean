/- PLAIN: what the program's Seconds computes is what the reference's does. -/
import Derived.Test.YtodkpmnkdplpiabDoorEq1
import Derived.Test.YtodkpmnkdplpiabDoorSecP
namespace Go.Proofs.YtodkpmnkdplpiabDoor
open Go
set_option linter.unusedVariables false

/-- The worth of a digit, j places ahead of the last that counts. -/
def wo (j : Nat) : Nat := if j = 0 then 0 else 10 ^ (j - 1)
theorem wo_next (j : Nat) : wo j / 10 = wo (j - 1) := by
  match j with
  | 0 => rfl
  | 1 => rfl
  | j + 2 =>
    show 10 ^ (j + 1) / 10 = 10 ^ j
    rw [Nat.pow_succ, Nat.mul_div_cancel _ (by decide)]
/-- What digits are worth, j places ahead. -/
def vl : List UInt8 → Nat → Nat
  | [], _ => 0
  | c :: r, j => (c.toNat - 48) * wo j + vl r (j - 1)
theorem nano_eq : ∀ (l : List UInt8) (v j : Nat), (∀ c ∈ l, isD c = true) → nano l v (wo j) = (v + vl l j, true)
  | [], v, j, _ => rfl
  | c :: r, v, j, h => by
    unfold nano
    rw [if_neg (by have := isD_of (h c (by simp)); omega), wo_next, nano_eq r _ _ (fun x hx => h x (by simp [hx]))]
    show _ = (v + ((c.toNat - 48) * wo j + vl r (j - 1)), true)
    rw [Nat.add_assoc]
theorem nano_bad : ∀ (l : List UInt8) (v k : Nat) (c : UInt8), c ∈ l → ¬ isD c = true → (nano l v k).2 = false
  | [], _, _, c, h, _ => absurd h (by simp)
  | x :: r, v, k, c, h, hc => by
    unfold nano
    split
    · rfl
    · rename_i hx
      rcases List.mem_cons.1 h with rfl | h
      · exact absurd (isD_not hc) (by omega)
      · exact nano_bad r _ _ c h hc
theorem vl_zero : ∀ (l : List UInt8), vl l 0 = 0
  | [] => rfl
  | c :: r => by
    show (c.toNat - 48) * 0 + vl r 0 = 0
    rw [vl_zero r, Nat.mul_zero]
theorem nanA_nil : ∀ (k a : Nat), nanA k [] a = a * 10 ^ k
  | 0, a => by simp [nanA]
  | k + 1, a => by
    unfold nanA
    rw [nanA_nil k, Nat.pow_succ, Nat.mul_assoc, Nat.mul_comm 10]
theorem nanA_eq : ∀ (k : Nat) (l : List UInt8) (a : Nat), nanA k l a = a * 10 ^ k + vl l k
  | 0, l, a => by rw [vl_zero]; simp [nanA]
  | k + 1, [], a => nanA_nil (k + 1) a
  | k + 1, c :: r, a => by
    unfold nanA
    rw [nanA_eq k r]
    show _ = a * 10 ^ (k + 1) + ((c.toNat - 48) * 10 ^ k + vl r k)
    rw [Nat.add_mul, Nat.pow_succ, Nat.mul_assoc, Nat.mul_comm 10, Nat.add_assoc]
theorem nano_nanA (l : List UInt8) (h : ∀ c ∈ l, isD c = true) : nano l 0 100000000 = (nanA 9 l 0, true) := by
  have := nano_eq l 0 9 h
  rw [show wo 9 = 100000000 from rfl] at this
  rw [this, nanA_eq, Nat.zero_mul]

theorem idx_app : ∀ (D r : List UInt8), (∀ c ∈ D, isD c = true) → Lib.indexByte (D ++ r) 46 = if Lib.indexByte r 46 = -1 then -1 else (D.length : Int) + Lib.indexByte r 46
  | [], r, _ => by
    rw [List.nil_append]
    split
    · assumption
    · simp
  | x :: D, r, h => by
    have hx := isD_of (h x (by simp))
    have ih := idx_app D r (fun c hc => h c (by simp [hc]))
    have hx46 : (x == (46 : UInt8)) = false := by
      have : ¬ x = 46 := fun e => by rw [e] at hx; exact absurd hx (by decide)
      simpa using this
    have hu : Lib.indexByte (x :: (D ++ r)) 46 = if x == (46 : UInt8) then 0 else if Lib.indexByte (D ++ r) 46 == -1 then -1 else Lib.indexByte (D ++ r) 46 + 1 := by
      conv => lhs; unfold Lib.indexByte
    rw [List.cons_append, hu, hx46, ih]
    have hg := Lib.indexByte_ge r 46
    by_cases h1 : Lib.indexByte r 46 = -1
    · rw [if_pos h1, if_pos h1]; rfl
    · rw [if_neg h1, if_neg h1]
      have : (((D.length : Int) + Lib.indexByte r 46) == -1) = false := by
        have : ¬ ((D.length : Int) + Lib.indexByte r 46) = -1 := by omega
        simpa using this
      rw [this]
      simp only [Bool.false_eq_true, if_false, List.length_cons]
      omega
theorem rn_app (D r : List UInt8) (h : ∀ c ∈ D, isD c = true) : rn (D ++ r) = D.length + rn r := by
  induction D with
  | nil => simp
  | cons x D ih =>
    rw [List.cons_append, rn_cons_yes (h x (by simp)), ih (fun c hc => h c (by simp [hc]))]
    simp only [List.length_cons]
    omega
theorem rn_split (t : List UInt8) : t.drop (rn t) = [] ∨ ∃ x C, t.drop (rn t) = x :: C ∧ ¬ isD x = true := by
  induction t with
  | nil => exact .inl rfl
  | cons c r ih =>
    by_cases hc : isD c = true
    · rw [rn_cons_yes hc, List.drop_succ_cons]
      exact ih
    · rw [rn_cons_no (by simpa using hc)]
      exact .inr ⟨c, r, rfl, hc⟩
theorem secW_none {W B : List UInt8} {pt : Bool} {x : UInt8} (hx : x ∈ W) (hd : ¬ isD x = true) : secW W B pt = none := by
  unfold secW
  rw [if_pos (.inl (digs_bad W 0 x hx (isD_not hd)))]
theorem secW_fine {W B : List UInt8} {pt : Bool} (hW : ∀ c ∈ W, isD c = true) (hB : ∀ c ∈ B, isD c = true) (h0 : W ≠ []) (hp : ¬ (pt = true ∧ B = [])) : secW W B pt = secF W B := by
  obtain ⟨h1, h2⟩ := digs_rel (b := 10) (by omega) W 0 (some 0) rel_zero (fun c hc => by have := isD_of (hW c hc); omega)
  have hn := nano_nanA B hB
  unfold secW secF
  rw [hn, h1, if_neg (by intro h; rcases h with h | h | h | h; cases h; cases h; exact h0 h; exact hp h)]
  cases ho : numF 10 48 W (some 0) with
  | none =>
    rw [ho] at h2
    have h2' : 4611686018427387904 < (digs 10 W 0).1 := h2
    rw [if_pos (by omega)]
  | some n =>
    rw [ho] at h2
    obtain ⟨h2, h3⟩ : (digs 10 W 0).1 = n ∧ n ≤ 4611686018427387904 := h2
    rw [h2]
theorem sec_eqT (t : List UInt8) : secQ t = secT t := by
  have hD : ∀ c ∈ t.take (rn t), isD c = true := rn_take t
  have hs : t = t.take (rn t) ++ t.drop (rn t) := (List.take_append_drop _ _).symm
  have hl : (t.take (rn t)).length = rn t := by rw [List.length_take]; have := rn_le t; omega
  have hi := idx_app (t.take (rn t)) (t.drop (rn t)) hD
  rw [← hs] at hi
  unfold secQ secT
  rcases rn_split t with hr | ⟨x, C, hr, hx⟩
  · rw [hr] at hi hs ⊢
    rw [List.append_nil] at hs
    have hi2 : Lib.indexByte t 46 = -1 := hi
    rw [if_pos hi2]
    by_cases h0 : rn t = 0
    · rw [if_pos h0]
      have : t = [] := by rw [hs, h0]; rfl
      rw [this]
      rfl
    · rw [if_neg h0, ← hs]
      rw [← hs] at hD
      rw [secW_fine hD (by simp) (by intro e; rw [e] at h0; exact h0 rfl) (by simp)]
      rfl
  · rw [hr] at hi hs ⊢
    by_cases h46 : x = 46
    · subst h46
      have hi2 : Lib.indexByte ((46 : UInt8) :: C) 46 = 0 := rfl
      rw [hi2, if_neg (by decide), hl] at hi
      have hi3 : Lib.indexByte t 46 = (rn t : Int) := by rw [hi]; omega
      rw [hi3, if_neg (by omega), Int.toNat_natCast]
      have hC : t.drop (rn t + 1) = C := by
        rw [← List.drop_drop, hr]; rfl
      rw [hC]
      by_cases h0 : rn t = 0
      · rw [if_pos h0, h0]
        unfold secW
        rw [if_pos (.inr (.inr (.inl rfl)))]
      · rw [if_neg h0]
        simp only [secC]
        by_cases hC0 : C = []
        · rw [if_pos (.inr (.inl hC0))]
          unfold secW
          rw [if_pos (.inr (.inr (.inr ⟨rfl, hC0⟩)))]
        · by_cases hrc : rn C < C.length
          · rw [if_pos (.inr (.inr hrc))]
            have ⟨c, hc, hn⟩ : ∃ c ∈ C, ¬ isD c = true := by
              apply Classical.byContradiction
              intro h
              have := rn_all' C (fun c hc => Classical.byContradiction fun e => h ⟨c, hc, e⟩)
              omega
            unfold secW
            rw [if_pos (.inr (.inl (nano_bad C 0 100000000 c hc hn)))]
          · have hle := rn_le C
            rw [if_neg (by intro h; rcases h with h | h | h; exact h rfl; exact hC0 h; exact hrc h)]
            exact secW_fine hD (rn_all C (by omega)) (by intro e; rw [e] at hl; simp at hl; exact h0 hl.symm) (by intro h; exact hC0 h.2)
    · have hxt : x ∈ t := by rw [hs]; simp
      have hx46 : (x == (46 : UInt8)) = false := by simpa using h46
      have hR : (if rn t = 0 then none else secC (t.take (rn t)) (x :: C)) = none := by
        by_cases h0 : rn t = 0
        · rw [if_pos h0]
        · rw [if_neg h0]
          simp only [secC]
          rw [if_pos (.inl (fun e => h46 (UInt8.toNat_inj.1 e)))]
      rw [hR]
      have hj : Lib.indexByte (x :: C) 46 = if Lib.indexByte C 46 == -1 then -1 else Lib.indexByte C 46 + 1 := by
        conv => lhs; unfold Lib.indexByte
        rw [hx46]
        rfl
      by_cases hm : Lib.indexByte t 46 = -1
      · rw [if_pos hm]
        exact secW_none hxt hx
      · rw [if_neg hm]
        have hg := Lib.indexByte_ge C 46
        by_cases hc1 : Lib.indexByte C 46 = -1
        · exfalso
          rw [hc1] at hj
          have hj2 : Lib.indexByte (x :: C) 46 = -1 := hj
          rw [hj2, if_pos rfl] at hi
          exact hm hi
        · have hb : (Lib.indexByte C 46 == -1) = false := by simpa using hc1
          rw [hb] at hj
          have hj2 : Lib.indexByte (x :: C) 46 = Lib.indexByte C 46 + 1 := hj
          rw [hj2, if_neg (by omega), hl] at hi
          refine secW_none (x := x) ?_ hx
          obtain ⟨k, hk⟩ : ∃ k : Nat, (Lib.indexByte t 46).toNat = rn t + (k + 1) := ⟨(Lib.indexByte C 46).toNat, by rw [hi]; omega⟩
          rw [hk]
          have : t.take (rn t + (k + 1)) = t.take (rn t) ++ (t.drop (rn t)).take (k + 1) := List.take_add
          rw [this, hr]
          simp
theorem sec_eq (l : List UInt8) : secP l = secR l := by
  unfold secP secR
  by_cases h : l.head? = some 45
  · obtain ⟨h1, h2⟩ := (pre_eq l).1 h
    rw [h1, h2, if_pos h, sec_eqT]
  · obtain ⟨h1, h2⟩ := (pre_eq l).2 h
    rw [h1, h2, if_neg h, sec_eqT]
end Go.Proofs.YtodkpmnkdplpiabDoor
