/- The program's numbers: quotient, product, FromUnix, ToUnix, FromNt, ToNt, Floor: contracts. -/
import Derived.Test.YtlfffpgokemjbabTBase
namespace Go.Proofs.Ytlfffpgokemjbab.T
set_option maxRecDepth 100000
open Go Go.RowKit
set_option linter.unusedVariables false
/-- A number of 64 bits. -/
def F64 (x : Int) : Prop := -9223372036854775808 ≤ x ∧ x ≤ 9223372036854775807
instance (x : Int) : Decidable (F64 x) := inferInstanceAs (Decidable (_ ∧ _))
/-- A product, and whether it is a number of 64 bits. -/
def pv (m k : Int) : Int := if F64 (m * k) then m * k else 0
def pb (m k : Int) : Bool := decide (F64 (m * k))
theorem rem_neg {t k : Int} (hk : 1 ≤ k) : (t.tmod k < 0 ∧ t.tdiv k - 1 = t / k ∧ t ≤ t / k ∧ t / k < 0) ∨ (0 ≤ t.tmod k ∧ t.tdiv k = t / k) := by
  have e := @Int.tdiv_eq_ediv t k
  have e2 := @Int.tmod_eq_emod t k
  have hs : k.sign = 1 := Int.sign_eq_one_of_pos (by omega)
  rw [hs] at e
  have h0 := Int.emod_nonneg t (show k ≠ 0 by omega)
  have h1 := Int.emod_lt_of_pos t (show 0 < k by omega)
  by_cases hd : 0 ≤ t ∨ k ∣ t
  · rw [if_pos hd] at e e2
    exact .inr ⟨by omega, by omega⟩
  · rw [if_neg hd] at e e2
    have ht : t < 0 := by
      apply Classical.byContradiction
      intro q
      exact hd (.inl (by omega))
    have hq := quo_neg hk ht
    exact .inl ⟨by omega, by omega, hq.1, hq.2.1⟩
theorem quotient_c (t k : Int) (w : World) (hk : 1 ≤ k) (ht : -9223372036854775808 ≤ t) (ht2 : t ≤ 9223372036854775807) (hk2 : k ≤ 9223372036854775807) : Calls Try.prog 28 #[.int .i64 t, .int .i64 k] w fun e w' => e = .returned (.int .i64 (t / k)) ∧ w' = w := by
  have hk0 : ¬ k = 0 := by omega
  rcases rem_neg (t := t) hk with ⟨h1, h2, h3, h4⟩ | ⟨h1, h2⟩
  · have e : wrap64 (t.tdiv k - 1) = t / k := by rw [w64 (by omega) (by omega)]; exact h2
    clear h2
    go_enter Try.func28, Try.ntmps28
    go_wp2_with fail
    all_goals go_ret
    all_goals first | exact ⟨rfl, rfl⟩ | exact ⟨by rw [e]; rfl, rfl⟩
  · have e : wrap64 (t / k) = t / k := by
      rcases (by omega : 0 ≤ t ∨ t < 0) with q | q
      · have := Int.ediv_nonneg q (show 0 ≤ k by omega)
        have := Int.ediv_le_self k q
        exact w64 (by omega) (by omega)
      · have := quo_neg hk q
        exact w64 (by omega) (by omega)
    have h3 : ¬ t.tmod k < 0 := by omega
    clear h1
    go_enter Try.func28, Try.ntmps28
    go_wp2_with fail
    all_goals go_ret
    all_goals first | exact ⟨rfl, rfl⟩ | exact ⟨by rw [e]; rfl, rfl⟩
theorem low_iff {m k : Int} (hk : 1 ≤ k) : m < -(9223372036854775808 / k) ↔ m * k < -9223372036854775808 := by
  have h := @Int.ediv_lt_iff_lt_mul 9223372036854775808 (-m) k (by omega)
  have e3 : -m * k = -(m * k) := Int.neg_mul m k
  rw [e3] at h
  constructor
  · intro q; have := h.1 (by omega); omega
  · intro q; have := h.2 (by omega); omega
theorem high_iff {m k : Int} (hk : 1 ≤ k) : (9223372036854775807 : Int) / k < m ↔ 9223372036854775807 < m * k := Int.ediv_lt_iff_lt_mul (by omega)
theorem product_c (m k : Int) (w : World) (hk : 1 ≤ k) : Calls Try.prog 27 #[.int .i64 m, .int .i64 k] w fun e w' => e = .returned (.tuple #[.int .i64 (pv m k), .bool (pb m k)]) ∧ w' = w := by
  have hk0 : ¬ k = 0 := by omega
  have hl := low_iff (m := m) hk
  have hh := high_iff (m := m) hk
  have eA : wrap64 (-Int.tdiv 9223372036854775808 k) = -(9223372036854775808 / k) := by
    rw [Int.tdiv_eq_ediv_of_nonneg (by omega)]
    have := Int.ediv_nonneg (show (0 : Int) ≤ 9223372036854775808 by omega) (show 0 ≤ k by omega)
    have := Int.ediv_le_self k (show (0 : Int) ≤ 9223372036854775808 by omega)
    exact w64 (by omega) (by omega)
  generalize (9223372036854775808 : Int) / k = A at *
  rcases (by omega : m * k < -9223372036854775808 ∨ (¬ m * k < -9223372036854775808 ∧ 9223372036854775807 < m * k) ∨ (-9223372036854775808 ≤ m * k ∧ m * k ≤ 9223372036854775807)) with h | ⟨h, h'⟩ | ⟨h, h'⟩
  · have n : ¬ F64 (m * k) := fun q => by have := q.1; omega
    rw [show pv m k = 0 from if_neg n, show pb m k = false from decide_eq_false n]
    have h1 := hl.2 h
    clear hl hh h n
    go_enter Try.func27, Try.ntmps27
    go_wp2_with fail
    all_goals go_ret2
    all_goals exact ⟨rfl, rfl⟩
  · have n : ¬ F64 (m * k) := fun q => by have := q.2; omega
    rw [show pv m k = 0 from if_neg n, show pb m k = false from decide_eq_false n]
    have h1 : ¬ m < -A := fun q => h (hl.1 q)
    have h2 := hh.2 h'
    clear hl hh h h' n
    go_enter Try.func27, Try.ntmps27
    go_wp2_with fail
    all_goals go_ret2
    all_goals exact ⟨rfl, rfl⟩
  · have y : F64 (m * k) := ⟨h, h'⟩
    rw [show pv m k = m * k from if_pos y, show pb m k = true from decide_eq_true y]
    have h1 : ¬ m < -A := fun q => by have := hl.1 q; omega
    have h2 : ¬ (9223372036854775807 : Int) / k < m := fun q => by have := hh.1 q; omega
    have e := w64 h h'
    clear hl hh h h' y
    go_enter Try.func27, Try.ntmps27
    go_wp2_with fail
    all_goals go_ret2
    all_goals first | exact ⟨rfl, rfl⟩ | exact ⟨by rw [e]; rfl, rfl⟩
theorem toNt_c (t : Int) (w : World) (ht : -9223372036854775808 ≤ t) (ht2 : t ≤ 9223372036854775807) : Calls Try.prog 26 #[.int .i64 t] w fun e w' => e = .returned (.int .u64 (t / 100 + 116444736000000000)) ∧ w' = w := by
  have HP := hide (quotient_c t 100 w (by omega) ht ht2 (by omega))
  have hb : -92233720368547759 ≤ t / 100 ∧ t / 100 ≤ 92233720368547758 := by omega
  generalize t / 100 = v at *
  go_enter Try.func26, Try.ntmps26
  go_wp2_with (go_at_call 28; refine HP.out.mono ?_; rintro e w1 ⟨rfl, hw⟩; obtain rfl := hw.symm; clear HP)
  go_ret
  exact ⟨rfl, rfl⟩
/-- The time of a number of NT, and whether there is one. -/
def ntF (v : Int) : Prop := 24211015631452242 ≤ v ∧ v ≤ 208678456368547758
instance (x : Int) : Decidable (ntF x) := inferInstanceAs (Decidable (_ ∧ _))
def ntv (v : Int) : Int := if ntF v then (v - 116444736000000000) * 100 else 0
def ntb (v : Int) : Bool := decide (ntF v)
theorem fromNt_c (v : Int) (w : World) (hv : 0 ≤ v) (hv2 : v ≤ 18446744073709551615) : Calls Try.prog 25 #[.int .u64 v] w fun e w' => e = .returned (.tuple #[.int .i64 (ntv v), .bool (ntb v)]) ∧ w' = w := by
  have HP := hide (product_c (wrap64 (IntKind.u64.wrap (v - 116444736000000000))) 100 w (by omega))
  have eX : wrap64 (IntKind.u64.wrap (v - 116444736000000000)) = wrap64 (v - 116444736000000000) := by
    rw [IntKind.wrap_u64]; unfold wrap64; omega
  have key : (ntF v ∧ F64 (wrap64 (v - 116444736000000000) * 100) ∧ wrap64 (v - 116444736000000000) = v - 116444736000000000) ∨ (¬ ntF v ∧ ¬ F64 (wrap64 (v - 116444736000000000) * 100)) := by
    by_cases h : ntF v
    · have h2 : wrap64 (v - 116444736000000000) = v - 116444736000000000 := w64 (by have := h.1; omega) (by have := h.2; omega)
      exact .inl ⟨h, ⟨by rw [h2]; have := h.1; omega, by rw [h2]; have := h.2; omega⟩, h2⟩
    · refine .inr ⟨h, fun q => h ?_⟩
      obtain ⟨q1, q2⟩ := q
      unfold wrap64 at q1 q2
      exact ⟨by omega, by omega⟩
  have e1 : pv (wrap64 (IntKind.u64.wrap (v - 116444736000000000))) 100 = ntv v := by
    rw [eX]
    rcases key with ⟨a, b, c⟩ | ⟨a, b⟩
    · rw [show pv (wrap64 (v - 116444736000000000)) 100 = _ from if_pos b, show ntv v = _ from if_pos a, c]
    · rw [show pv (wrap64 (v - 116444736000000000)) 100 = _ from if_neg b, show ntv v = _ from if_neg a]
  have e2 : pb (wrap64 (IntKind.u64.wrap (v - 116444736000000000))) 100 = ntb v := by
    rw [eX]
    rcases key with ⟨a, b, c⟩ | ⟨a, b⟩
    · rw [show pb (wrap64 (v - 116444736000000000)) 100 = _ from decide_eq_true b, show ntb v = _ from decide_eq_true a]
    · rw [show pb (wrap64 (v - 116444736000000000)) 100 = _ from decide_eq_false b, show ntb v = _ from decide_eq_false a]
  clear key eX
  rw [e1, e2] at HP
  clear e1 e2
  go_enter Try.func25, Try.ntmps25
  go_wp2_with (go_at_call 27; refine HP.out.mono ?_; rintro e w1 ⟨rfl, hw⟩; obtain rfl := hw.symm; clear HP)
  go_ret2
  exact ⟨rfl, rfl⟩
end Go.Proofs.Ytlfffpgokemjbab.T
