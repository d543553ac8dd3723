/- PROVED: the contracts of the reference's below and PutSeconds. -/
import Derived.Test.YtodkpmnkdplpiabDoorRefPut
import Derived.Test.YtodkpmnkdplpiabDoorPure2
import Derived.Deep.DeepFit
namespace Go.Proofs.YtodkpmnkdplpiabDoor
open Go Go.RowKit
set_option linter.unusedVariables false

theorem app_eq (a b : List UInt8) : (⟨a.toArray⟩ : ByteArray) ++ ⟨b.toArray⟩ = ⟨(a ++ b).toArray⟩ := by
  apply ByteArray.ext
  simp [ByteArray.data_append]
theorem size_mk (a : List UInt8) : (⟨a.toArray⟩ : ByteArray).size = a.length := by simp [ByteArray.size]
theorem dec_small {u : Nat} (h : u < 10) : Lib.decDigits u = [UInt8.ofNat (48 + u)] := by rw [Lib.decDigits, dif_pos h]
theorem dec_big {u : Nat} (h : ¬ u < 10) : Lib.decDigits u = Lib.decDigits (u / 10) ++ [UInt8.ofNat (48 + u % 10)] := by rw [Lib.decDigits, dif_neg h]
theorem dec_len (k : Nat) : ∀ u, u < 10 ^ (k + 1) → (Lib.decDigits u).length ≤ k + 1 := by
  induction k with
  | zero => intro u h; rw [dec_small (by simpa using h)]; simp
  | succ k ih =>
    intro u h
    by_cases h10 : u < 10
    · rw [dec_small h10]; simp
    · rw [dec_big h10, List.length_append]
      have := ih (u / 10) (by rw [Nat.pow_succ] at h; omega)
      simp only [List.length_singleton]
      omega

theorem one_text (W : World) (x : Nat) (hx : x < 256) :
    (convert 23 9 (.slice (some ⟨W.heap.size, 0, none⟩) 1 1)).run Tryd.prog (W.alloc (.cells #[.int .u8 (x : Int)] 5)) = .ok (.string ⟨[UInt8.ofNat x].toArray⟩) (W.alloc (.cells #[.int .u8 (x : Int)] 5)) := by
  have h := run_convert_bytes_back (P := Tryd.prog) (W.alloc (.cells #[.int .u8 (x : Int)] 5)) 23 9 5 ⟨W.heap.size, 0, none⟩ 1 [UInt8.ofNat x] Tryd.underlying23 Tryd.underlying5 Tryd.underlying9 (fun j hj => by
    have hj0 : j = 0 := by simpa using hj
    subst hj0
    have := one_byte W (.int .u8 (x : Int)) 0 (.int .u8 (x : Int)) rfl
    rw [this]
    simp only [List.getElem_cons_zero]
    rw [byte_lt hx])
  exact h

/-- The digits of nanoseconds, till nothing is left. -/
def frac : Nat → Nat → List UInt8
  | 0, _ => []
  | k + 1, P => if P = 0 then [] else Lib.decDigits (P * 10 / 1000000000) ++ frac k (P * 10 % 1000000000)
theorem frac_zero (k : Nat) : frac k 0 = [] := by cases k <;> simp [frac]
/-- The reference's PutSeconds of u nanoseconds, without the sign. -/
def psU (u : Nat) : List UInt8 := Lib.decDigits (u / 1000000000) ++ (if u % 1000000000 = 0 then [] else 46 :: frac 9 (u % 1000000000))
def psR (t : Int) : List UInt8 := if t < 0 then 45 :: psU t.natAbs else psU t.natAbs
theorem dvd_next {g P : Nat} (hg : g ≤ 8) (h : 10 ^ (8 - g) ∣ P) : 10 ^ (9 - g) ∣ P * 10 % 1000000000 := by
  have h1 : 10 ^ (9 - g) ∣ P * 10 := by
    rw [show 9 - g = (8 - g) + 1 by omega, Nat.pow_succ]
    exact Nat.mul_dvd_mul h (Nat.dvd_refl _)
  have h2 : 10 ^ (9 - g) ∣ 1000000000 := ⟨10 ^ g, by rw [← Nat.pow_add, show 9 - g + g = 9 by omega]⟩
  exact (Nat.dvd_mod_iff h2).2 h1
theorem neg_tdiv (P : Nat) : (-(P : Int) * 10).tdiv 1000000000 = -((P * 10 / 1000000000 : Nat) : Int) := by
  rw [show -(P : Int) * 10 = -((P * 10 : Nat) : Int) by omega, Int.neg_tdiv, Int.ofNat_tdiv]
  rfl
theorem neg_tmod (P : Nat) : (-(P : Int) * 10).tmod 1000000000 = -((P * 10 % 1000000000 : Nat) : Int) := by
  rw [show -(P : Int) * 10 = -((P * 10 : Nat) : Int) by omega, Int.neg_tmod, Int.ofNat_tmod]
  rfl
theorem neg_ne_b {P : Nat} (h : ¬ P = 0) : ((-(P : Int)) == 0) = false := by
  have : ¬ (-(P : Int)) = 0 := by omega
  simpa using this
theorem neg_ne_t {P : Nat} (h : ¬ P = 0) : ((-(P : Int)) != 0) = true := by
  have : ¬ (-(P : Int)) = 0 := by omega
  simpa using this

end Go.Proofs.YtodkpmnkdplpiabDoor
