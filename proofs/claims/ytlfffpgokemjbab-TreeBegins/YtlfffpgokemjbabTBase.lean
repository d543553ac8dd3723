/- Small lemmas of both sides: numbers of 64 bits, new blocks, dates that may be. -/
import Derived.Test.YtlfffpgokemjbabTMath
import Derived.Test.YtlfffpgokemjbabWorld
import Derived.WalkMore
import Derived.LoopTactic
import Derived.Deep.LoopGhost
import Derived.Handy
import Derived.Deep.DeepCutAuto
import Derived.Deep.RegionWith
import Derived.Deep.RegionLaw
import Derived.Deep.RegionHeld3
import Derived.BigRegion
namespace Go.Proofs.Ytlfffpgokemjbab.T
set_option maxRecDepth 100000
open Go Go.RowKit
set_option linter.unusedVariables false
theorem hide {p : Prop} (h : p) : Hid p := h

theorem w64 {x : Int} (h1 : -9223372036854775808 ≤ x) (h2 : x ≤ 9223372036854775807) : wrap64 x = x := by unfold wrap64; omega
theorem quo_neg {t k : Int} (hk : 1 ≤ k) (ht : t < 0) : t ≤ t / k ∧ t / k < 0 ∧ ((t.tdiv k * k = t ∧ t / k = t.tdiv k) ∨ (t.tdiv k * k ≠ t ∧ t < t.tdiv k * k ∧ t.tdiv k * k ≤ 0 ∧ t / k = t.tdiv k - 1)) := by
  have e := @Int.tdiv_eq_ediv t k
  have hs : k.sign = 1 := Int.sign_eq_one_of_pos (by omega)
  rw [hs] at e
  have hle := Int.ediv_mul_le t (show k ≠ 0 by omega)
  have hlt := Int.lt_ediv_add_one_mul_self t (show 0 < k by omega)
  have hng : t / k < 0 := Int.ediv_neg_of_neg_of_pos ht (by omega)
  refine ⟨?_, hng, ?_⟩
  · refine Int.le_ediv_of_mul_le (by omega) ?_
    have := Int.mul_le_mul_of_nonpos_left (show t ≤ 0 by omega) hk
    omega
  · by_cases hd : k ∣ t
    · rw [if_pos (.inr hd), Int.add_zero] at e
      rw [e]
      exact .inl ⟨Int.ediv_mul_cancel hd, rfl⟩
    · rw [if_neg (by rintro (h | h); omega; exact hd h)] at e
      rw [e]
      refine .inr ⟨fun h => hd ⟨t / k + 1, by rw [Int.mul_comm]; exact h.symm⟩, hlt, ?_, by omega⟩
      exact Int.mul_nonpos_of_nonpos_of_nonneg (by omega) (by omega)
theorem rem_any {t s : Int} (hs : 1 ≤ s) : (t.tmod s < 0 ∧ t % s = t.tmod s + s) ∨ (0 ≤ t.tmod s ∧ t % s = t.tmod s) := by
  have e := @Int.tmod_eq_emod t s
  have h0 := Int.emod_nonneg t (show s ≠ 0 by omega)
  have h1 := Int.emod_lt_of_pos t (show 0 < s by omega)
  by_cases hd : 0 ≤ t ∨ s ∣ t
  · rw [if_pos hd] at e
    exact .inr ⟨by omega, by omega⟩
  · rw [if_neg hd] at e
    exact .inl ⟨by omega, by omega⟩
/-- Rounded down to a multiple, where that is a number of 64 bits. -/
def flo (t k : Int) : Int := if k < 1 then t else if t / k * k < -9223372036854775808 then t else t / k * k
/-- The six numbers of a date. -/
def dC (y m d h mi se : Int) : Array Value := #[.int .i64 y, .int .i64 m, .int .i64 d, .int .i64 h, .int .i64 mi, .int .i64 se]
theorem yd_nat (y : Int) : 365 ≤ yd y ∧ yd y ≤ 366 := yd_le y
theorem yn_bd {y : Int} (h1 : 1000 ≤ y) (h2 : y ≤ 3000) : -400000 ≤ yn y ∧ yn y ≤ 400000 := by unfold yn; omega
theorem mn_bd (y : Int) {m : Int} (h1 : 1 ≤ m) (h2 : m ≤ 13) : 0 ≤ mn y m ∧ mn y m ≤ 366 := by
  have a := mn_mono y (show (1 : Int) ≤ 1 by omega) h1 h2
  have b := mn_mono y h1 h2 (show (13 : Int) ≤ 13 by omega)
  rw [mn_1] at a
  rw [mn_13] at b
  have := yd_le y
  omega
theorem cells_new (w : World) (cs : Array Value) (t : TypeId) (k : Nat) (v : Value) (h : cs[k]? = some v) : (w.alloc (.cells cs t)).cell? ⟨w.heap.size, k, none⟩ = some v := by
  rw [cells_of (heap_new w _)]
  exact h
/-- A date that may be, of the years that may be. -/
def Vd (y m d h mi se : Int) : Prop := (1700 ≤ y ∧ y ≤ 2250) ∧ (1 ≤ m ∧ m ≤ 12) ∧ (1 ≤ d ∧ d ≤ md y m) ∧ (0 ≤ h ∧ h ≤ 23) ∧ (0 ≤ mi ∧ mi ≤ 59) ∧ (0 ≤ se ∧ se ≤ 59)
instance (y m d h mi se : Int) : Decidable (Vd y m d h mi se) := inferInstanceAs (Decidable (_ ∧ _))
/-- The second at which a date begins. -/
def sc (y m d h mi se : Int) : Int := dn y m d * 86400 + h * 3600 + mi * 60 + se
theorem below_drew {B : Nat} {w w' : World} (h : Below B w w') (n : Nat) : Below B w (w'.drewN n) := ⟨h.os, h.tape, h.output, h.size, h.block⟩
theorem iw {x : Int} (h1 : -9223372036854775808 ≤ x) (h2 : x ≤ 9223372036854775807) : IntKind.i64.wrap x = x := by rw [IntKind.wrap_i64]; omega
end Go.Proofs.Ytlfffpgokemjbab.T
