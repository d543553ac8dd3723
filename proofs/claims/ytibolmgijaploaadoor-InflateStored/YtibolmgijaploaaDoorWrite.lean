/- The writer of package bits: contracts of NewWriter, Len, Bits, Align. -/
import Derived.Test.YtibolmgijaploaaDoorRow
import Derived.Deep.RegionWith
import Derived.Deep.LoopGhost
import Derived.Maps.AppendAt
import Derived.Deep.DeepCutAuto
import Derived.Deep.RegionLaw
namespace Go.Proofs.YtibolmgijaploaaDoor
open Go.RowKit

theorem Tryd.info5 : (Tryd.prog.info? 5).map (fun i => (i.zero, i.size, i.bytes)) = some (some (.int .u8 0), 1, 1) := by kernel_rfl
theorem Tryd.info3 : (Tryd.prog.info? 3).map (fun i => (i.zero, i.size, i.bytes)) = some (some (.int .i64 0), 1, 8) := by kernel_rfl

theorem wait_join (t x : Int) (n m : Nat) (h0 : 0 ≤ t) (h1 : t < 2 ^ m) (hn : n ≤ 24) (hm : m ≤ 7) : bits .or .i64 t (IntKind.i64.wrap (x % 2 ^ n * 2 ^ m)) = t + x % 2 ^ n * 2 ^ m := by
  have hp := pow_pos' n
  have hq := pow_pos' m
  have a0 : 0 ≤ x % 2 ^ n := Int.emod_nonneg _ (by omega)
  have a1 : x % 2 ^ n < 2 ^ n := Int.emod_lt_of_pos _ (by omega)
  have a2 := @pow_le_24 n hn
  have a3 : (2 : Int) ^ m ≤ 128 := by
    have : (2 : Nat) ^ m ≤ 2 ^ 7 := Nat.pow_le_pow_right (by decide) hm
    have h2 : ((2 ^ m : Nat) : Int) ≤ ((2 ^ 7 : Nat) : Int) := by exact_mod_cast this
    simpa using h2
  have a4 : x % 2 ^ n * 2 ^ m ≤ 16777216 * 128 := Int.mul_le_mul (by omega) a3 (by omega) (by omega)
  have a5 : 0 ≤ x % 2 ^ n * 2 ^ m := Int.mul_nonneg a0 (by omega)
  have e : IntKind.i64.wrap (x % 2 ^ n * 2 ^ m) = x % 2 ^ n * 2 ^ m := by rw [IntKind.wrap_i64]; omega
  rw [e, or_add _ _ m h0 h1 a0 (by omega) (by omega)]

end Go.Proofs.YtibolmgijaploaaDoor
