/- The program's FromDos and ToDos: contracts. -/
import Derived.Test.YthhajodedmaefabPTo
import Derived.Test.YthhajodedmaefabPFromX
import Derived.OwnWalk
namespace Go.Proofs.Ythhajodedmaefab.T
set_option maxRecDepth 100000
open Go Go.RowKit
set_option linter.unusedVariables false
theorem wrap16 (n : Int) : IntKind.u16.wrap n = n % 65536 := by simp [IntKind.wrap, IntKind.signed, IntKind.bits]
theorem and16 {x : Int} (n : Nat) (hn : n ≤ 15) (h0 : 0 ≤ x) (h1 : x < 65536) : bits .and .u16 x (2 ^ n - 1) = x % 2 ^ n := by
  obtain ⟨X, rfl⟩ := Int.eq_ofNat_of_zero_le h0
  have hX : X < 65536 := by omega
  have hp := Nat.two_pow_pos n
  have hle : (2 : Nat) ^ n ≤ 2 ^ 15 := Nat.pow_le_pow_right (by decide) hn
  have e1 : ((2 : Int) ^ n - 1) = ((2 ^ n - 1 : Nat) : Int) := by
    have : ((2 ^ n : Nat) : Int) = (2 : Int) ^ n := by simp
    omega
  have o : ∀ a : Nat, a < 65536 → (BitVec.ofInt 16 (a : Int)).toNat = a := fun a ha => by
    rw [BitVec.toNat_ofInt]; omega
  rw [e1]
  show IntKind.u16.wrap (((BitVec.ofInt 16 (X : Int) &&& BitVec.ofInt 16 ((2 ^ n - 1 : Nat) : Int)).toNat : Nat) : Int) = _
  rw [BitVec.toNat_and, o X hX, o _ (by omega), Nat.and_two_pow_sub_one_eq_mod, wrap16]
  have : X % 2 ^ n < 2 ^ n := Nat.mod_lt _ hp
  have e2 : ((X % 2 ^ n : Nat) : Int) = (X : Int) % 2 ^ n := by push_cast; rfl
  rw [← e2]
  omega
/-- The two numbers of DOS. -/
def dosD (Y M d : Int) : Int := (Y - 1980) * 512 + M * 32 + d
def dosK (h mi se : Int) : Int := h * 2048 + mi * 32 + se / 2
theorem toDos_no {t Y M d h mi se : Int} (w : World) (ht : -9223372036854775808 ≤ t) (ht2 : t ≤ 9223372036854775807) (hd : IsDt (t / 1000000000) Y M d h mi se) (hy : ¬ (1980 ≤ Y ∧ Y ≤ 2107)) : Calls Try.prog 12 #[.int .i64 t] w fun e w' => e = .returned (.tuple #[.int .u16 0, .int .u16 0, .bool false]) ∧ Below w.heap.size w w' := by
  have HT := fun W => hide (toDate_c W ht ht2 hd)
  have HI := fun W => hide (within_c Y 1980 2107 W)
  simp only [decide_eq_false hy] at HI
  clear hd hy
  go_enter Try.func12, Try.ntmps12
  go_wp2_with (first
    | (go_at_call 5; refine (HT _).out.mono ?_; rintro e w1 ⟨rfl, hw⟩; have B1 := hide hw; clear hw HT)
    | (go_at_call 21; refine (HI _).out.mono ?_; rintro e w2 ⟨rfl, hw⟩; obtain rfl := hw.symm; clear HI))
  go_ret3
  exact ⟨rfl, B1.out.alloc B1.out.size _⟩
set_option maxHeartbeats 4000000 in
theorem toDos_yes {t Y M d h mi se : Int} (w : World) (ht : -9223372036854775808 ≤ t) (ht2 : t ≤ 9223372036854775807) (hd : IsDt (t / 1000000000) Y M d h mi se) (hy : 1980 ≤ Y ∧ Y ≤ 2107) : Calls Try.prog 12 #[.int .i64 t] w fun e w' => e = .returned (.tuple #[.int .u16 (dosD Y M d), .int .u16 (dosK h mi se), .bool true]) ∧ Below w.heap.size w w' := by
  have HT := fun W => hide (toDate_c W ht ht2 hd)
  have HI := fun W => hide (within_c Y 1980 2107 W)
  simp only [decide_eq_true hy] at HI
  obtain ⟨⟨hm, hdd, _⟩, hh, hmi, hse, _⟩ := hd
  have hml := md_le Y M
  have hd5 : 1 ≤ d ∧ d ≤ 31 := by omega
  clear hdd hml
  have e1 : bits .or .i64 ((Y - 1980) * 512) (M * 32) = (Y - 1980) * 512 + M * 32 := or_add_low (M * 32) (Y - 1980) 9 (by omega) (by omega) (by omega) (by omega) (by decide)
  have e2 : bits .or .i64 ((Y - 1980) * 512 + M * 32) d = (Y - 1980) * 512 + M * 32 + d := by
    have := or_add_low d ((Y - 1980) * 16 + M) 5 (by omega) (by omega) (by omega) (by omega) (by decide)
    rw [show ((Y - 1980) * 16 + M) * 2 ^ 5 = (Y - 1980) * 512 + M * 32 by omega] at this
    exact this
  have e3 : bits .or .i64 (h * 2048) (mi * 32) = h * 2048 + mi * 32 := or_add_low (mi * 32) h 11 (by omega) (by omega) (by omega) (by omega) (by decide)
  have e4 : bits .or .i64 (h * 2048 + mi * 32) (se / 2) = h * 2048 + mi * 32 + se / 2 := by
    have := or_add_low (se / 2) (h * 64 + mi) 5 (by omega) (by omega) (by omega) (by omega) (by decide)
    rw [show (h * 64 + mi) * 2 ^ 5 = h * 2048 + mi * 32 by omega] at this
    exact this
  unfold dosD dosK
  go_enter Try.func12, Try.ntmps12
  go_wp2_with (first
    | (go_at_call 5; refine (HT _).out.mono ?_; rintro e w1 ⟨rfl, hw⟩; have B1 := hide hw; clear hw HT)
    | (go_at_call 21; refine (HI _).out.mono ?_; rintro e w2 ⟨rfl, hw⟩; obtain rfl := hw.symm; clear HI))
  go_ret3
  exact ⟨rfl, B1.out.alloc B1.out.size _⟩
end Go.Proofs.Ythhajodedmaefab.T
