/- What is reckoned with words: contracts of RotateLeft32, mix and of the reference's left. -/
import Derived.Test.YtgamfpgejkhbcaaDoorSMath
namespace Go.Proofs.YtgamfpgejkhbcaaDoor.S
set_option maxRecDepth 100000
open Go Go.RowKit

theorem ret_int {k : IntKind} {a b : Int} (h : a = b) : Ending.returned (.int k a) = .returned (.int k b) := by rw [h]
theorem rot_or (n x : Nat) (hx : x < 4294967296) : bits .or .u32 (((x * 2 ^ n % 4294967296 : Nat)) : Int) ((x / 2 ^ (32 - n) : Nat) : Int) = (rot n x : Nat) :=
  or32 _ _ (Nat.mod_lt _ (by omega)) (Nat.lt_of_le_of_lt (Nat.div_le_self _ _) hx)
theorem and_31 : bits .and .u64 1 31 = 1 ∧ bits .and .u64 5 31 = 5 ∧ bits .and .u64 30 31 = 30 := by decide
theorem rot1_or (x : Nat) (hx : x < 4294967296) : bits .or .u32 ((x : Int) * 2 % 4294967296) ((x : Int) / 2147483648) = (rot 1 x : Nat) := rot_or 1 x hx
theorem rot5_or (x : Nat) (hx : x < 4294967296) : bits .or .u32 ((x : Int) * 32 % 4294967296) ((x : Int) / 134217728) = (rot 5 x : Nat) := rot_or 5 x hx
theorem rot30_or (x : Nat) (hx : x < 4294967296) : bits .or .u32 ((x : Int) * 1073741824 % 4294967296) ((x : Int) / 4) = (rot 30 x : Nat) := rot_or 30 x hx

theorem rot1_c (x : Nat) (hx : x < 4294967296) (w : World) :
    Calls Tryd.prog 70 #[.int .u32 (x : Int), .int .i64 1] w fun e w' => e = .returned (.int .u32 (rot 1 x : Nat)) ∧ w' = w := by
  have h := rot1_or x hx
  have ha := and_31.1
  go_enter Tryd.func70, Tryd.ntmps70
  go_wp2
  go_ret
  exact ⟨rfl, rfl⟩
theorem rot5_c (x : Nat) (hx : x < 4294967296) (w : World) :
    Calls Tryd.prog 70 #[.int .u32 (x : Int), .int .i64 5] w fun e w' => e = .returned (.int .u32 (rot 5 x : Nat)) ∧ w' = w := by
  have h := rot5_or x hx
  have ha := and_31.2.1
  go_enter Tryd.func70, Tryd.ntmps70
  go_wp2
  go_ret
  exact ⟨rfl, rfl⟩
theorem rot30_c (x : Nat) (hx : x < 4294967296) (w : World) :
    Calls Tryd.prog 70 #[.int .u32 (x : Int), .int .i64 30] w fun e w' => e = .returned (.int .u32 (rot 30 x : Nat)) ∧ w' = w := by
  have h := rot30_or x hx
  have ha := and_31.2.2
  go_enter Tryd.func70, Tryd.ntmps70
  go_wp2
  go_ret
  exact ⟨rfl, rfl⟩

theorem left1_c (x : Nat) (hx : x < 4294967296) (w : World) :
    Calls Tryd.prog 59 #[.int .u32 (x : Int), .int .i64 1] w fun e w' => e = .returned (.int .u32 (rot 1 x : Nat)) ∧ ∃ m, w' = w.drewN m := by
  have h := rot1_or x hx
  go_enter Tryd.func59, Tryd.ntmps59
  go_wp2_with fail
  go_region
  go_wp2
  go_ret
  exact ⟨rfl, 1, rfl⟩
theorem left5_c (x : Nat) (hx : x < 4294967296) (w : World) :
    Calls Tryd.prog 59 #[.int .u32 (x : Int), .int .i64 5] w fun e w' => e = .returned (.int .u32 (rot 5 x : Nat)) ∧ ∃ m, w' = w.drewN m := by
  have h := rot5_or x hx
  go_enter Tryd.func59, Tryd.ntmps59
  go_wp2_with fail
  go_region
  go_wp2
  go_ret
  exact ⟨rfl, 1, rfl⟩
theorem left30_c (x : Nat) (hx : x < 4294967296) (w : World) :
    Calls Tryd.prog 59 #[.int .u32 (x : Int), .int .i64 30] w fun e w' => e = .returned (.int .u32 (rot 30 x : Nat)) ∧ ∃ m, w' = w.drewN m := by
  have h := rot30_or x hx
  go_enter Tryd.func59, Tryd.ntmps59
  go_wp2_with fail
  go_region
  go_wp2
  go_ret
  exact ⟨rfl, 1, rfl⟩

theorem or_add {a b i : Nat} (h : b < 2 ^ i) : (a * 2 ^ i) ||| b = a * 2 ^ i + b := by
  rw [Nat.mul_comm, ← Nat.two_pow_add_eq_or_of_lt h]
theorem word_or {x0 x1 x2 x3 : Nat} (h1 : x1 < 256) (h2 : x2 < 256) (h3 : x3 < 256) : ((x0 * 16777216 ||| x1 * 65536) ||| x2 * 256) ||| x3 = word x0 x1 x2 x3 := by
  have e1 := @or_add x0 (x1 * 65536) 24 (by omega)
  have e2 := @or_add (x0 * 256 + x1) (x2 * 256) 16 (by omega)
  have e3 := @or_add ((x0 * 256 + x1) * 256 + x2) x3 8 (by omega)
  simp only [Nat.reducePow] at e1 e2 e3
  rw [e1, show x0 * 16777216 + x1 * 65536 = (x0 * 256 + x1) * 65536 by omega, e2, show (x0 * 256 + x1) * 65536 + x2 * 256 = ((x0 * 256 + x1) * 256 + x2) * 256 by omega, e3]
  unfold word; omega
theorem word_or' {x0 x1 x2 x3 : Nat} (h0 : x0 < 256) (h1 : x1 < 256) (h2 : x2 < 256) (h3 : x3 < 256) :
    bits .or .u32 (bits .or .u32 (bits .or .u32 ((x0 : Int) * 16777216) ((x1 : Int) * 65536)) ((x2 : Int) * 256)) (x3 : Int) = (word x0 x1 x2 x3 : Nat) := by
  have e1 : bits .or .u32 ((x0 : Int) * 16777216) ((x1 : Int) * 65536) = ((x0 * 16777216 ||| x1 * 65536 : Nat) : Int) := or32 (x0 * 16777216) (x1 * 65536) (by omega) (by omega)
  have l1 := @or_lt (x0 * 16777216) (x1 * 65536) (by omega) (by omega)
  have e2 : bits .or .u32 ((x0 * 16777216 ||| x1 * 65536 : Nat) : Int) ((x2 : Int) * 256) = (((x0 * 16777216 ||| x1 * 65536) ||| x2 * 256 : Nat) : Int) := or32 _ (x2 * 256) l1 (by omega)
  have e3 := or32 _ x3 (or_lt l1 (show x2 * 256 < 4294967296 by omega)) (by omega)
  rw [word_or h1 h2 h3] at e3
  rw [e1, e2]
  exact e3
theorem word_c (b off len cap x0 x1 x2 x3 : Nat) (w : World) (h0 : x0 < 256) (h1 : x1 < 256) (h2 : x2 < 256) (h3 : x3 < 256) (hl : 4 ≤ len)
    (c0 : w.cell? ⟨b, off, none⟩ = some (.int .u8 (x0 : Int))) (c1 : w.cell? ⟨b, off + 1, none⟩ = some (.int .u8 (x1 : Int))) (c2 : w.cell? ⟨b, off + 2, none⟩ = some (.int .u8 (x2 : Int))) (c3 : w.cell? ⟨b, off + 3, none⟩ = some (.int .u8 (x3 : Int))) :
    Calls Tryd.prog 71 #[.slice (some ⟨b, off, none⟩) len cap] w fun e w' => e = .returned (.int .u32 (word x0 x1 x2 x3 : Nat)) ∧ ∃ m, w' = w.drewN m := by
  go_enter Tryd.func71, Tryd.ntmps71
  go_wp2_with fail
  go_region
  go_wp2
  go_ret
  exact ⟨ret_int (word_or' h0 h1 h2 h3), 1, rfl⟩

theorem not32 (b : Nat) (hb : b < 4294967296) : bits .xor .u32 (if IntKind.u32.signed = true then -1 else IntKind.u32.max) (b : Int) = ((4294967295 ^^^ b : Nat) : Int) := xor32 4294967295 b (by omega) hb
theorem mix_c (t b c d : Nat) (hb : b < 4294967296) (hc : c < 4294967296) (hd : d < 4294967296) (w : World) :
    Calls Tryd.prog 69 #[.int .i64 (t : Int), .int .u32 (b : Int), .int .u32 (c : Int), .int .u32 (d : Int)] w fun e w' => e = .returned (.tuple #[.int .u32 (fF t b c d : Nat), .int .u32 (kF t : Nat)]) ∧ w' = w := by
  have hnb : 4294967295 ^^^ b < 4294967296 := xor_lt (by omega) hb
  have n1 := not32 b hb
  have a1 := and32 b c hb hc
  have a2 := and32 _ d hnb hd
  have o1 := or32 _ _ (@and_lt b c hc) (@and_lt (4294967295 ^^^ b) d hd)
  have x1 := xor32 b c hb hc
  have x2 := xor32 _ d (xor_lt hb hc) hd
  have a3 := and32 b d hb hd
  have a4 := and32 c d hc hd
  have o2 := or32 _ _ (@and_lt b c hc) (@and_lt b d hd)
  have o3 := or32 _ _ (or_lt (@and_lt b c hc) (@and_lt b d hd)) (@and_lt c d hd)
  by_cases h1 : t < 20
  · have hf : fF t b c d = (b &&& c) ||| ((4294967295 ^^^ b) &&& d) := if_pos h1
    have hk : kF t = 1518500249 := if_pos h1
    rw [hf, hk]
    clear hf hk
    have h1' : (t : Int) < 20 := by omega
    go_enter Tryd.func69, Tryd.ntmps69
    go_wp2
    go_ret2
    exact ⟨rfl, rfl⟩
  · have h1' : ¬ (t : Int) < 20 := by omega
    by_cases h2 : t < 40
    · have hf : fF t b c d = (b ^^^ c) ^^^ d := by unfold fF; rw [if_neg h1, if_pos h2]
      have hk : kF t = 1859775393 := by unfold kF; rw [if_neg h1, if_pos h2]
      rw [hf, hk]
      clear hf hk
      have h2' : (t : Int) < 40 := by omega
      go_enter Tryd.func69, Tryd.ntmps69
      go_wp2
      go_ret2
      exact ⟨rfl, rfl⟩
    · have h2' : ¬ (t : Int) < 40 := by omega
      by_cases h3 : t < 60
      · have hf : fF t b c d = ((b &&& c) ||| (b &&& d)) ||| (c &&& d) := by unfold fF; rw [if_neg h1, if_neg h2, if_pos h3]
        have hk : kF t = 2400959708 := by unfold kF; rw [if_neg h1, if_neg h2, if_pos h3]
        rw [hf, hk]
        clear hf hk
        have h3' : (t : Int) < 60 := by omega
        go_enter Tryd.func69, Tryd.ntmps69
        go_wp2
        go_ret2
        exact ⟨rfl, rfl⟩
      · have hf : fF t b c d = (b ^^^ c) ^^^ d := by unfold fF; rw [if_neg h1, if_neg h2, if_neg h3]
        have hk : kF t = 3395469782 := by unfold kF; rw [if_neg h1, if_neg h2, if_neg h3]
        rw [hf, hk]
        clear hf hk
        have h3' : ¬ (t : Int) < 60 := by omega
        go_enter Tryd.func69, Tryd.ntmps69
        go_wp2
        go_ret2
        exact ⟨rfl, rfl⟩
end Go.Proofs.YtgamfpgejkhbcaaDoor.S
