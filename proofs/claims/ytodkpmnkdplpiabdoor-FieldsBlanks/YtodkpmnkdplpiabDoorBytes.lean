/- PROVED: bytes as they lie in memory ('Bs'); contracts of the functions that go through a slice of bytes: Le, highestFirst, and the reference's Le. -/
import Derived.Test.YtodkpmnkdplpiabDoorStr
namespace Go.Proofs.YtodkpmnkdplpiabDoor
open Go Go.RowKit

/-- The bytes xs lie where the slice says. -/
def Bs (w : World) (v : Value) (xs : List UInt8) : Prop :=
  (xs = [] ∧ ∃ a c, v = .slice a 0 c) ∨ ∃ b o c, v = .slice (some ⟨b, o, none⟩) xs.length c ∧ xs.length ≤ c ∧ ∀ i, i < xs.length → w.cell? ⟨b, o + i, none⟩ = some (.int .u8 ((xs.getD i 0).toNat : Nat))
def At (w : World) (b o : Nat) (xs : List UInt8) : Prop := ∀ i, i < xs.length → w.cell? ⟨b, o + i, none⟩ = some (.int .u8 ((xs.getD i 0).toNat : Nat))

theorem or_le (xs : List UInt8) (k : Nat) (hk : k < xs.length) (h8 : k < 8) : bits .or .u64 (leN (xs.take k) : Nat) (IntKind.u64.wrap (IntKind.u64.wrap ((xs.getD k 0).toNat : Nat) * 2 ^ (8 * k))) = (leN (xs.take (k + 1)) : Nat) := by
  have hlt := leN_lt (xs.take k)
  rw [List.length_take, Nat.min_eq_left (by omega)] at hlt
  have h2 : (256 : Nat) ^ k = 2 ^ (8 * k) := by rw [Nat.pow_mul]
  have hq := (xs.getD k 0).toNat_lt
  have hq2 : (xs.getD k 0).toNat < 256 := hq
  rw [leN_take xs k hk, h2, Nat.mul_comm (2 ^ (8 * k))]
  rw [h2] at hlt
  generalize (xs.getD k 0).toNat = q at hq2
  generalize leN (xs.take k) = A at hlt
  have hp : (2 : Nat) ^ (8 * k) ≤ 2 ^ 56 := Nat.pow_le_pow_right (by decide) (by omega)
  have hb : q * 2 ^ (8 * k) ≤ 255 * 2 ^ 56 := Nat.mul_le_mul (by omega) hp
  have e1 : (2 : Nat) ^ 56 = 72057594037927936 := by decide
  rw [e1] at hp hb
  have e2 : IntKind.u64.wrap (IntKind.u64.wrap (q : Int) * 2 ^ (8 * k)) = ((q * 2 ^ (8 * k) : Nat) : Int) := by
    have e4 : IntKind.u64.wrap (q : Int) = q := by rw [IntKind.wrap_u64]; omega
    have e3 : ((2 ^ (8 * k) : Nat) : Int) = (2 : Int) ^ (8 * k) := by simp
    rw [e4, ← e3, ← Int.natCast_mul, IntKind.wrap_u64]
    omega
  rw [e2]
  show IntKind.u64.wrap (((BitVec.ofInt 64 (A : Int) ||| BitVec.ofInt 64 ((q * 2 ^ (8 * k) : Nat) : Int)).toNat : Nat) : Int) = _
  rw [BitVec.toNat_or, ofInt_u64 A (by omega), ofInt_u64 _ (by omega), Nat.or_comm, nat_join (8 * k) (q * 2 ^ (8 * k)) A (by simp) hlt, IntKind.wrap_u64]
  omega

set_option maxRecDepth 100000 in
theorem le_some (b o c : Nat) (xs : List UInt8) (hc : xs.length ≤ c) (hl : xs.length ≤ 9223372036854775807) (w : World) (hA : At w b o xs) :
    Calls Tryd.prog 9 #[.slice (some ⟨b, o, none⟩) xs.length c] w fun e w' => e = .returned (.int .u64 (leN (xs.take 8) : Nat)) ∧ w' = w := by
  obtain ⟨n, hn⟩ : ∃ n, n = xs.length := ⟨_, rfl⟩
  rw [← hn] at hc hl ⊢
  have HN : Hid (n = xs.length) := hn
  have HA : Hid (At w b o xs) := hA
  obtain ⟨D, hD⟩ : ∃ D, leN (xs.take 8) = D := ⟨_, rfl⟩
  rw [hD]
  have HD : Hid (leN (xs.take 8) = D) := hD
  clear hn hA hD
  by_cases h8 : n ≤ 8
  · have h8i : (n : Int) ≤ 8 := by omega
    go_enter Tryd.func9, Tryd.ntmps9
    go_wp2_with fail
    go_loop [3, 12] (fun x y => ∃ k : Nat, x = .int .u64 (leN (xs.take k) : Nat) ∧ y = .int .i64 (k : Int) ∧ k ≤ n) (fun _ y => n - (intOf y).toNat)
    case atStart => exact ⟨0, rfl, rfl, by omega⟩
    case round =>
      obtain ⟨k, rfl, rfl, hk⟩ := hrel
      by_cases h : k < n
      · have hkl : k < xs.length := by have := HN.out; omega
        have hcell := HA.out k hkl
        have hor := or_le xs k hkl (by omega)
        obtain ⟨q, hq⟩ : ∃ q, (xs.getD k 0).toNat = q := ⟨_, rfl⟩
        obtain ⟨A, hA⟩ : ∃ A, leN (xs.take k) = A := ⟨_, rfl⟩
        obtain ⟨A2, hA2⟩ : ∃ A, leN (xs.take (k + 1)) = A := ⟨_, rfl⟩
        rw [hq] at hcell hor
        rw [hA] at hor ⊢
        rw [hA2] at hor
        have HA2 : Hid (leN (xs.take (k + 1)) = A2) := hA2
        clear hq hA hA2 hkl
        go_wp2_with fail
        go_round
        case rel => exact ⟨k + 1, by rw [HA2.out], rfl, by omega⟩
        case measure => simp [intOf]; omega
      · have hkm : k = n := by omega
        have HD2 : Hid (leN (xs.take k) = D) := by
          rw [hkm]
          rw [← HD.out]; exact congrArg leN (by rw [HN.out, List.take_of_length_le (Nat.le_refl _), List.take_of_length_le (by have := HN.out; omega)])
        clear hkm
        go_wp2_with fail
        go_ret
        exact ⟨by rw [← HD2.out]; rfl, rfl⟩
  · have h8i : ¬ (n : Int) ≤ 8 := by omega
    have h8j : 8 ≤ n := by omega
    go_enter Tryd.func9, Tryd.ntmps9
    go_wp2_with fail
    go_loop [3, 12] (fun x y => ∃ k : Nat, x = .int .u64 (leN (xs.take k) : Nat) ∧ y = .int .i64 (k : Int) ∧ k ≤ 8) (fun _ y => 8 - (intOf y).toNat)
    case atStart => exact ⟨0, rfl, rfl, by omega⟩
    case round =>
      obtain ⟨k, rfl, rfl, hk⟩ := hrel
      by_cases h : k < 8
      · have hkl : k < xs.length := by have := HN.out; omega
        have hcell := HA.out k hkl
        have hor := or_le xs k hkl (by omega)
        obtain ⟨q, hq⟩ : ∃ q, (xs.getD k 0).toNat = q := ⟨_, rfl⟩
        obtain ⟨A, hA⟩ : ∃ A, leN (xs.take k) = A := ⟨_, rfl⟩
        obtain ⟨A2, hA2⟩ : ∃ A, leN (xs.take (k + 1)) = A := ⟨_, rfl⟩
        rw [hq] at hcell hor
        rw [hA] at hor ⊢
        rw [hA2] at hor
        have HA2 : Hid (leN (xs.take (k + 1)) = A2) := hA2
        clear hq hA hA2 hkl
        go_wp2_with fail
        go_round
        case rel => exact ⟨k + 1, by rw [HA2.out], rfl, by omega⟩
        case measure => simp [intOf]; omega
      · have hkm : k = 8 := by omega
        have HD2 : Hid (leN (xs.take k) = D) := by
          rw [hkm]
          rw [← HD.out]; exact congrArg leN (rfl)
        clear hkm
        go_wp2_with fail
        go_ret
        exact ⟨by rw [← HD2.out]; rfl, rfl⟩

theorem le_none (a : Option Addr) (c : Nat) (w : World) :
    Calls Tryd.prog 9 #[.slice a 0 c] w fun e w' => e = .returned (.int .u64 0) ∧ w' = w := by
  go_enter Tryd.func9, Tryd.ntmps9
  go_wp2_with fail
  go_loop [3, 12] (fun z x => z = .int .u64 0 ∧ x = .int .i64 0) (fun _ _ => 0)
  case atStart => exact ⟨rfl, rfl⟩
  case round =>
    obtain ⟨rfl, rfl⟩ := hrel
    go_wp2_with fail
    go_ret
    exact ⟨rfl, rfl⟩
theorem le_c (v : Value) (xs : List UInt8) (hl : xs.length ≤ 9223372036854775807) (w : World) (h : Bs w v xs) :
    Calls Tryd.prog 9 #[v] w fun e w' => e = .returned (.int .u64 (leN (xs.take 8) : Nat)) ∧ w' = w := by
  rcases h with ⟨rfl, a, c, rfl⟩ | ⟨b, o, c, rfl, hc, hA⟩
  · exact le_none a c w
  · exact le_some b o c xs hc hl w hA

theorem drop_getD (xs : List UInt8) (k : Nat) (h : k < xs.length) : xs.drop k = xs.getD k 0 :: xs.drop (k + 1) := by
  rw [List.drop_eq_getElem_cons h]
  simp [List.getD, h]

set_option maxRecDepth 100000 in
theorem high_some (b o c : Nat) (xs : List UInt8) (hl : xs.length ≤ 9223372036854775807) (w : World) (hA : At w b o xs) :
    Calls Tryd.prog 13 #[.slice (some ⟨b, o, none⟩) xs.length c] w fun e w' => e = .returned (.int .u64 (high xs 0 : Nat)) ∧ w' = w := by
  obtain ⟨n, hn⟩ : ∃ n, n = xs.length := ⟨_, rfl⟩
  rw [← hn] at hl ⊢
  have HN : Hid (n = xs.length) := hn
  have HA : Hid (At w b o xs) := hA
  obtain ⟨D, hD⟩ : ∃ D, high xs 0 = D := ⟨_, rfl⟩
  rw [hD]
  have HD : Hid (high xs 0 = D) := hD
  clear hn hA hD
  go_enter Tryd.func13, Tryd.ntmps13
  go_wp2_with fail
  go_loop [3, 8] (fun x y => ∃ k v : Nat, x = .int .u64 (v : Int) ∧ y = .int .i64 (k : Int) ∧ k ≤ n ∧ v < 18446744073709551616 ∧ Hid (high (xs.drop k) v = D)) (fun _ y => n - (intOf y).toNat)
  case atStart => exact ⟨0, 0, rfl, rfl, by omega, by omega, HD.out⟩
  case round =>
    obtain ⟨k, v, rfl, rfl, hk, hv, hI⟩ := hrel
    by_cases h : k < n
    · have hkl : k < xs.length := by have := HN.out; omega
      have hcell := HA.out k hkl
      have hI2 := hI.out
      rw [drop_getD xs k hkl] at hI2
      have hq : (xs.getD k 0).toNat < 256 := (xs.getD k 0).toNat_lt
      obtain ⟨q, hq0⟩ : ∃ q, (xs.getD k 0).toNat = q := ⟨_, rfl⟩
      simp only [high] at hI2
      rw [hq0] at hq hcell hI2
      have hL := lay_c v 256 q hv (.inr (.inr rfl)) hq
      have hlt : lay v 256 q < 18446744073709551616 := Nat.lt_of_lt_of_le (lay_lt (b := 256) (by omega) hq (by omega)) (by omega)
      have HI2 : Hid (high (xs.drop (k + 1)) (lay v 256 q) = D) := hI2
      generalize lay v 256 q = L at hL hlt HI2
      clear hI2 hI hq0 hkl
      go_wp2_with (go_at_call 25; refine (hL _).mono ?_; rintro e w2 ⟨rfl, rfl⟩)
      go_round
      case rel => exact ⟨k + 1, L, rfl, rfl, by omega, hlt, HI2⟩
      case measure => simp [intOf]; omega
    · have HD2 : Hid (v = D) := by
        have := hI.out
        rw [List.drop_of_length_le (by have := HN.out; omega)] at this
        exact this
      clear hI
      go_wp2_with fail
      go_ret
      exact ⟨by rw [← HD2.out]; rfl, rfl⟩
theorem high_none (a : Option Addr) (c : Nat) (w : World) :
    Calls Tryd.prog 13 #[.slice a 0 c] w fun e w' => e = .returned (.int .u64 0) ∧ w' = w := by
  go_enter Tryd.func13, Tryd.ntmps13
  go_wp2_with fail
  go_loop [3, 8] (fun z x => z = .int .u64 0 ∧ x = .int .i64 0) (fun _ _ => 0)
  case atStart => exact ⟨rfl, rfl⟩
  case round =>
    obtain ⟨rfl, rfl⟩ := hrel
    go_wp2_with fail
    go_ret
    exact ⟨rfl, rfl⟩
theorem high_c (v : Value) (xs : List UInt8) (hl : xs.length ≤ 9223372036854775807) (w : World) (h : Bs w v xs) :
    Calls Tryd.prog 13 #[v] w fun e w' => e = .returned (.int .u64 (high xs 0 : Nat)) ∧ w' = w := by
  rcases h with ⟨rfl, a, c, rfl⟩ | ⟨b, o, c, rfl, hc, hA⟩
  · exact high_none a c w
  · exact high_some b o c xs hl w hA
end Go.Proofs.YtodkpmnkdplpiabDoor
