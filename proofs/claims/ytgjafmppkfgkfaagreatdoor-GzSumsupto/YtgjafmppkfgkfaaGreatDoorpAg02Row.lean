/- Several texts, laid together: Read, Row. -/
import Derived.Test.YtgjafmppkfgkfaaGreatDoorpAg00World
/- The reader of package bits: contracts of NewReader, Left, nextByte, Align, pieces and its closure. -/
namespace Go.Proofs.YtgjafmppkfgkfaaGreatDoor
set_option maxRecDepth 100000
open Go.RowKit

theorem newReader_any (a : Option Addr) (len cap : Nat) (w : World) :
    Calls Tryz.prog 85 #[.slice a len cap] w fun e w' => e = .returned (.pointer (some ⟨w.heap.size, 0, none⟩)) ∧ w' = w.alloc (.cells #[.slice a len cap, .int .i64 0] 167) := by
  go_enter Tryz.func85, Tryz.ntmps85
  go_wp2
  go_ret
  exact ⟨rfl, rfl⟩

theorem left_any (br : Nat) (a : Option Addr) (len cap : Nat) (pos : Int) (w : World) (h0 : w.cell? ⟨br, 0, none⟩ = some (.slice a len cap)) (h1 : w.cell? ⟨br, 1, none⟩ = some (.int .i64 pos)) (hl : len * 8 ≤ 9223372036854775807) (hp0 : 0 ≤ pos) (hp1 : pos ≤ len * 8) :
    Calls Tryz.prog 87 #[.pointer (some ⟨br, 0, none⟩)] w fun e w' => e = .returned (.int .i64 (len * 8 - pos)) ∧ ∃ n, w' = w.drewN n := by
  go_enter Tryz.func87, Tryz.ntmps87
  go_wp2
  go_quiet (fail)
  go_wp2
  go_ret
  exact ⟨ret_int rfl, _, rfl⟩

theorem nextByte_any (br : Nat) (pos : Int) (w : World) (h1 : w.cell? ⟨br, 1, none⟩ = some (.int .i64 pos)) (hp0 : 0 ≤ pos) (hp1 : pos ≤ 9223372036854775800) :
    Calls Tryz.prog 159 #[.pointer (some ⟨br, 0, none⟩)] w fun e w' => e = .returned (.int .i64 ((pos + 7) / 8)) ∧ w' = w := by
  go_enter Tryz.func159, Tryz.ntmps159
  go_wp2
  go_ret
  exact ⟨ret_int rfl, rfl⟩

theorem pieces_any (a : Option Addr) (len cap : Nat) (pos : Int) (w : World) :
    Calls Tryz.prog 158 #[.slice a len cap, .int .i64 pos] w fun e w' => e = .returned (.func (.func 174) #[] #[.pointer (some ⟨w.heap.size + 1, 0, none⟩), .pointer (some ⟨w.heap.size, 0, none⟩)]) ∧ w' = (w.alloc (.cells #[.slice a len cap] 22)).alloc (.cells #[.int .i64 pos] 3) := by
  have hmf : ∀ (fn : Fn) (first cap : Array Value) (w : World), (Instr.makeFunc fn first cap).run Tryz.prog w = .ok (.func fn first cap) w := fun _ _ _ _ => rfl
  go_enter Tryz.func158, Tryz.ntmps158
  go_wp2
  go_ret
  exact ⟨rfl, rfl⟩

theorem piece_any (ba bt b off : Nat) (len cap : Nat) (pos wanted x : Int) (w : World)
    (ha : w.cell? ⟨ba, 0, none⟩ = some (.int .i64 pos)) (hf : w.frozen? ⟨ba, 0, none⟩ = false) (ht : w.cell? ⟨bt, 0, none⟩ = some (.slice (some ⟨b, off, none⟩) len cap))
    (hx : w.cell? ⟨b, off + (pos / 8).toNat, none⟩ = some (.int .u8 x)) (hp0 : 0 ≤ pos) (hp1 : pos < len * 8) (hl : len * 8 ≤ 9223372036854775000) (hw0 : 1 ≤ wanted) (hw1 : wanted ≤ 24) (hx0 : 0 ≤ x) (hx1 : x ≤ 255) :
    Calls Tryz.prog 174 #[.int .i64 wanted, .pointer (some ⟨ba, 0, none⟩), .pointer (some ⟨bt, 0, none⟩)] w fun e w' => e = .returned (.tuple #[.int .i64 (x / 2 ^ (pos % 8).toNat % 2 ^ (min (8 - pos % 8) wanted).toNat), .int .i64 (min (8 - pos % 8) wanted)]) ∧ w' = w.setCell ⟨ba, 0, none⟩ (.int .i64 (pos + min (8 - pos % 8) wanted)) := by
  by_cases h : wanted < 8 - pos % 8
  · have e : min (8 - pos % 8) wanted = wanted := by omega
    rw [e]
    go_enter Tryz.func174, Tryz.ntmps174
    go_wp2_with (go_at_call 137; refine (low_any _ _ _ (by omega) (by omega)).mono ?_; rintro e w' ⟨rfl, rfl⟩)
    go_ret2
    exact ⟨rfl, rfl⟩
  · have e : min (8 - pos % 8) wanted = 8 - pos % 8 := by omega
    rw [e]
    have h' : 8 - pos % 8 ≤ wanted := by omega
    clear h e
    go_enter Tryz.func174, Tryz.ntmps174
    go_wp2_with (go_at_call 137; refine (low_any _ _ _ (by omega) (by omega)).mono ?_; rintro e w' ⟨rfl, rfl⟩)
    go_ret2
    exact ⟨rfl, rfl⟩

/-- The bytes 'zs' lie in memory below block B, where a slice of 'len' elements leads. -/
def Text (B : Nat) (w : World) (a : Option Addr) (len : Nat) (zs : List Int) : Prop :=
  zs.length = len ∧ (∀ i, 0 ≤ zs.getD i 0 ∧ zs.getD i 0 ≤ 255) ∧ (len = 0 ∨ ∃ b off, b < B ∧ a = some ⟨b, off, none⟩ ∧ ∀ i, i < len → w.cell? ⟨b, off + i, none⟩ = some (.int .u8 (zs.getD i 0)))

/-- Bit i of bytes. -/
def bitAt (zs : List Int) (i : Nat) : Int := zs.getD (i / 8) 0 / 2 ^ (i % 8) % 2

/-- The n bits from place p on, as a number. -/
def bitsVal (zs : List Int) (p : Nat) : Nat → Int
  | 0 => 0
  | k + 1 => bitsVal zs p k + bitAt zs (p + k) * 2 ^ k

theorem bitAt_bd (zs : List Int) (i : Nat) : 0 ≤ bitAt zs i ∧ bitAt zs i ≤ 1 := by unfold bitAt; omega

theorem bitsVal_bd (zs : List Int) (p k : Nat) : 0 ≤ bitsVal zs p k ∧ bitsVal zs p k < 2 ^ k := by
  induction k with
  | zero => simp [bitsVal]
  | succ k ih =>
    have h := bitAt_bd zs (p + k)
    have hp := pow_pos' k
    rw [bitsVal, Int.pow_succ]
    have : bitAt zs (p + k) = 0 ∨ bitAt zs (p + k) = 1 := by omega
    rcases this with e | e <;> rw [e] <;> omega

theorem bitsVal_add (zs : List Int) (p k l : Nat) : bitsVal zs p (k + l) = bitsVal zs p k + bitsVal zs (p + k) l * 2 ^ k := by
  induction l with
  | zero => simp [bitsVal]
  | succ l ih => rw [← Nat.add_assoc, bitsVal, ih, bitsVal, Int.add_mul, Int.add_assoc, Nat.add_assoc p k l, Int.mul_assoc (bitAt zs (p + (k + l))), ← Int.pow_add, Nat.add_comm l k]

theorem mod_pow_succ (x : Int) (l : Nat) : x % 2 ^ (l + 1) = x % 2 ^ l + x / 2 ^ l % 2 * 2 ^ l := by
  have hp := pow_pos' l
  have h1 := Int.emod_add_mul_ediv x (2 ^ l)
  have h2 := Int.emod_add_mul_ediv (x / 2 ^ l) 2
  have hr := Int.emod_nonneg x (show (2 : Int) ^ l ≠ 0 by omega)
  have hr2 := Int.emod_lt_of_pos x (show (0 : Int) < 2 ^ l by omega)
  have e : x = (x % 2 ^ l + x / 2 ^ l % 2 * 2 ^ l) + 2 ^ (l + 1) * (x / 2 ^ l / 2) := by
    have e1 : (2 : Int) ^ (l + 1) * (x / 2 ^ l / 2) = 2 ^ l * (2 * (x / 2 ^ l / 2)) := by rw [Int.pow_succ, Int.mul_assoc]
    have e2 : x / 2 ^ l % 2 * 2 ^ l + 2 ^ l * (2 * (x / 2 ^ l / 2)) = 2 ^ l * (x / 2 ^ l) := by
      rw [Int.mul_comm (x / 2 ^ l % 2), ← Int.mul_add, h2]
    rw [e1, Int.add_assoc, e2, h1]
  have hlt : x % 2 ^ l + x / 2 ^ l % 2 * 2 ^ l < 2 ^ (l + 1) := by
    rw [Int.pow_succ]
    have : x / 2 ^ l % 2 = 0 ∨ x / 2 ^ l % 2 = 1 := by omega
    rcases this with e | e <;> rw [e] <;> omega
  have hge : 0 ≤ x % 2 ^ l + x / 2 ^ l % 2 * 2 ^ l := by
    have : x / 2 ^ l % 2 = 0 ∨ x / 2 ^ l % 2 = 1 := by omega
    rcases this with e | e <;> rw [e] <;> omega
  conv => lhs; rw [e]
  rw [Int.add_mul_emod_self_left, Int.emod_eq_of_lt hge hlt]

theorem bitsVal_byte (zs : List Int) (i l : Nat) (h : l ≤ 8 - i % 8) : bitsVal zs i l = zs.getD (i / 8) 0 / 2 ^ (i % 8) % 2 ^ l := by
  induction l with
  | zero => simp [bitsVal]
  | succ l ih =>
    rw [bitsVal, ih (by omega), mod_pow_succ]
    congr 2
    unfold bitAt
    rw [show (i + l) / 8 = i / 8 by omega, show (i + l) % 8 = i % 8 + l by omega, Int.ediv_ediv_of_nonneg (by have := pow_pos' (i % 8); omega), ← Int.pow_add]

theorem Text.kept {B : Nat} {M : Nat → Prop} {w w' : World} {a : Option Addr} {len : Nat} {zs : List Int} (h : Text B w a len zs) (k : Kept M w w') (hn : ∀ b, b < B → ¬ M b) : Text B w' a len zs := by
  obtain ⟨h1, h2, h3⟩ := h
  refine ⟨h1, h2, ?_⟩
  rcases h3 with h3 | ⟨b, off, hb, ha, hc⟩
  · exact .inl h3
  · exact .inr ⟨b, off, hb, ha, fun i hi => (k.cell (lt_of_cell (hc i hi)) (hn b hb)).trans (hc i hi)⟩

theorem bits_no (br : Nat) (a : Option Addr) (len cap p : Nat) (n : Int) (w : World) (hb : w.heap[br]? = some (.cells #[.slice a len cap, .int .i64 (p : Int)] 167 (0, 0)))
    (hl : len * 8 ≤ 9223372036854775000) (hp : p ≤ len * 8) (hn : n < 0 ∨ 24 < n ∨ (len : Int) * 8 - p < n) :
    Calls Tryz.prog 125 #[.pointer (some ⟨br, 0, none⟩), .int .i64 n] w fun e w' => e = .returned (.tuple #[.int .i64 0, .bool false]) ∧ ∃ k, w' = w.drewN k := by
  have c0 := cells_of hb 0
  have c1 := cells_of hb 1
  simp at c0 c1
  by_cases hf : n < 0 ∨ 24 < n
  · go_enter Tryz.func125, Tryz.ntmps125
    go_wp2_with (go_at_call 136; refine (fits_no _ _ hf).mono ?_; rintro e w' ⟨rfl, rfl⟩)
    go_ret2
    exact ⟨rfl, 0, rfl⟩
  · have h0 : 0 ≤ n := by omega
    have h1 : n ≤ 24 := by omega
    have h2 : (len : Int) * 8 - p < n := by omega
    clear hn hf
    go_enter Tryz.func125, Tryz.ntmps125
    go_wp2_with (first | (go_at_call 136; refine (fits_yes _ _ h0 h1).mono ?_; rintro e w' ⟨rfl, rfl⟩) | (go_at_call 87; refine (left_any br a len cap p _ (by assumption) (by assumption) (by omega) (by omega) (by omega)).mono ?_; rintro e w' ⟨rfl, q, rfl⟩))
    go_ret2
    exact ⟨rfl, _, rfl⟩

end Go.Proofs.YtgjafmppkfgkfaaGreatDoor

/- Rows of bits as lists: the n lowest bits of a number, the bits of bytes. No Go text in sight. -/
namespace Go.Proofs.YtgjafmppkfgkfaaGreatDoor
set_option maxRecDepth 100000
open Go.RowKit

/-- The n lowest bits of a number, the lowest first. -/
def bitsN (x : Int) : Nat → List Int
  | 0 => []
  | n + 1 => bitsN x n ++ [x / 2 ^ n % 2]

theorem bitsN_length (x : Int) (n : Nat) : (bitsN x n).length = n := by
  induction n with
  | zero => rfl
  | succ n ih => simp [bitsN, ih]

theorem div_pow_add (x : Int) (m n : Nat) : x / 2 ^ m / 2 ^ n = x / 2 ^ (m + n) := by
  rw [Int.ediv_ediv_of_nonneg (by have := pow_pos' m; omega), ← Int.pow_add]

theorem bitsN_add (x : Int) (m n : Nat) : bitsN x (m + n) = bitsN x m ++ bitsN (x / 2 ^ m) n := by
  induction n with
  | zero => simp [bitsN]
  | succ n ih => rw [← Nat.add_assoc, bitsN, ih, bitsN, div_pow_add, List.append_assoc]

theorem bitsN_mod (x : Int) (n m : Nat) (h : n ≤ m) : bitsN (x % 2 ^ m) n = bitsN x n := by
  induction n with
  | zero => rfl
  | succ n ih => rw [bitsN, bitsN, ih (by omega), bit_mod x m n (by omega)]

theorem bitsN_join (t v : Int) (m n : Nat) (h0 : 0 ≤ t) (h : t < 2 ^ m) : bitsN (t + v % 2 ^ n * 2 ^ m) (m + n) = bitsN t m ++ bitsN v n := by
  have hp := pow_pos' m
  rw [bitsN_add]
  have e1 : (t + v % 2 ^ n * 2 ^ m) / 2 ^ m = v % 2 ^ n := by
    rw [Int.add_mul_ediv_right _ _ (by omega), Int.ediv_eq_zero_of_lt h0 h]; omega
  have e2 : (t + v % 2 ^ n * 2 ^ m) % 2 ^ m = t := by
    rw [Int.add_mul_emod_self_right, Int.emod_eq_of_lt h0 h]
  rw [e1, bitsN_mod v n n (Nat.le_refl _), ← bitsN_mod _ m m (Nat.le_refl _), e2]

/-- The bits of bytes. -/
def rowOf (bs : List Int) : List Int := bs.flatMap fun x => bitsN x 8

theorem rowOf_append (a b : List Int) : rowOf (a ++ b) = rowOf a ++ rowOf b := by simp [rowOf]
theorem rowOf_one (x : Int) : rowOf [x] = bitsN x 8 := by simp [rowOf]
theorem rowOf_length (bs : List Int) : (rowOf bs).length = 8 * bs.length := by
  induction bs with
  | nil => rfl
  | cons x r ih =>
    have e : rowOf (x :: r) = bitsN x 8 ++ rowOf r := by simp [rowOf]
    rw [e, List.length_append, bitsN_length, ih, List.length_cons]; omega

theorem row_step (bs : List Int) (t : Int) (m : Nat) (h : 8 ≤ m) : rowOf bs ++ bitsN t m = rowOf (bs ++ [t % 256]) ++ bitsN (t / 256) (m - 8) := by
  have e : m = 8 + (m - 8) := by omega
  conv => lhs; rw [e, bitsN_add]
  rw [rowOf_append, rowOf_one, List.append_assoc]
  have h1 := bitsN_mod t 8 8 (Nat.le_refl _)
  have e2 : (2 : Int) ^ 8 = 256 := by decide
  rw [e2] at h1 ⊢
  rw [h1]

#print axioms row_step
end Go.Proofs.YtgjafmppkfgkfaaGreatDoor
