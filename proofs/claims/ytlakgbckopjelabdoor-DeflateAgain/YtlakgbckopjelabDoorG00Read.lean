/- Several texts, laid together: Math, Pure, World, Read. -/
import Derived.Test.YtlakgbckopjelabDoorRows
import Derived.WalkKit
import Derived.Deep.QuietTactic
import Derived.BigQuiet
import Derived.Deep.RegionHeld3
import Derived.Deep.AppendLies
import Derived.OneCell
/- Plain arithmetic of int's bit operations: masks, joins by 'or', powers of two below 2^62. No Go text in sight. -/
namespace Go.Proofs.YtlakgbckopjelabDoor
set_option maxRecDepth 100000
open Go.RowKit

theorem pow_le_62 {n : Nat} (hn : n ≤ 62) : (2 : Int) ^ n ≤ 4611686018427387904 := by
  have : (2 : Nat) ^ n ≤ 2 ^ 62 := Nat.pow_le_pow_right (by decide) hn
  have h2 : ((2 ^ n : Nat) : Int) ≤ ((2 ^ 62 : Nat) : Int) := by exact_mod_cast this
  simpa using h2
theorem pow_pos' (n : Nat) : (1 : Int) ≤ 2 ^ n := by
  have : 0 < (2 : Nat) ^ n := Nat.two_pow_pos n
  have h2 : ((1 : Nat) : Int) ≤ ((2 ^ n : Nat) : Int) := by exact_mod_cast this
  simpa using h2
theorem wrap_pow {n : Nat} (hn : n ≤ 62) : wrap64 (2 ^ n) = 2 ^ n := IntWalk.wrap64_in _ ⟨by have := pow_pos' n; omega, by have := pow_le_62 hn; omega⟩

theorem wrap_i64_small (x : Nat) (h : x < 9223372036854775808) : IntKind.i64.wrap (x : Int) = x := by
  rw [IntKind.wrap_i64]; omega

theorem ofInt_nat (a : Nat) (ha : a < 18446744073709551616) : (BitVec.ofInt 64 (a : Int)).toNat = a := ofInt_u64 a ha

theorem and_mask (v : Int) (n : Nat) (hn : n ≤ 62) : bits .and .i64 v (2 ^ n - 1) = v % 2 ^ n := by
  have hp := Nat.two_pow_pos n
  have hle : (2 : Nat) ^ n ≤ 2 ^ 62 := Nat.pow_le_pow_right (by decide) hn
  have e1 : ((2 : Int) ^ n - 1) = ((2 ^ n - 1 : Nat) : Int) := by
    have : ((2 ^ n : Nat) : Int) = (2 : Int) ^ n := by simp
    omega
  have hb : (BitVec.ofInt 64 ((2 : Int) ^ n - 1)).toNat = 2 ^ n - 1 := by
    rw [e1]; exact ofInt_nat _ (by omega)
  have ha : (BitVec.ofInt 64 v).toNat = (v % 18446744073709551616).toNat := by simp [BitVec.toNat_ofInt]
  have hd : (v % 18446744073709551616) % 2 ^ n = v % 2 ^ n := by
    apply Int.emod_emod_of_dvd
    have : (18446744073709551616 : Int) = 2 ^ n * 2 ^ (64 - n) := by
      rw [← Int.pow_add, show n + (64 - n) = 64 by omega]; rfl
    exact ⟨_, this⟩
  show IntKind.i64.wrap (((BitVec.ofInt 64 v &&& BitVec.ofInt 64 (2 ^ n - 1)).toNat : Nat) : Int) = _
  rw [BitVec.toNat_and, ha, hb, Nat.and_two_pow_sub_one_eq_mod]
  have h0 : 0 ≤ v % 18446744073709551616 := by omega
  have e2 : (((v % 18446744073709551616).toNat % 2 ^ n : Nat) : Int) = v % 2 ^ n := by
    rw [← hd]; push_cast; rw [Int.toNat_of_nonneg h0]
  have hlt : (v % 18446744073709551616).toNat % 2 ^ n < 2 ^ n := Nat.mod_lt _ hp
  rw [wrap_i64_small _ (by omega), e2]

theorem and_one (v : Int) : bits .and .i64 v 1 = v % 2 := by
  have := and_mask v 1 (by decide)
  simpa using this

/-- What lies below 2^n, 'or' what is a multiple of it: the sum. -/
theorem or_add (a b : Int) (n : Nat) (ha0 : 0 ≤ a) (ha : a < 2 ^ n) (hb0 : 0 ≤ b) (hb : b * 2 ^ n < 4611686018427387904) (hn : n ≤ 62) : bits .or .i64 a (b * 2 ^ n) = a + b * 2 ^ n := by
  have hp := Nat.two_pow_pos n
  have hpl := pow_le_62 hn
  have hpp := pow_pos' n
  obtain ⟨A, rfl⟩ := Int.eq_ofNat_of_zero_le ha0
  obtain ⟨B, rfl⟩ := Int.eq_ofNat_of_zero_le hb0
  have e : ((2 ^ n : Nat) : Int) = (2 : Int) ^ n := by simp
  have hA : A < 2 ^ n := by rw [← e] at ha; exact_mod_cast ha
  have e1 : ((B : Int) * 2 ^ n) = ((B * 2 ^ n : Nat) : Int) := by rw [← e, Int.natCast_mul]
  have hB : B * 2 ^ n < 4611686018427387904 := by rw [e1] at hb; exact Int.ofNat_lt.mp hb
  have hA2 : A < 18446744073709551616 := by have : (2 : Nat) ^ n ≤ 2 ^ 62 := Nat.pow_le_pow_right (by decide) hn; omega
  rw [e1]
  show IntKind.i64.wrap (((BitVec.ofInt 64 (A : Int) ||| BitVec.ofInt 64 ((B * 2 ^ n : Nat) : Int)).toNat : Nat) : Int) = _
  rw [BitVec.toNat_or, ofInt_nat A hA2, ofInt_nat _ (by omega), Nat.or_comm, nat_join n (B * 2 ^ n) A (by simp) hA, wrap_i64_small _ (by have : (2 : Nat) ^ n ≤ 2 ^ 62 := Nat.pow_le_pow_right (by decide) hn; omega)]
  exact Int.natCast_add _ _ |>.trans (Int.add_comm _ _)

theorem or_add_low (a b : Int) (n : Nat) (ha0 : 0 ≤ a) (ha : a < 2 ^ n) (hb0 : 0 ≤ b) (hb : b * 2 ^ n < 4611686018427387904) (hn : n ≤ 62) : bits .or .i64 (b * 2 ^ n) a = b * 2 ^ n + a := by
  have h := or_add a b n ha0 ha hb0 hb hn
  have c : bits .or .i64 (b * 2 ^ n) a = bits .or .i64 a (b * 2 ^ n) := by simp only [bits, BitVec.or_comm]
  rw [c, h]; omega

#print axioms and_mask
#print axioms or_add_low
end Go.Proofs.YtlakgbckopjelabDoor

/- The pure functions of package bits and of its reference: which counts fit, the lowest bits, one bit. -/
namespace Go.Proofs.YtlakgbckopjelabDoor
set_option maxRecDepth 100000
open Go.RowKit

theorem ret_int {k : IntKind} {a b : Int} (h : a = b) : Ending.returned (.int k a) = .returned (.int k b) := by rw [h]

theorem fits_yes (n : Int) (w : World) (h0 : 0 ≤ n) (h1 : n ≤ 24) :
    Calls Tryd.prog 47 #[.int .i64 n] w fun e w' => e = .returned (.bool true) ∧ w' = w := by
  go_enter Tryd.func47, Tryd.ntmps47
  go_wp2
  go_ret
  exact ⟨rfl, rfl⟩

theorem low_any (v n : Int) (w : World) (h0 : 0 ≤ n) (h1 : n ≤ 24) :
    Calls Tryd.prog 48 #[.int .i64 v, .int .i64 n] w fun e w' => e = .returned (.int .i64 (v % 2 ^ n.toNat)) ∧ w' = w := by
  have e1 : wrap64 (2 ^ n.toNat) = 2 ^ n.toNat := wrap_pow (by omega)
  have e2 : wrap64 (2 ^ n.toNat - 1) = 2 ^ n.toNat - 1 := IntWalk.wrap64_in _ ⟨by have := pow_pos' n.toNat; omega, by have := @pow_le_62 n.toNat (by omega); omega⟩
  have e3 := and_mask v n.toNat (by omega)
  go_enter Tryd.func48, Tryd.ntmps48
  go_wp2
  go_ret
  exact ⟨ret_int rfl, rfl⟩

/-- The first k bits of v, the other way round. -/
def turnI (v : Int) : Nat → Int
  | 0 => 0
  | k + 1 => 2 * turnI v k + v / 2 ^ k % 2

theorem turnI_bd (v : Int) (k : Nat) : 0 ≤ turnI v k ∧ turnI v k < 2 ^ k := by
  induction k with
  | zero => simp [turnI]
  | succ k ih => rw [turnI, Int.pow_succ]; omega

theorem pow_le_24 {k : Nat} (h : k ≤ 24) : (2 : Int) ^ k ≤ 16777216 := by
  have : (2 : Nat) ^ k ≤ 2 ^ 24 := Nat.pow_le_pow_right (by decide) h
  have h2 : ((2 ^ k : Nat) : Int) ≤ ((2 ^ 24 : Nat) : Int) := by exact_mod_cast this
  simpa using h2

theorem turn_join (v : Int) (k : Nat) (h : k ≤ 24) : bits .or .i64 (turnI v k * 2) (bits .and .i64 (v / 2 ^ k) 1) = turnI v (k + 1) := by
  have hb := turnI_bd v k
  have hq := pow_le_24 h
  rw [and_one]
  have := or_add_low (v / 2 ^ k % 2) (turnI v k) 1 (by omega) (by omega) (by omega) (by omega) (by omega)
  simp only [Int.pow_one] at this
  rw [this, turnI]; omega

theorem div_pow_succ (v : Int) (k : Nat) : v / 2 ^ k / 2 = v / 2 ^ (k + 1) := by
  rw [Int.pow_succ, Int.ediv_ediv_of_nonneg (by have := pow_pos' k; omega)]

theorem turn_yes (v n : Int) (w : World) (h0 : 0 ≤ n) (h1 : n ≤ 24) :
    Calls Tryd.prog 78 #[.int .i64 v, .int .i64 n] w fun e w' => e = .returned (.int .i64 (turnI v n.toNat)) ∧ w' = w := by
  go_enter Tryd.func78, Tryd.ntmps78
  go_wp2_with (go_at_call 47; refine (fits_yes _ _ h0 h1).mono ?_; rintro e w' ⟨rfl, rfl⟩)
  go_loop [0, 5, 10] (fun x t i => ∃ k : Nat, (k : Int) ≤ n ∧ i = .int .i64 k ∧ t = .int .i64 (turnI v k) ∧ x = .int .i64 (v / 2 ^ k)) (fun _ _ i => n.toNat - (intOf i).toNat)
  case atStart => exact ⟨0, by omega, rfl, rfl, by simp⟩
  case round =>
    obtain ⟨k, hk, rfl, rfl, rfl⟩ := hrel
    have hb := turnI_bd v k
    have hq := @pow_le_24 k (by omega)
    by_cases hlt : (k : Int) < n
    · go_wp2
      go_round
      case rel => exact ⟨k + 1, by omega, by go_num, by rw [turn_join v k (by omega)], by rw [div_pow_succ]⟩
      case measure => simp [intOf]; omega
    · go_wp2
      go_ret
      exact ⟨ret_int (by congr 1; omega), rfl⟩

theorem bit_mod (v : Int) (n j : Nat) (h : j < n) : v % 2 ^ n / 2 ^ j % 2 = v / 2 ^ j % 2 := by
  have hp := pow_pos' j
  have e : (2 : Int) ^ n = 2 ^ j * (2 * 2 ^ (n - j - 1)) := by
    rw [← Int.pow_succ', ← Int.pow_add, show j + (n - j - 1 + 1) = n by omega]
  have d := Int.emod_add_mul_ediv v (2 ^ n)
  have e2 : v = v % 2 ^ n + 2 ^ j * (2 * (2 ^ (n - j - 1) * (v / 2 ^ n))) := by
    have : 2 ^ j * (2 * (2 ^ (n - j - 1) * (v / 2 ^ n))) = 2 ^ n * (v / 2 ^ n) := by rw [e]; simp [Int.mul_assoc]
    rw [this]; exact d.symm
  have e3 : v / 2 ^ j = v % 2 ^ n / 2 ^ j + 2 * (2 ^ (n - j - 1) * (v / 2 ^ n)) := by
    conv => lhs; rw [e2]
    rw [Int.add_mul_ediv_left _ _ (by omega)]
  rw [e3]; omega

theorem turn_bit (v : Int) (n j : Nat) (h : j < n) : turnI v n / 2 ^ j % 2 = v / 2 ^ (n - 1 - j) % 2 := by
  induction n generalizing j with
  | zero => omega
  | succ n ih =>
    rw [turnI]
    cases j with
    | zero => simp
    | succ j =>
      have e : (2 * turnI v n + v / 2 ^ n % 2) / 2 ^ (j + 1) = turnI v n / 2 ^ j := by
        rw [Int.pow_succ', ← Int.ediv_ediv_of_nonneg (by omega)]
        congr 1; omega
      rw [e, ih j (by omega)]
      congr 3; omega

theorem turn_twice_up (v : Int) (n m : Nat) (h : m ≤ n) : turnI (turnI v n) m = v % 2 ^ n / 2 ^ (n - m) := by
  induction m with
  | zero =>
    have hp := pow_pos' n
    simp only [turnI, Nat.sub_zero]
    rw [Int.ediv_eq_zero_of_lt (Int.emod_nonneg _ (by omega)) (Int.emod_lt_of_pos _ (by omega))]
  | succ m ih =>
    rw [turnI, ih (by omega), turn_bit v n m (by omega), show n - m = (n - 1 - m) + 1 by omega, ← div_pow_succ, show n - (m + 1) = n - 1 - m by omega, ← bit_mod v n (n - 1 - m) (by omega)]
    omega

theorem turn_twice (v : Int) (n : Nat) : turnI (turnI v n) n = v % 2 ^ n := by
  rw [turn_twice_up v n n (Nat.le_refl _)]; simp

#print axioms turn_twice
end Go.Proofs.YtlakgbckopjelabDoor

/- Laws on worlds: which blocks a call may have written ('Kept'), and what a block of two or three cells gives the walk. No Go text in sight. -/
namespace Go.Proofs.YtlakgbckopjelabDoor
set_option maxRecDepth 100000
open Go.RowKit

/-- From w to w' no block is written of those that were there, but for those that M names. -/
structure Kept (M : Nat → Prop) (w w' : World) : Prop where
  os : w'.os = w.os
  tape : w'.tape = w.tape
  output : w'.output = w.output
  size : w.heap.size ≤ w'.heap.size
  block : ∀ k, k < w.heap.size → ¬ M k → w'.heap[k]? = w.heap[k]?

theorem Kept.refl (M : Nat → Prop) (w : World) : Kept M w w := ⟨rfl, rfl, rfl, Nat.le_refl _, fun _ _ _ => rfl⟩
theorem Kept.trans {M M' : Nat → Prop} {a b c : World} (h : Kept M a b) (k : Kept M' b c) (hm : ∀ i, i < a.heap.size → M' i → M i) : Kept M a c :=
  ⟨k.os.trans h.os, k.tape.trans h.tape, k.output.trans h.output, Nat.le_trans h.size k.size, fun i hi hn => (k.block i (Nat.lt_of_lt_of_le hi h.size) (fun h' => hn (hm i hi h'))).trans (h.block i hi hn)⟩
theorem Kept.mono {M M' : Nat → Prop} {a b : World} (h : Kept M a b) (hm : ∀ i, i < a.heap.size → M i → M' i) : Kept M' a b := ⟨h.os, h.tape, h.output, h.size, fun i hi hn => h.block i hi (fun h' => hn (hm i hi h'))⟩
theorem Kept.of_grown {w w' : World} {row : Option Nat} (h : w.grownBy w' row) : Kept (fun k => some k = row) w w' := ⟨h.os, h.tape, h.output, h.size, h.block⟩
theorem Kept.of_below {B : Nat} {w w' : World} (h : Below B w w') : Kept (fun k => B ≤ k) w w' := ⟨h.os, h.tape, h.output, h.size, fun k _ hn => h.block k (by omega)⟩
theorem Kept.below {M : Nat → Prop} {w w' : World} (h : Kept M w w') {B : Nat} (hB : B ≤ w.heap.size) (hm : ∀ i, i < B → ¬ M i) : Below B w w' := ⟨h.os, h.tape, h.output, h.size, fun k hk => h.block k (by omega) (hm k hk)⟩
theorem Kept.alloc (M : Nat → Prop) {a w : World} (h : Kept M a w) (o : Obj) : Kept M a (w.alloc o) :=
  ⟨h.os, h.tape, h.output, by have := h.size; simp; omega, fun k hk hn => by rw [Below.heap_alloc _ _ _ (by have := h.size; omega)]; exact h.block k hk hn⟩
theorem Kept.drew {M : Nat → Prop} {a w : World} (h : Kept M a w) : Kept M a w.drew := ⟨h.os, h.tape, h.output, h.size, h.block⟩
theorem Kept.drewN {M : Nat → Prop} {a w : World} (h : Kept M a w) (n : Nat) : Kept M a (w.drewN n) := ⟨h.os, h.tape, h.output, h.size, h.block⟩
theorem Kept.setCell {M : Nat → Prop} {a w : World} (h : Kept M a w) {p : Addr} (hp : p.block < a.heap.size → M p.block) (u : Value) : Kept M a (w.setCell p u) :=
  ⟨h.os, h.tape, h.output, by have := h.size; simp [World.setCell]; omega, fun k hk hn => by rw [Below.heap_setCell _ _ _ _ (fun e => hn (by subst e; exact hp hk))]; exact h.block k hk hn⟩
theorem Kept.heap {M : Nat → Prop} {w w' : World} (h : Kept M w w') {b : Nat} {o : Obj} (hb : w.heap[b]? = some o) (hn : ¬ M b) : w'.heap[b]? = some o := (h.block b (lt_of_block hb) hn).trans hb
theorem Kept.cell {M : Nat → Prop} {w w' : World} (h : Kept M w w') {p : Addr} (hp : p.block < w.heap.size) (hn : ¬ M p.block) : w'.cell? p = w.cell? p := World.cell?_of_block (w := w) (h.block p.block hp hn)

theorem lt_of_cell {w : World} {p : Addr} {v : Value} (h : w.cell? p = some v) : p.block < w.heap.size := by
  unfold World.cell? at h
  rcases Nat.lt_or_ge p.block w.heap.size with h' | h'
  · exact h'
  · rw [Array.getElem?_eq_none h'] at h; simp at h

/-- A block whose cells are known, none of it frozen. -/
theorem cells_of {w : World} {b : Nat} {cs : Array Value} {t : TypeId} (h : w.heap[b]? = some (.cells cs t (0, 0))) (i : Nat) : w.cell? ⟨b, i, none⟩ = cs[i]? := by simp [World.cell?, h]
theorem free_of {w : World} {b : Nat} {cs : Array Value} {t : TypeId} (h : w.heap[b]? = some (.cells cs t (0, 0))) (i : Nat) : w.frozen? ⟨b, i, none⟩ = false := by simp [World.frozen?, h]
theorem set_of {w : World} {b : Nat} {cs : Array Value} {t : TypeId} {fr : Nat × Nat} (h : w.heap[b]? = some (.cells cs t fr)) (i : Nat) (u : Value) : (w.setCell ⟨b, i, none⟩ u).heap[b]? = some (.cells (cs.setIfInBounds i u) t fr) := by
  have hlt := lt_of_block h
  have h' : w.heap[b] = .cells cs t fr := by simpa [Array.getElem?_eq_getElem hlt] using h
  show (w.heap.modify b _)[b]? = _
  rw [Array.getElem?_eq_getElem (by simpa using hlt), Array.getElem_modify_self, h']
  rfl
theorem set_other {w : World} {b c i : Nat} {u : Value} (h : b ≠ c) : (w.setCell ⟨c, i, none⟩ u).heap[b]? = w.heap[b]? := Below.heap_setCell _ _ _ _ h

theorem heap_new (w : World) (o : Obj) : (w.alloc o).heap[w.heap.size]? = some o := by
  show (w.heap.push o)[w.heap.size]? = _
  simp
theorem heap_new1 (w : World) (o p : Obj) : ((w.alloc o).alloc p).heap[w.heap.size]? = some o := by
  rw [Below.heap_alloc _ _ _ (by simp)]; exact heap_new w o
theorem heap_new2 (w : World) (o p : Obj) : ((w.alloc o).alloc p).heap[w.heap.size + 1]? = some p := by
  have := heap_new (w.alloc o) p
  simpa using this

/-- What a value owns stays owned where its block is kept. -/
theorem ownsRow_kept {M : Nat → Prop} {w w' : World} {base : Nat} {e : TypeId} {size : Nat} {v : Value} {n : Nat} {xs : List Value} (h : w.ownsRow base e size v n xs) (k : Kept M w w') (hn : ∀ g, v.ownBlock = some g → ¬ M g) : w'.ownsRow base e size v n xs := by
  obtain ⟨h1, h2⟩ := h
  refine ⟨h1, ?_⟩
  rcases h2 with h2 | ⟨g, cap, cur, hv, hg, hh, r⟩
  · exact Or.inl h2
  · subst hv
    exact Or.inr ⟨g, cap, cur, rfl, hg, k.heap hh (hn g rfl), r⟩

/-- The block of an owned row is another one than a block of another element type. -/
theorem ownsRow_apart {w : World} {base : Nat} {e : TypeId} {size : Nat} {v : Value} {n : Nat} {xs : List Value} (h : w.ownsRow base e size v n xs) {b : Nat} {cs : Array Value} {t : TypeId} {fr : Nat × Nat} (hb : w.heap[b]? = some (.cells cs t fr)) (ht : t ≠ e) : v.ownBlock ≠ some b := by
  obtain ⟨h1, h2⟩ := h
  rcases h2 with ⟨rfl, _⟩ | ⟨g, cap, cur, rfl, hg, hh, r⟩
  · simp [Value.ownBlock]
  · intro e'
    simp [Value.ownBlock] at e'
    subst e'
    rw [hb] at hh
    simp at hh
    exact ht hh.2.1

theorem ownsRow_lt {w : World} {base : Nat} {e : TypeId} {size : Nat} {v : Value} {n : Nat} {xs : List Value} (h : w.ownsRow base e size v n xs) {g : Nat} (hg : v.ownBlock = some g) : base ≤ g ∧ g < w.heap.size := by
  obtain ⟨h1, h2⟩ := h
  rcases h2 with ⟨rfl, _⟩ | ⟨g', cap, cur, rfl, hb, hh, r⟩
  · simp [Value.ownBlock] at hg
  · simp [Value.ownBlock] at hg
    subst hg
    exact ⟨hb, lt_of_block hh⟩
end Go.Proofs.YtlakgbckopjelabDoor

/- The reader of package bits: contracts of NewReader, Left, nextByte, Align, pieces and its closure. -/
namespace Go.Proofs.YtlakgbckopjelabDoor
set_option maxRecDepth 100000
open Go.RowKit

/-- The bytes 'zs' lie in memory below block B, where a slice of 'len' elements leads. -/
def Text (B : Nat) (w : World) (a : Option Addr) (len : Nat) (zs : List Int) : Prop :=
  zs.length = len ∧ (∀ i, 0 ≤ zs.getD i 0 ∧ zs.getD i 0 ≤ 255) ∧ (len = 0 ∨ ∃ b off, b < B ∧ a = some ⟨b, off, none⟩ ∧ ∀ i, i < len → w.cell? ⟨b, off + i, none⟩ = some (.int .u8 (zs.getD i 0)))

/-- Bit i of bytes. -/
def bitAt (zs : List Int) (i : Nat) : Int := zs.getD (i / 8) 0 / 2 ^ (i % 8) % 2

/-- The n bits from place p on, as a number. -/
def bitsVal (zs : List Int) (p : Nat) : Nat → Int
  | 0 => 0
  | k + 1 => bitsVal zs p k + bitAt zs (p + k) * 2 ^ k

theorem mod_pow_succ (x : Int) (l : Nat) : x % 2 ^ (l + 1) = x % 2 ^ l + x / 2 ^ l % 2 * 2 ^ l := by
  have hp := pow_pos' l
  have h1 := Int.emod_add_mul_ediv x (2 ^ l)
  have h2 := Int.emod_add_mul_ediv (x / 2 ^ l) 2
  have hr := Int.emod_nonneg x (show (2 : Int) ^ l ≠ 0 by omega)
  have hr2 := Int.emod_lt_of_pos x (show (0 : Int) < 2 ^ l by omega)
  have e : x = (x % 2 ^ l + x / 2 ^ l % 2 * 2 ^ l) + 2 ^ (l + 1) * (x / 2 ^ l / 2) := by
    have e1 : (2 : Int) ^ (l + 1) * (x / 2 ^ l / 2) = 2 ^ l * (2 * (x / 2 ^ l / 2)) := by rw [Int.pow_succ, Int.mul_assoc]
    have e2 : x / 2 ^ l % 2 * 2 ^ l + 2 ^ l * (2 * (x / 2 ^ l / 2)) = 2 ^ l * (x / 2 ^ l) := by
      rw [Int.mul_comm (x / 2 ^ l % 2), ← Int.mul_add, h2]
    rw [e1, Int.add_assoc, e2, h1]
  have hlt : x % 2 ^ l + x / 2 ^ l % 2 * 2 ^ l < 2 ^ (l + 1) := by
    rw [Int.pow_succ]
    have : x / 2 ^ l % 2 = 0 ∨ x / 2 ^ l % 2 = 1 := by omega
    rcases this with e | e <;> rw [e] <;> omega
  have hge : 0 ≤ x % 2 ^ l + x / 2 ^ l % 2 * 2 ^ l := by
    have : x / 2 ^ l % 2 = 0 ∨ x / 2 ^ l % 2 = 1 := by omega
    rcases this with e | e <;> rw [e] <;> omega
  conv => lhs; rw [e]
  rw [Int.add_mul_emod_self_left, Int.emod_eq_of_lt hge hlt]

theorem Text.kept {B : Nat} {M : Nat → Prop} {w w' : World} {a : Option Addr} {len : Nat} {zs : List Int} (h : Text B w a len zs) (k : Kept M w w') (hn : ∀ b, b < B → ¬ M b) : Text B w' a len zs := by
  obtain ⟨h1, h2, h3⟩ := h
  refine ⟨h1, h2, ?_⟩
  rcases h3 with h3 | ⟨b, off, hb, ha, hc⟩
  · exact .inl h3
  · exact .inr ⟨b, off, hb, ha, fun i hi => (k.cell (lt_of_cell (hc i hi)) (hn b hb)).trans (hc i hi)⟩

end Go.Proofs.YtlakgbckopjelabDoor
