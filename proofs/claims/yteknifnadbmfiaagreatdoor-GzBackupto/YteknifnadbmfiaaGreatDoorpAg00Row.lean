/- Several texts, laid together: Math, Pure, World, Read, Row. -/
import Derived.Test.YteknifnadbmfiaaGreatDoorRows
import Derived.WalkKit
import Derived.Deep.QuietTactic
import Derived.BigQuiet
import Derived.Deep.RegionHeld3
import Derived.Deep.AppendLies
import Derived.OneCell
/- Plain arithmetic of int's bit operations: masks, joins by 'or', powers of two below 2^62. No Go text in sight. -/
namespace Go.Proofs.YteknifnadbmfiaaGreatDoor
set_option maxRecDepth 100000
open Go.RowKit

theorem pow_le_62 {n : Nat} (hn : n <= 62) : (2 : Int) ^ n <= 4611686018427387904 := by
 have : (2 : Nat) ^ n <= 2 ^ 62 := Nat.pow_le_pow_right (by decide) hn
 have h2 : ((2 ^ n : Nat) : Int) <= ((2 ^ 62 : Nat) : Int) := by exact_mod_cast this
 simpa using h2
theorem pow_pos' (n : Nat) : (1 : Int) <= 2 ^ n := by
 have : 0 < (2 : Nat) ^ n := Nat.two_pow_pos n
 have h2 : ((1 : Nat) : Int) <= ((2 ^ n : Nat) : Int) := by exact_mod_cast this
 simpa using h2
theorem wrap_pow {n : Nat} (hn : n <= 62) : wrap64 (2 ^ n) = 2 ^ n := IntWalk.wrap64_in _ ⟨by have := pow_pos' n; omega, by have := pow_le_62 hn; omega⟩

theorem wrap_i64_small (x : Nat) (h : x < 9223372036854775808) : IntKind.i64.wrap (x : Int) = x := by
 rw [IntKind.wrap_i64]; omega

theorem ofInt_nat (a : Nat) (ha : a < 18446744073709551616) : (BitVec.ofInt 64 (a : Int)).toNat = a := ofInt_u64 a ha

theorem and_mask (v : Int) (n : Nat) (hn : n <= 62) : bits .and .i64 v (2 ^ n - 1) = v % 2 ^ n := by
 have hp := Nat.two_pow_pos n
 have hle : (2 : Nat) ^ n <= 2 ^ 62 := Nat.pow_le_pow_right (by decide) hn
 have e1 : ((2 : Int) ^ n - 1) = ((2 ^ n - 1 : Nat) : Int) := by
  have : ((2 ^ n : Nat) : Int) = (2 : Int) ^ n := by simp
  omega
 have hb : (BitVec.ofInt 64 ((2 : Int) ^ n - 1)).toNat = 2 ^ n - 1 := by
  rw [e1]; exact ofInt_nat _ (by omega)
 have ha : (BitVec.ofInt 64 v).toNat = (v % 18446744073709551616).toNat := by simp [BitVec.toNat_ofInt]
 have hd : (v % 18446744073709551616) % 2 ^ n = v % 2 ^ n := by
  apply Int.emod_emod_of_dvd
  have : (18446744073709551616 : Int) = 2 ^ n * 2 ^ (64 - n) := by
   rw [<- Int.pow_add, show n + (64 - n) = 64 by omega]; rfl
  exact ⟨_, this⟩
 show IntKind.i64.wrap (((BitVec.ofInt 64 v &&& BitVec.ofInt 64 (2 ^ n - 1)).toNat : Nat) : Int) = _
 rw [BitVec.toNat_and, ha, hb, Nat.and_two_pow_sub_one_eq_mod]
 have h0 : 0 <= v % 18446744073709551616 := by omega
 have e2 : (((v % 18446744073709551616).toNat % 2 ^ n : Nat) : Int) = v % 2 ^ n := by
  rw [<- hd]; push_cast; rw [Int.toNat_of_nonneg h0]
 have hlt : (v % 18446744073709551616).toNat % 2 ^ n < 2 ^ n := Nat.mod_lt _ hp
 rw [wrap_i64_small _ (by omega), e2]

theorem and_one (v : Int) : bits .and .i64 v 1 = v % 2 := by
 have := and_mask v 1 (by decide)
 simpa using this

theorem or_add (a b : Int) (n : Nat) (ha0 : 0 <= a) (ha : a < 2 ^ n) (hb0 : 0 <= b) (hb : b * 2 ^ n < 4611686018427387904) (hn : n <= 62) : bits .or .i64 a (b * 2 ^ n) = a + b * 2 ^ n := by
 have hp := Nat.two_pow_pos n
 have hpl := pow_le_62 hn
 have hpp := pow_pos' n
 obtain ⟨A, rfl⟩ := Int.eq_ofNat_of_zero_le ha0
 obtain ⟨B, rfl⟩ := Int.eq_ofNat_of_zero_le hb0
 have e : ((2 ^ n : Nat) : Int) = (2 : Int) ^ n := by simp
 have hA : A < 2 ^ n := by rw [<- e] at ha; exact_mod_cast ha
 have e1 : ((B : Int) * 2 ^ n) = ((B * 2 ^ n : Nat) : Int) := by rw [<- e, Int.natCast_mul]
 have hB : B * 2 ^ n < 4611686018427387904 := by rw [e1] at hb; exact Int.ofNat_lt.mp hb
 have hA2 : A < 18446744073709551616 := by have : (2 : Nat) ^ n <= 2 ^ 62 := Nat.pow_le_pow_right (by decide) hn; omega
 rw [e1]
 show IntKind.i64.wrap (((BitVec.ofInt 64 (A : Int) ||| BitVec.ofInt 64 ((B * 2 ^ n : Nat) : Int)).toNat : Nat) : Int) = _
 rw [BitVec.toNat_or, ofInt_nat A hA2, ofInt_nat _ (by omega), Nat.or_comm, nat_join n (B * 2 ^ n) A (by simp) hA, wrap_i64_small _ (by have : (2 : Nat) ^ n <= 2 ^ 62 := Nat.pow_le_pow_right (by decide) hn; omega)]
 exact Int.natCast_add _ _ |>.trans (Int.add_comm _ _)

theorem or_add_low (a b : Int) (n : Nat) (ha0 : 0 <= a) (ha : a < 2 ^ n) (hb0 : 0 <= b) (hb : b * 2 ^ n < 4611686018427387904) (hn : n <= 62) : bits .or .i64 (b * 2 ^ n) a = b * 2 ^ n + a := by
 have h := or_add a b n ha0 ha hb0 hb hn
 have c : bits .or .i64 (b * 2 ^ n) a = bits .or .i64 a (b * 2 ^ n) := by simp only [bits, BitVec.or_comm]
 rw [c, h]; omega

#print axioms and_mask
#print axioms or_add_low
end Go.Proofs.YteknifnadbmfiaaGreatDoor

/- The pure functions of package bits and of its reference: which counts fit, the lowest bits, one bit. -/
namespace Go.Proofs.YteknifnadbmfiaaGreatDoor
set_option maxRecDepth 100000
open Go.RowKit

theorem ret_int {k : IntKind} {a b : Int} (h : a = b) : Ending.returned (.int k a) = .returned (.int k b) := by rw [h]

theorem fits_yes (n : Int) (w : World) (h0 : 0 <= n) (h1 : n <= 24) :
  Calls Tryz.prog 80 #[.int .i64 n] w fun e w' => e = .returned (.bool true) /\ w' = w := by
 go_enter Tryz.func80, Tryz.ntmps80
 go_wp2
 go_ret
 exact ⟨rfl, rfl⟩

theorem fits_no (n : Int) (w : World) (h : n < 0 \/ 24 < n) :
  Calls Tryz.prog 80 #[.int .i64 n] w fun e w' => e = .returned (.bool false) /\ w' = w := by
 rcases h with h | h
 ·go_enter Tryz.func80, Tryz.ntmps80
  go_wp2
  go_ret
  exact ⟨rfl, rfl⟩
 ·have h' : 0 <= n := by omega
  go_enter Tryz.func80, Tryz.ntmps80
  go_wp2
  go_ret
  refine ⟨?_, rfl⟩
  have hd : decide (n <= 24) = false := by simp; omega
  simp [hd]

theorem low_any (v n : Int) (w : World) (h0 : 0 <= n) (h1 : n <= 24) :
  Calls Tryz.prog 81 #[.int .i64 v, .int .i64 n] w fun e w' => e = .returned (.int .i64 (v % 2 ^ n.toNat)) /\ w' = w := by
 have e1 : wrap64 (2 ^ n.toNat) = 2 ^ n.toNat := wrap_pow (by omega)
 have e2 : wrap64 (2 ^ n.toNat - 1) = 2 ^ n.toNat - 1 := IntWalk.wrap64_in _ ⟨by have := pow_pos' n.toNat; omega, by have := @pow_le_62 n.toNat (by omega); omega⟩
 have e3 := and_mask v n.toNat (by omega)
 go_enter Tryz.func81, Tryz.ntmps81
 go_wp2
 go_ret
 exact ⟨ret_int rfl, rfl⟩

def turnI (v : Int) : Nat -> Int
 | 0 => 0
 | k + 1 => 2 * turnI v k + v / 2 ^ k % 2

theorem turnI_bd (v : Int) (k : Nat) : 0 <= turnI v k /\ turnI v k < 2 ^ k := by
 induction k with
 | zero => simp [turnI]
 | succ k ih => rw [turnI, Int.pow_succ]; omega

theorem pow_le_24 {k : Nat} (h : k <= 24) : (2 : Int) ^ k <= 16777216 := by
 have : (2 : Nat) ^ k <= 2 ^ 24 := Nat.pow_le_pow_right (by decide) h
 have h2 : ((2 ^ k : Nat) : Int) <= ((2 ^ 24 : Nat) : Int) := by exact_mod_cast this
 simpa using h2

theorem turn_join (v : Int) (k : Nat) (h : k <= 24) : bits .or .i64 (turnI v k * 2) (bits .and .i64 (v / 2 ^ k) 1) = turnI v (k + 1) := by
 have hb := turnI_bd v k
 have hq := pow_le_24 h
 rw [and_one]
 have := or_add_low (v / 2 ^ k % 2) (turnI v k) 1 (by omega) (by omega) (by omega) (by omega) (by omega)
 simp only [Int.pow_one] at this
 rw [this, turnI]; omega

theorem div_pow_succ (v : Int) (k : Nat) : v / 2 ^ k / 2 = v / 2 ^ (k + 1) := by
 rw [Int.pow_succ, Int.ediv_ediv_of_nonneg (by have := pow_pos' k; omega)]

theorem turn_yes (v n : Int) (w : World) (h0 : 0 <= n) (h1 : n <= 24) :
  Calls Tryz.prog 131 #[.int .i64 v, .int .i64 n] w fun e w' => e = .returned (.int .i64 (turnI v n.toNat)) /\ w' = w := by
 go_enter Tryz.func131, Tryz.ntmps131
 go_wp2_with (go_at_call 80; refine (fits_yes _ _ h0 h1).mono ?_; rintro e w' ⟨rfl, rfl⟩)
 go_loop [0, 5, 10] (fun x t i => ∃ k : Nat, (k : Int) <= n /\ i = .int .i64 k /\ t = .int .i64 (turnI v k) /\ x = .int .i64 (v / 2 ^ k)) (fun _ _ i => n.toNat - (intOf i).toNat)
 case atStart => exact ⟨0, by omega, rfl, rfl, by simp⟩
 case round =>
  obtain ⟨k, hk, rfl, rfl, rfl⟩ := hrel
  have hb := turnI_bd v k
  have hq := @pow_le_24 k (by omega)
  by_cases hlt : (k : Int) < n
  ·go_wp2
   go_round
   case rel => exact ⟨k + 1, by omega, by go_num, by rw [turn_join v k (by omega)], by rw [div_pow_succ]⟩
   case measure => simp [intOf]; omega
  ·go_wp2
   go_ret
   exact ⟨ret_int (by congr 1; omega), rfl⟩

theorem bit_mod (v : Int) (n j : Nat) (h : j < n) : v % 2 ^ n / 2 ^ j % 2 = v / 2 ^ j % 2 := by
 have hp := pow_pos' j
 have e : (2 : Int) ^ n = 2 ^ j * (2 * 2 ^ (n - j - 1)) := by
  rw [<- Int.pow_succ', <- Int.pow_add, show j + (n - j - 1 + 1) = n by omega]
 have d := Int.emod_add_mul_ediv v (2 ^ n)
 have e2 : v = v % 2 ^ n + 2 ^ j * (2 * (2 ^ (n - j - 1) * (v / 2 ^ n))) := by
  have : 2 ^ j * (2 * (2 ^ (n - j - 1) * (v / 2 ^ n))) = 2 ^ n * (v / 2 ^ n) := by rw [e]; simp [Int.mul_assoc]
  rw [this]; exact d.symm
 have e3 : v / 2 ^ j = v % 2 ^ n / 2 ^ j + 2 * (2 ^ (n - j - 1) * (v / 2 ^ n)) := by
  conv => lhs; rw [e2]
  rw [Int.add_mul_ediv_left _ _ (by omega)]
 rw [e3]; omega

theorem turn_bit (v : Int) (n j : Nat) (h : j < n) : turnI v n / 2 ^ j % 2 = v / 2 ^ (n - 1 - j) % 2 := by
 induction n generalizing j with
 | zero => omega
 | succ n ih =>
  rw [turnI]
  cases j with
  | zero => simp
  | succ j =>
   have e : (2 * turnI v n + v / 2 ^ n % 2) / 2 ^ (j + 1) = turnI v n / 2 ^ j := by
    rw [Int.pow_succ', <- Int.ediv_ediv_of_nonneg (by omega)]
    congr 1; omega
   rw [e, ih j (by omega)]
   congr 3; omega

theorem turn_twice_up (v : Int) (n m : Nat) (h : m <= n) : turnI (turnI v n) m = v % 2 ^ n / 2 ^ (n - m) := by
 induction m with
 | zero =>
  have hp := pow_pos' n
  simp only [turnI, Nat.sub_zero]
  rw [Int.ediv_eq_zero_of_lt (Int.emod_nonneg _ (by omega)) (Int.emod_lt_of_pos _ (by omega))]
 | succ m ih =>
  rw [turnI, ih (by omega), turn_bit v n m (by omega), show n - m = (n - 1 - m) + 1 by omega, <- div_pow_succ, show n - (m + 1) = n - 1 - m by omega, <- bit_mod v n (n - 1 - m) (by omega)]
  omega

theorem turn_twice (v : Int) (n : Nat) : turnI (turnI v n) n = v % 2 ^ n := by
 rw [turn_twice_up v n n (Nat.le_refl _)]; simp

#print axioms turn_twice
end Go.Proofs.YteknifnadbmfiaaGreatDoor

/- Laws on worlds: which blocks a call may have written ('Kept'), and what a block of two or three cells gives the walk. No Go text in sight. -/
namespace Go.Proofs.YteknifnadbmfiaaGreatDoor
set_option maxRecDepth 100000
open Go.RowKit

structure Kept (M : Nat -> Prop) (w w' : World) : Prop where
 os : w'.os = w.os
 tape : w'.tape = w.tape
 output : w'.output = w.output
 size : w.heap.size <= w'.heap.size
 block : ∀ k, k < w.heap.size -> ¬ M k -> w'.heap[k]? = w.heap[k]?

theorem Kept.refl (M : Nat -> Prop) (w : World) : Kept M w w := ⟨rfl, rfl, rfl, Nat.le_refl _, fun _ _ _ => rfl⟩
theorem Kept.trans {M M' : Nat -> Prop} {a b c : World} (h : Kept M a b) (k : Kept M' b c) (hm : ∀ i, i < a.heap.size -> M' i -> M i) : Kept M a c :=
 ⟨k.os.trans h.os, k.tape.trans h.tape, k.output.trans h.output, Nat.le_trans h.size k.size, fun i hi hn => (k.block i (Nat.lt_of_lt_of_le hi h.size) (fun h' => hn (hm i hi h'))).trans (h.block i hi hn)⟩
theorem Kept.mono {M M' : Nat -> Prop} {a b : World} (h : Kept M a b) (hm : ∀ i, i < a.heap.size -> M i -> M' i) : Kept M' a b := ⟨h.os, h.tape, h.output, h.size, fun i hi hn => h.block i hi (fun h' => hn (hm i hi h'))⟩
theorem Kept.of_grown {w w' : World} {row : Option Nat} (h : w.grownBy w' row) : Kept (fun k => some k = row) w w' := ⟨h.os, h.tape, h.output, h.size, h.block⟩
theorem Kept.of_below {B : Nat} {w w' : World} (h : Below B w w') : Kept (fun k => B <= k) w w' := ⟨h.os, h.tape, h.output, h.size, fun k _ hn => h.block k (by omega)⟩
theorem Kept.below {M : Nat -> Prop} {w w' : World} (h : Kept M w w') {B : Nat} (hB : B <= w.heap.size) (hm : ∀ i, i < B -> ¬ M i) : Below B w w' := ⟨h.os, h.tape, h.output, h.size, fun k hk => h.block k (by omega) (hm k hk)⟩
theorem Kept.alloc (M : Nat -> Prop) {a w : World} (h : Kept M a w) (o : Obj) : Kept M a (w.alloc o) :=
 ⟨h.os, h.tape, h.output, by have := h.size; simp; omega, fun k hk hn => by rw [Below.heap_alloc _ _ _ (by have := h.size; omega)]; exact h.block k hk hn⟩
theorem Kept.drew {M : Nat -> Prop} {a w : World} (h : Kept M a w) : Kept M a w.drew := ⟨h.os, h.tape, h.output, h.size, h.block⟩
theorem Kept.drewN {M : Nat -> Prop} {a w : World} (h : Kept M a w) (n : Nat) : Kept M a (w.drewN n) := ⟨h.os, h.tape, h.output, h.size, h.block⟩
theorem Kept.setCell {M : Nat -> Prop} {a w : World} (h : Kept M a w) {p : Addr} (hp : p.block < a.heap.size -> M p.block) (u : Value) : Kept M a (w.setCell p u) :=
 ⟨h.os, h.tape, h.output, by have := h.size; simp [World.setCell]; omega, fun k hk hn => by rw [Below.heap_setCell _ _ _ _ (fun e => hn (by subst e; exact hp hk))]; exact h.block k hk hn⟩
theorem Kept.heap {M : Nat -> Prop} {w w' : World} (h : Kept M w w') {b : Nat} {o : Obj} (hb : w.heap[b]? = some o) (hn : ¬ M b) : w'.heap[b]? = some o := (h.block b (lt_of_block hb) hn).trans hb
theorem Kept.cell {M : Nat -> Prop} {w w' : World} (h : Kept M w w') {p : Addr} (hp : p.block < w.heap.size) (hn : ¬ M p.block) : w'.cell? p = w.cell? p := World.cell?_of_block (w := w) (h.block p.block hp hn)

theorem lt_of_cell {w : World} {p : Addr} {v : Value} (h : w.cell? p = some v) : p.block < w.heap.size := by
 unfold World.cell? at h
 rcases Nat.lt_or_ge p.block w.heap.size with h' | h'
 ·exact h'
 ·rw [Array.getElem?_eq_none h'] at h; simp at h

theorem cells_of {w : World} {b : Nat} {cs : Array Value} {t : TypeId} (h : w.heap[b]? = some (.cells cs t (0, 0))) (i : Nat) : w.cell? ⟨b, i, none⟩ = cs[i]? := by simp [World.cell?, h]
theorem free_of {w : World} {b : Nat} {cs : Array Value} {t : TypeId} (h : w.heap[b]? = some (.cells cs t (0, 0))) (i : Nat) : w.frozen? ⟨b, i, none⟩ = false := by simp [World.frozen?, h]
theorem set_of {w : World} {b : Nat} {cs : Array Value} {t : TypeId} {fr : Nat × Nat} (h : w.heap[b]? = some (.cells cs t fr)) (i : Nat) (u : Value) : (w.setCell ⟨b, i, none⟩ u).heap[b]? = some (.cells (cs.setIfInBounds i u) t fr) := by
 have hlt := lt_of_block h
 have h' : w.heap[b] = .cells cs t fr := by simpa [Array.getElem?_eq_getElem hlt] using h
 show (w.heap.modify b _)[b]? = _
 rw [Array.getElem?_eq_getElem (by simpa using hlt), Array.getElem_modify_self, h']
 rfl
theorem set_other {w : World} {b c i : Nat} {u : Value} (h : b ≠ c) : (w.setCell ⟨c, i, none⟩ u).heap[b]? = w.heap[b]? := Below.heap_setCell _ _ _ _ h

theorem heap_new (w : World) (o : Obj) : (w.alloc o).heap[w.heap.size]? = some o := by
 show (w.heap.push o)[w.heap.size]? = _
 simp
theorem heap_new1 (w : World) (o p : Obj) : ((w.alloc o).alloc p).heap[w.heap.size]? = some o := by
 rw [Below.heap_alloc _ _ _ (by simp)]; exact heap_new w o
theorem heap_new2 (w : World) (o p : Obj) : ((w.alloc o).alloc p).heap[w.heap.size + 1]? = some p := by
 have := heap_new (w.alloc o) p
 simpa using this

theorem ownsRow_kept {M : Nat -> Prop} {w w' : World} {base : Nat} {e : TypeId} {size : Nat} {v : Value} {n : Nat} {xs : List Value} (h : w.ownsRow base e size v n xs) (k : Kept M w w') (hn : ∀ g, v.ownBlock = some g -> ¬ M g) : w'.ownsRow base e size v n xs := by
 obtain ⟨h1, h2⟩ := h
 refine ⟨h1, ?_⟩
 rcases h2 with h2 | ⟨g, cap, cur, hv, hg, hh, r⟩
 ·exact Or.inl h2
 ·subst hv
  exact Or.inr ⟨g, cap, cur, rfl, hg, k.heap hh (hn g rfl), r⟩

theorem ownsRow_apart {w : World} {base : Nat} {e : TypeId} {size : Nat} {v : Value} {n : Nat} {xs : List Value} (h : w.ownsRow base e size v n xs) {b : Nat} {cs : Array Value} {t : TypeId} {fr : Nat × Nat} (hb : w.heap[b]? = some (.cells cs t fr)) (ht : t ≠ e) : v.ownBlock ≠ some b := by
 obtain ⟨h1, h2⟩ := h
 rcases h2 with ⟨rfl, _⟩ | ⟨g, cap, cur, rfl, hg, hh, r⟩
 ·simp [Value.ownBlock]
 ·intro e'
  simp [Value.ownBlock] at e'
  subst e'
  rw [hb] at hh
  simp at hh
  exact ht hh.2.1

theorem ownsRow_lt {w : World} {base : Nat} {e : TypeId} {size : Nat} {v : Value} {n : Nat} {xs : List Value} (h : w.ownsRow base e size v n xs) {g : Nat} (hg : v.ownBlock = some g) : base <= g /\ g < w.heap.size := by
 obtain ⟨h1, h2⟩ := h
 rcases h2 with ⟨rfl, _⟩ | ⟨g', cap, cur, rfl, hb, hh, r⟩
 ·simp [Value.ownBlock] at hg
 ·simp [Value.ownBlock] at hg
  subst hg
  exact ⟨hb, lt_of_block hh⟩
end Go.Proofs.YteknifnadbmfiaaGreatDoor

/- The reader of package bits: contracts of NewReader, Left, nextByte, Align, pieces and its closure. -/
namespace Go.Proofs.YteknifnadbmfiaaGreatDoor
set_option maxRecDepth 100000
open Go.RowKit

theorem newReader_any (a : Option Addr) (len cap : Nat) (w : World) :
  Calls Tryz.prog 58 #[.slice a len cap] w fun e w' => e = .returned (.pointer (some ⟨w.heap.size, 0, none⟩)) /\ w' = w.alloc (.cells #[.slice a len cap, .int .i64 0] 148) := by
 go_enter Tryz.func58, Tryz.ntmps58
 go_wp2
 go_ret
 exact ⟨rfl, rfl⟩

theorem left_any (br : Nat) (a : Option Addr) (len cap : Nat) (pos : Int) (w : World) (h0 : w.cell? ⟨br, 0, none⟩ = some (.slice a len cap)) (h1 : w.cell? ⟨br, 1, none⟩ = some (.int .i64 pos)) (hl : len * 8 <= 9223372036854775807) (hp0 : 0 <= pos) (hp1 : pos <= len * 8) :
  Calls Tryz.prog 60 #[.pointer (some ⟨br, 0, none⟩)] w fun e w' => e = .returned (.int .i64 (len * 8 - pos)) /\ ∃ n, w' = w.drewN n := by
 go_enter Tryz.func60, Tryz.ntmps60
 go_wp2
 go_quiet (fail)
 go_wp2
 go_ret
 exact ⟨ret_int rfl, _, rfl⟩

theorem nextByte_any (br : Nat) (pos : Int) (w : World) (h1 : w.cell? ⟨br, 1, none⟩ = some (.int .i64 pos)) (hp0 : 0 <= pos) (hp1 : pos <= 9223372036854775800) :
  Calls Tryz.prog 124 #[.pointer (some ⟨br, 0, none⟩)] w fun e w' => e = .returned (.int .i64 ((pos + 7) / 8)) /\ w' = w := by
 go_enter Tryz.func124, Tryz.ntmps124
 go_wp2
 go_ret
 exact ⟨ret_int rfl, rfl⟩

theorem pieces_any (a : Option Addr) (len cap : Nat) (pos : Int) (w : World) :
  Calls Tryz.prog 123 #[.slice a len cap, .int .i64 pos] w fun e w' => e = .returned (.func (.func 138) #[] #[.pointer (some ⟨w.heap.size + 1, 0, none⟩), .pointer (some ⟨w.heap.size, 0, none⟩)]) /\ w' = (w.alloc (.cells #[.slice a len cap] 24)).alloc (.cells #[.int .i64 pos] 3) := by
 have hmf : ∀ (fn : Fn) (first cap : Array Value) (w : World), (Instr.makeFunc fn first cap).run Tryz.prog w = .ok (.func fn first cap) w := fun _ _ _ _ => rfl
 go_enter Tryz.func123, Tryz.ntmps123
 go_wp2
 go_ret
 exact ⟨rfl, rfl⟩

theorem piece_any (ba bt b off : Nat) (len cap : Nat) (pos wanted x : Int) (w : World)
  (ha : w.cell? ⟨ba, 0, none⟩ = some (.int .i64 pos)) (hf : w.frozen? ⟨ba, 0, none⟩ = false) (ht : w.cell? ⟨bt, 0, none⟩ = some (.slice (some ⟨b, off, none⟩) len cap))
  (hx : w.cell? ⟨b, off + (pos / 8).toNat, none⟩ = some (.int .u8 x)) (hp0 : 0 <= pos) (hp1 : pos < len * 8) (hl : len * 8 <= 9223372036854775000) (hw0 : 1 <= wanted) (hw1 : wanted <= 24) (hx0 : 0 <= x) (hx1 : x <= 255) :
  Calls Tryz.prog 138 #[.int .i64 wanted, .pointer (some ⟨ba, 0, none⟩), .pointer (some ⟨bt, 0, none⟩)] w fun e w' => e = .returned (.tuple #[.int .i64 (x / 2 ^ (pos % 8).toNat % 2 ^ (min (8 - pos % 8) wanted).toNat), .int .i64 (min (8 - pos % 8) wanted)]) /\ w' = w.setCell ⟨ba, 0, none⟩ (.int .i64 (pos + min (8 - pos % 8) wanted)) := by
 by_cases h : wanted < 8 - pos % 8
 ·have e : min (8 - pos % 8) wanted = wanted := by omega
  rw [e]
  go_enter Tryz.func138, Tryz.ntmps138
  go_wp2_with (go_at_call 81; refine (low_any _ _ _ (by omega) (by omega)).mono ?_; rintro e w' ⟨rfl, rfl⟩)
  go_ret2
  exact ⟨rfl, rfl⟩
 ·have e : min (8 - pos % 8) wanted = 8 - pos % 8 := by omega
  rw [e]
  have h' : 8 - pos % 8 <= wanted := by omega
  clear h e
  go_enter Tryz.func138, Tryz.ntmps138
  go_wp2_with (go_at_call 81; refine (low_any _ _ _ (by omega) (by omega)).mono ?_; rintro e w' ⟨rfl, rfl⟩)
  go_ret2
  exact ⟨rfl, rfl⟩

def Text (B : Nat) (w : World) (a : Option Addr) (len : Nat) (zs : List Int) : Prop :=
 zs.length = len /\ (∀ i, 0 <= zs.getD i 0 /\ zs.getD i 0 <= 255) /\ (len = 0 \/ ∃ b off, b < B /\ a = some ⟨b, off, none⟩ /\ ∀ i, i < len -> w.cell? ⟨b, off + i, none⟩ = some (.int .u8 (zs.getD i 0)))

def bitAt (zs : List Int) (i : Nat) : Int := zs.getD (i / 8) 0 / 2 ^ (i % 8) % 2

def bitsVal (zs : List Int) (p : Nat) : Nat -> Int
 | 0 => 0
 | k + 1 => bitsVal zs p k + bitAt zs (p + k) * 2 ^ k

theorem bitAt_bd (zs : List Int) (i : Nat) : 0 <= bitAt zs i /\ bitAt zs i <= 1 := by unfold bitAt; omega

theorem bitsVal_bd (zs : List Int) (p k : Nat) : 0 <= bitsVal zs p k /\ bitsVal zs p k < 2 ^ k := by
 induction k with
 | zero => simp [bitsVal]
 | succ k ih =>
  have h := bitAt_bd zs (p + k)
  have hp := pow_pos' k
  rw [bitsVal, Int.pow_succ]
  have : bitAt zs (p + k) = 0 \/ bitAt zs (p + k) = 1 := by omega
  rcases this with e | e <;> rw [e] <;> omega

theorem bitsVal_add (zs : List Int) (p k l : Nat) : bitsVal zs p (k + l) = bitsVal zs p k + bitsVal zs (p + k) l * 2 ^ k := by
 induction l with
 | zero => simp [bitsVal]
 | succ l ih => rw [<- Nat.add_assoc, bitsVal, ih, bitsVal, Int.add_mul, Int.add_assoc, Nat.add_assoc p k l, Int.mul_assoc (bitAt zs (p + (k + l))), <- Int.pow_add, Nat.add_comm l k]

theorem mod_pow_succ (x : Int) (l : Nat) : x % 2 ^ (l + 1) = x % 2 ^ l + x / 2 ^ l % 2 * 2 ^ l := by
 have hp := pow_pos' l
 have h1 := Int.emod_add_mul_ediv x (2 ^ l)
 have h2 := Int.emod_add_mul_ediv (x / 2 ^ l) 2
 have hr := Int.emod_nonneg x (show (2 : Int) ^ l ≠ 0 by omega)
 have hr2 := Int.emod_lt_of_pos x (show (0 : Int) < 2 ^ l by omega)
 have e : x = (x % 2 ^ l + x / 2 ^ l % 2 * 2 ^ l) + 2 ^ (l + 1) * (x / 2 ^ l / 2) := by
  have e1 : (2 : Int) ^ (l + 1) * (x / 2 ^ l / 2) = 2 ^ l * (2 * (x / 2 ^ l / 2)) := by rw [Int.pow_succ, Int.mul_assoc]
  have e2 : x / 2 ^ l % 2 * 2 ^ l + 2 ^ l * (2 * (x / 2 ^ l / 2)) = 2 ^ l * (x / 2 ^ l) := by
   rw [Int.mul_comm (x / 2 ^ l % 2), <- Int.mul_add, h2]
  rw [e1, Int.add_assoc, e2, h1]
 have hlt : x % 2 ^ l + x / 2 ^ l % 2 * 2 ^ l < 2 ^ (l + 1) := by
  rw [Int.pow_succ]
  have : x / 2 ^ l % 2 = 0 \/ x / 2 ^ l % 2 = 1 := by omega
  rcases this with e | e <;> rw [e] <;> omega
 have hge : 0 <= x % 2 ^ l + x / 2 ^ l % 2 * 2 ^ l := by
  have : x / 2 ^ l % 2 = 0 \/ x / 2 ^ l % 2 = 1 := by omega
  rcases this with e | e <;> rw [e] <;> omega
 conv => lhs; rw [e]
 rw [Int.add_mul_emod_self_left, Int.emod_eq_of_lt hge hlt]

theorem bitsVal_byte (zs : List Int) (i l : Nat) (h : l <= 8 - i % 8) : bitsVal zs i l = zs.getD (i / 8) 0 / 2 ^ (i % 8) % 2 ^ l := by
 induction l with
 | zero => simp [bitsVal]
 | succ l ih =>
  rw [bitsVal, ih (by omega), mod_pow_succ]
  congr 2
  unfold bitAt
  rw [show (i + l) / 8 = i / 8 by omega, show (i + l) % 8 = i % 8 + l by omega, Int.ediv_ediv_of_nonneg (by have := pow_pos' (i % 8); omega), <- Int.pow_add]

theorem Text.kept {B : Nat} {M : Nat -> Prop} {w w' : World} {a : Option Addr} {len : Nat} {zs : List Int} (h : Text B w a len zs) (k : Kept M w w') (hn : ∀ b, b < B -> ¬ M b) : Text B w' a len zs := by
 obtain ⟨h1, h2, h3⟩ := h
 refine ⟨h1, h2, ?_⟩
 rcases h3 with h3 | ⟨b, off, hb, ha, hc⟩
 ·exact .inl h3
 ·exact .inr ⟨b, off, hb, ha, fun i hi => (k.cell (lt_of_cell (hc i hi)) (hn b hb)).trans (hc i hi)⟩

theorem bits_no (br : Nat) (a : Option Addr) (len cap p : Nat) (n : Int) (w : World) (hb : w.heap[br]? = some (.cells #[.slice a len cap, .int .i64 (p : Int)] 148 (0, 0)))
  (hl : len * 8 <= 9223372036854775000) (hp : p <= len * 8) (hn : n < 0 \/ 24 < n \/ (len : Int) * 8 - p < n) :
  Calls Tryz.prog 98 #[.pointer (some ⟨br, 0, none⟩), .int .i64 n] w fun e w' => e = .returned (.tuple #[.int .i64 0, .bool false]) /\ ∃ k, w' = w.drewN k := by
 have c0 := cells_of hb 0
 have c1 := cells_of hb 1
 simp at c0 c1
 by_cases hf : n < 0 \/ 24 < n
 ·go_enter Tryz.func98, Tryz.ntmps98
  go_wp2_with (go_at_call 80; refine (fits_no _ _ hf).mono ?_; rintro e w' ⟨rfl, rfl⟩)
  go_ret2
  exact ⟨rfl, 0, rfl⟩
 ·have h0 : 0 <= n := by omega
  have h1 : n <= 24 := by omega
  have h2 : (len : Int) * 8 - p < n := by omega
  clear hn hf
  go_enter Tryz.func98, Tryz.ntmps98
  go_wp2_with (first | (go_at_call 80; refine (fits_yes _ _ h0 h1).mono ?_; rintro e w' ⟨rfl, rfl⟩) | (go_at_call 60; refine (left_any br a len cap p _ (by assumption) (by assumption) (by omega) (by omega) (by omega)).mono ?_; rintro e w' ⟨rfl, q, rfl⟩))
  go_ret2
  exact ⟨rfl, _, rfl⟩

end Go.Proofs.YteknifnadbmfiaaGreatDoor

/- Rows of bits as lists: the n lowest bits of a number, the bits of bytes. No Go text in sight. -/
namespace Go.Proofs.YteknifnadbmfiaaGreatDoor
set_option maxRecDepth 100000
open Go.RowKit

def bitsN (x : Int) : Nat -> List Int
 | 0 => []
 | n + 1 => bitsN x n ++ [x / 2 ^ n % 2]

theorem bitsN_length (x : Int) (n : Nat) : (bitsN x n).length = n := by
 induction n with
 | zero => rfl
 | succ n ih => simp [bitsN, ih]

theorem div_pow_add (x : Int) (m n : Nat) : x / 2 ^ m / 2 ^ n = x / 2 ^ (m + n) := by
 rw [Int.ediv_ediv_of_nonneg (by have := pow_pos' m; omega), <- Int.pow_add]

theorem bitsN_add (x : Int) (m n : Nat) : bitsN x (m + n) = bitsN x m ++ bitsN (x / 2 ^ m) n := by
 induction n with
 | zero => simp [bitsN]
 | succ n ih => rw [<- Nat.add_assoc, bitsN, ih, bitsN, div_pow_add, List.append_assoc]

theorem bitsN_mod (x : Int) (n m : Nat) (h : n <= m) : bitsN (x % 2 ^ m) n = bitsN x n := by
 induction n with
 | zero => rfl
 | succ n ih => rw [bitsN, bitsN, ih (by omega), bit_mod x m n (by omega)]

theorem bitsN_join (t v : Int) (m n : Nat) (h0 : 0 <= t) (h : t < 2 ^ m) : bitsN (t + v % 2 ^ n * 2 ^ m) (m + n) = bitsN t m ++ bitsN v n := by
 have hp := pow_pos' m
 rw [bitsN_add]
 have e1 : (t + v % 2 ^ n * 2 ^ m) / 2 ^ m = v % 2 ^ n := by
  rw [Int.add_mul_ediv_right _ _ (by omega), Int.ediv_eq_zero_of_lt h0 h]; omega
 have e2 : (t + v % 2 ^ n * 2 ^ m) % 2 ^ m = t := by
  rw [Int.add_mul_emod_self_right, Int.emod_eq_of_lt h0 h]
 rw [e1, bitsN_mod v n n (Nat.le_refl _), <- bitsN_mod _ m m (Nat.le_refl _), e2]

def rowOf (bs : List Int) : List Int := bs.flatMap fun x => bitsN x 8

theorem rowOf_append (a b : List Int) : rowOf (a ++ b) = rowOf a ++ rowOf b := by simp [rowOf]
theorem rowOf_one (x : Int) : rowOf [x] = bitsN x 8 := by simp [rowOf]
theorem rowOf_length (bs : List Int) : (rowOf bs).length = 8 * bs.length := by
 induction bs with
 | nil => rfl
 | cons x r ih =>
  have e : rowOf (x :: r) = bitsN x 8 ++ rowOf r := by simp [rowOf]
  rw [e, List.length_append, bitsN_length, ih, List.length_cons]; omega

theorem row_step (bs : List Int) (t : Int) (m : Nat) (h : 8 <= m) : rowOf bs ++ bitsN t m = rowOf (bs ++ [t % 256]) ++ bitsN (t / 256) (m - 8) := by
 have e : m = 8 + (m - 8) := by omega
 conv => lhs; rw [e, bitsN_add]
 rw [rowOf_append, rowOf_one, List.append_assoc]
 have h1 := bitsN_mod t 8 8 (Nat.le_refl _)
 have e2 : (2 : Int) ^ 8 = 256 := by decide
 rw [e2] at h1 ⊢
 rw [h1]

#print axioms row_step
end Go.Proofs.YteknifnadbmfiaaGreatDoor
