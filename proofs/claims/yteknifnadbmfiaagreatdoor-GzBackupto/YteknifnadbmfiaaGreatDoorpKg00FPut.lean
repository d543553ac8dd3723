/- Several texts, laid together: FPure, FSmall, FStr, FBytes, FRefOct, FPut. -/
import Derived.Lib.SlTrimSet
import Derived.Lib.TrimByte
import Derived.Lib.ItoaNum
import Derived.Lib.Strings
import Derived.Lib.Bytealg
import Derived.Lib.Repeat
import Derived.Test.YteknifnadbmfiaaGreatDoorRows
import Derived.WalkKit
import Derived.BigCall
import Derived.WalkSpells
import Derived.WalkLawsBesides
import Derived.Laws.RangeAny
import Derived.LoopTactic
import Derived.Deep.LoopGhost
import Derived.Laws.AppendOwnNone
import Derived.ProofKit
/- PLAIN: what the functions of fields and of its reference compute, as plain functions over lists of bytes. -/
namespace Go.Proofs.YteknifnadbmfiaaGreatDoor.F
set_option maxRecDepth 100000

def isD (c : UInt8) : Bool := decide (48 <= c.toNat /\ c.toNat <= 57)
def rn : List UInt8 -> Nat
 | [] => 0
 | c :: r => if isD c then rn r + 1 else 0
def lay (v b d : Nat) : Nat := if 4611686018427387904 / b < v then 4611686018427387905 else v * b + d
def digs (b : Nat) : List UInt8 -> Nat -> Nat × Bool
 | [], v => (v, true)
 | c :: r, v => if c.toNat < 48 \/ 48 + b <= c.toNat then (0, false) else digs b r (lay v b (c.toNat - 48))
def nano : List UInt8 -> Nat -> Nat -> Nat × Bool
 | [], v, _ => (v, true)
 | c :: r, v, k => if c.toNat < 48 \/ 57 < c.toNat then (0, false) else nano r (v + (c.toNat - 48) * k) (k / 10)
def high : List UInt8 -> Nat -> Nat
 | [], v => v
 | c :: r, v => high r (lay v 256 c.toNat)
def sgn (neg : Bool) (v : Nat) : Int × Int := if 4611686018427387904 < v then (0, 31) else (if neg then -(v : Int) else v, 0)
def add (o : Option Nat) (b d : Nat) : Option Nat := match o with | none => none | some n => if n * b + d <= 4611686018427387904 then some (n * b + d) else none
def numF (b z : Nat) : List UInt8 -> Option Nat -> Option Nat
 | [], o => o
 | c :: r, o => numF b z r (add o b (c.toNat - z))
def en (o : Option Nat) : Int := match o with | none => -1 | some n => n
def ans (o : Option Nat) : Int × Int := match o with | none => (0, 31) | some n => (n, 0)
def leN : List UInt8 -> Nat
 | [] => 0
 | c :: r => c.toNat + 256 * leN r
def putN (v : Nat) : Nat -> List UInt8
 | 0 => []
 | n + 1 => UInt8.ofNat (v % 256) :: putN (v / 256) n
theorem putN_length (v n : Nat) : (putN v n).length = n := by
 induction n generalizing v with
 | zero => rfl
 | succ n ih => simp [putN, ih]
theorem putN_getD : ∀ (n v k : Nat), k < n -> (putN v n).getD k 0 = UInt8.ofNat (v / 256 ^ k % 256)
 | 0, _, _, h => absurd h (by omega)
 | n + 1, v, 0, _ => by simp [putN]
 | n + 1, v, k + 1, h => by
  have := putN_getD n (v / 256) k (by omega)
  rw [Nat.div_div_eq_div_mul, Nat.mul_comm, <- Nat.pow_succ] at this
  simpa [putN] using this
theorem leN_take : ∀ (l : List UInt8) (k : Nat), k < l.length -> leN (l.take (k + 1)) = leN (l.take k) + 256 ^ k * (l.getD k 0).toNat
 | [], k, h => absurd h (by simp)
 | c :: r, 0, _ => by simp [leN]
 | c :: r, k + 1, h => by
  have := leN_take r k (by simpa using h)
  simp only [List.take_succ_cons, leN, this, List.getD_cons_succ, Nat.mul_add, Nat.pow_succ]
  have h2 : 256 * (256 ^ k * (r.getD k 0).toNat) = 256 ^ k * 256 * (r.getD k 0).toNat := by
   rw [<- Nat.mul_assoc, Nat.mul_comm 256]
  omega
theorem leN_lt : ∀ (l : List UInt8), leN l < 256 ^ l.length
 | [] => by simp [leN]
 | c :: r => by
  have := leN_lt r
  have hc := c.toNat_lt
  simp only [leN, List.length_cons, Nat.pow_succ]
  have : c.toNat < 256 := hc
  omega
def wri (b v : Nat) : Nat -> List UInt8
 | 0 => []
 | m + 1 => wri b (v / b) m ++ [UInt8.ofNat (v % b)]
def putR (v n : Int) : Option (List UInt8) :=
 if v < 0 \/ 4611686018427387904 < v \/ n < 2 \/ 64 < n then none
 else if v.toNat / 8 ^ (n.toNat - 1) = 0 then some ((wri 8 v.toNat (n.toNat - 1)).map (· + 48) ++ [0])
 else if v.toNat / 256 ^ (n.toNat - 1) = 0 then some (128 :: wri 256 v.toNat (n.toNat - 1))
 else none
def decT (t : List UInt8) : Option (Option Nat) := if t = [] \/ rn t < t.length then none else some (numF 10 48 t (some 0))
def ansS (neg : Bool) (a : Option (Option Nat)) : Int × Int := match a with | none => (0, 30) | some none => (0, 31) | some (some n) => (if neg then -(n : Int) else n, 0)
def decR (l : List UInt8) : Int × Int := if l.head? = some 45 then ansS true (decT l.tail) else ansS false (decT l)
def isO (c : UInt8) : Bool := decide (48 <= c.toNat /\ c.toNat <= 55)
def isB (c : UInt8) : Bool := decide (c.toNat = 32 \/ c.toNat = 0)
def octT : List UInt8 -> Option Nat -> Int × Int
 | [], o => ans o
 | c :: r, o => if isB c then octT r o else (0, 30)
def octD : List UInt8 -> Option Nat -> Int × Int
 | [], o => ans o
 | c :: r, o => if isO c then octD r (add o 8 (c.toNat - 48)) else octT (c :: r) o
def octB : List UInt8 -> Int × Int
 | [] => ans (some 0)
 | c :: r => if c.toNat = 32 then octB r else octD (c :: r) (some 0)
def octR : List UInt8 -> Int × Int
 | [] => ans (some 0)
 | c :: r => if c.toNat = 128 then ans (numF 256 0 r (some 0)) else octB (c :: r)
end Go.Proofs.YteknifnadbmfiaaGreatDoor.F

/- PROVED: contracts of the program's small functions (lay, signed) and of the reference's add. -/
namespace Go.Proofs.YteknifnadbmfiaaGreatDoor.F
set_option maxRecDepth 100000
open Go Go.RowKit

def Base (b : Nat) : Prop := b = 8 \/ b = 10 \/ b = 256

end Go.Proofs.YteknifnadbmfiaaGreatDoor.F

/- PROVED: contracts of the functions that go through a text: digits, nanoseconds; the reference's run, number. -/
namespace Go.Proofs.YteknifnadbmfiaaGreatDoor.F
set_option maxRecDepth 100000
open Go Go.RowKit

end Go.Proofs.YteknifnadbmfiaaGreatDoor.F

/- PROVED: bytes as they lie in memory ('Bs'); contracts of the functions that go through a slice of bytes: Le, highestFirst, and the reference's Le. -/
namespace Go.Proofs.YteknifnadbmfiaaGreatDoor.F
set_option maxRecDepth 100000
open Go Go.RowKit

def Bs (w : World) (v : Value) (xs : List UInt8) : Prop :=
 (xs = [] /\ ∃ a c, v = .slice a 0 c) \/ ∃ b o c, v = .slice (some ⟨b, o, none⟩) xs.length c /\ xs.length <= c /\ ∀ i, i < xs.length -> w.cell? ⟨b, o + i, none⟩ = some (.int .u8 ((xs.getD i 0).toNat : Nat))
def At (w : World) (b o : Nat) (xs : List UInt8) : Prop := ∀ i, i < xs.length -> w.cell? ⟨b, o + i, none⟩ = some (.int .u8 ((xs.getD i 0).toNat : Nat))

theorem or_le (xs : List UInt8) (k : Nat) (hk : k < xs.length) (h8 : k < 8) : bits .or .u64 (leN (xs.take k) : Nat) (IntKind.u64.wrap (IntKind.u64.wrap ((xs.getD k 0).toNat : Nat) * 2 ^ (8 * k))) = (leN (xs.take (k + 1)) : Nat) := by
 have hlt := leN_lt (xs.take k)
 rw [List.length_take, Nat.min_eq_left (by omega)] at hlt
 have h2 : (256 : Nat) ^ k = 2 ^ (8 * k) := by rw [Nat.pow_mul]
 have hq := (xs.getD k 0).toNat_lt
 have hq2 : (xs.getD k 0).toNat < 256 := hq
 rw [leN_take xs k hk, h2, Nat.mul_comm (2 ^ (8 * k))]
 rw [h2] at hlt
 generalize (xs.getD k 0).toNat = q at hq2
 generalize leN (xs.take k) = A at hlt
 have hp : (2 : Nat) ^ (8 * k) <= 2 ^ 56 := Nat.pow_le_pow_right (by decide) (by omega)
 have hb : q * 2 ^ (8 * k) <= 255 * 2 ^ 56 := Nat.mul_le_mul (by omega) hp
 have e1 : (2 : Nat) ^ 56 = 72057594037927936 := by decide
 rw [e1] at hp hb
 have e2 : IntKind.u64.wrap (IntKind.u64.wrap (q : Int) * 2 ^ (8 * k)) = ((q * 2 ^ (8 * k) : Nat) : Int) := by
  have e4 : IntKind.u64.wrap (q : Int) = q := by rw [IntKind.wrap_u64]; omega
  have e3 : ((2 ^ (8 * k) : Nat) : Int) = (2 : Int) ^ (8 * k) := by simp
  rw [e4, <- e3, <- Int.natCast_mul, IntKind.wrap_u64]
  omega
 rw [e2]
 show IntKind.u64.wrap (((BitVec.ofInt 64 (A : Int) ||| BitVec.ofInt 64 ((q * 2 ^ (8 * k) : Nat) : Int)).toNat : Nat) : Int) = _
 rw [BitVec.toNat_or, ofInt_u64 A (by omega), ofInt_u64 _ (by omega), Nat.or_comm, nat_join (8 * k) (q * 2 ^ (8 * k)) A (by simp) hlt, IntKind.wrap_u64]
 omega

set_option maxRecDepth 100000 in
theorem le_some (b o c : Nat) (xs : List UInt8) (hc : xs.length <= c) (hl : xs.length <= 9223372036854775807) (w : World) (hA : At w b o xs) :
  Calls Tryz.prog 42 #[.slice (some ⟨b, o, none⟩) xs.length c] w fun e w' => e = .returned (.int .u64 (leN (xs.take 8) : Nat)) /\ w' = w := by
 obtain ⟨n, hn⟩ : ∃ n, n = xs.length := ⟨_, rfl⟩
 rw [<- hn] at hc hl ⊢
 have HN : Hid (n = xs.length) := hn
 have HA : Hid (At w b o xs) := hA
 obtain ⟨D, hD⟩ : ∃ D, leN (xs.take 8) = D := ⟨_, rfl⟩
 rw [hD]
 have HD : Hid (leN (xs.take 8) = D) := hD
 clear hn hA hD
 by_cases h8 : n <= 8
 ·have h8i : (n : Int) <= 8 := by omega
  go_enter Tryz.func42, Tryz.ntmps42
  go_wp2_with fail
  go_loop [3, 12] (fun x y => ∃ k : Nat, x = .int .u64 (leN (xs.take k) : Nat) /\ y = .int .i64 (k : Int) /\ k <= n) (fun _ y => n - (intOf y).toNat)
  case atStart => exact ⟨0, rfl, rfl, by omega⟩
  case round =>
   obtain ⟨k, rfl, rfl, hk⟩ := hrel
   by_cases h : k < n
   ·have hkl : k < xs.length := by have := HN.out; omega
    have hcell := HA.out k hkl
    have hor := or_le xs k hkl (by omega)
    obtain ⟨q, hq⟩ : ∃ q, (xs.getD k 0).toNat = q := ⟨_, rfl⟩
    obtain ⟨A, hA⟩ : ∃ A, leN (xs.take k) = A := ⟨_, rfl⟩
    obtain ⟨A2, hA2⟩ : ∃ A, leN (xs.take (k + 1)) = A := ⟨_, rfl⟩
    rw [hq] at hcell hor
    rw [hA] at hor ⊢
    rw [hA2] at hor
    have HA2 : Hid (leN (xs.take (k + 1)) = A2) := hA2
    clear hq hA hA2 hkl
    go_wp2_with fail
    go_round
    case rel => exact ⟨k + 1, by rw [HA2.out], rfl, by omega⟩
    case measure => simp [intOf]; omega
   ·have hkm : k = n := by omega
    have HD2 : Hid (leN (xs.take k) = D) := by
     rw [hkm]
     rw [<- HD.out]; exact congrArg leN (by rw [HN.out, List.take_of_length_le (Nat.le_refl _), List.take_of_length_le (by have := HN.out; omega)])
    clear hkm
    go_wp2_with fail
    go_ret
    exact ⟨by rw [<- HD2.out]; rfl, rfl⟩
 ·have h8i : ¬ (n : Int) <= 8 := by omega
  have h8j : 8 <= n := by omega
  go_enter Tryz.func42, Tryz.ntmps42
  go_wp2_with fail
  go_loop [3, 12] (fun x y => ∃ k : Nat, x = .int .u64 (leN (xs.take k) : Nat) /\ y = .int .i64 (k : Int) /\ k <= 8) (fun _ y => 8 - (intOf y).toNat)
  case atStart => exact ⟨0, rfl, rfl, by omega⟩
  case round =>
   obtain ⟨k, rfl, rfl, hk⟩ := hrel
   by_cases h : k < 8
   ·have hkl : k < xs.length := by have := HN.out; omega
    have hcell := HA.out k hkl
    have hor := or_le xs k hkl (by omega)
    obtain ⟨q, hq⟩ : ∃ q, (xs.getD k 0).toNat = q := ⟨_, rfl⟩
    obtain ⟨A, hA⟩ : ∃ A, leN (xs.take k) = A := ⟨_, rfl⟩
    obtain ⟨A2, hA2⟩ : ∃ A, leN (xs.take (k + 1)) = A := ⟨_, rfl⟩
    rw [hq] at hcell hor
    rw [hA] at hor ⊢
    rw [hA2] at hor
    have HA2 : Hid (leN (xs.take (k + 1)) = A2) := hA2
    clear hq hA hA2 hkl
    go_wp2_with fail
    go_round
    case rel => exact ⟨k + 1, by rw [HA2.out], rfl, by omega⟩
    case measure => simp [intOf]; omega
   ·have hkm : k = 8 := by omega
    have HD2 : Hid (leN (xs.take k) = D) := by
     rw [hkm]
     rw [<- HD.out]; exact congrArg leN (rfl)
    clear hkm
    go_wp2_with fail
    go_ret
    exact ⟨by rw [<- HD2.out]; rfl, rfl⟩

theorem le_none (a : Option Addr) (c : Nat) (w : World) :
  Calls Tryz.prog 42 #[.slice a 0 c] w fun e w' => e = .returned (.int .u64 0) /\ w' = w := by
 go_enter Tryz.func42, Tryz.ntmps42
 go_wp2_with fail
 go_loop [3, 12] (fun z x => z = .int .u64 0 /\ x = .int .i64 0) (fun _ _ => 0)
 case atStart => exact ⟨rfl, rfl⟩
 case round =>
  obtain ⟨rfl, rfl⟩ := hrel
  go_wp2_with fail
  go_ret
  exact ⟨rfl, rfl⟩
theorem le_c (v : Value) (xs : List UInt8) (hl : xs.length <= 9223372036854775807) (w : World) (h : Bs w v xs) :
  Calls Tryz.prog 42 #[v] w fun e w' => e = .returned (.int .u64 (leN (xs.take 8) : Nat)) /\ w' = w := by
 rcases h with ⟨rfl, a, c, rfl⟩ | ⟨b, o, c, rfl, hc, hA⟩
 ·exact le_none a c w
 ·exact le_some b o c xs hc hl w hA

end Go.Proofs.YteknifnadbmfiaaGreatDoor.F

/- PROVED: the contract of the reference's Octal. -/
namespace Go.Proofs.YteknifnadbmfiaaGreatDoor.F
set_option maxRecDepth 100000
open Go Go.RowKit

def Fine (o : Option Nat) : Prop := ∀ m, o = some m -> m <= 4611686018427387904
end Go.Proofs.YteknifnadbmfiaaGreatDoor.F

/- PROVED: contracts of the functions that write bytes: PutLe, and the reference's PutLe. -/
namespace Go.Proofs.YteknifnadbmfiaaGreatDoor.F
set_option maxRecDepth 100000
open Go Go.RowKit
set_option linter.unusedVariables false

theorem lt_of_block' {w : World} {b : Nat} {o : Obj} (h : w.heap[b]? = some o) : b < w.heap.size := by
 rcases Nat.lt_or_ge b w.heap.size with h' | h'
 ·exact h'
 ·rw [Array.getElem?_eq_none h'] at h; simp at h
theorem cells_of {w : World} {b : Nat} {cs : Array Value} {t : TypeId} {fr : Nat × Nat} (h : w.heap[b]? = some (.cells cs t fr)) (i : Nat) : w.cell? ⟨b, i, none⟩ = cs[i]? := by simp [World.cell?, h]
theorem free_of {w : World} {b : Nat} {cs : Array Value} {t : TypeId} (h : w.heap[b]? = some (.cells cs t (0, 0))) (i : Nat) : w.frozen? ⟨b, i, none⟩ = false := by simp [World.frozen?, h]
theorem set_of {w : World} {b : Nat} {cs : Array Value} {t : TypeId} {fr : Nat × Nat} (h : w.heap[b]? = some (.cells cs t fr)) (i : Nat) (u : Value) : (w.setCell ⟨b, i, none⟩ u).heap[b]? = some (.cells (cs.setIfInBounds i u) t fr) := by
 have hlt := lt_of_block' h
 have h' : w.heap[b] = .cells cs t fr := by simpa [Array.getElem?_eq_getElem hlt] using h
 show (w.heap.modify b _)[b]? = _
 rw [Array.getElem?_eq_getElem (by simpa using hlt), Array.getElem_modify_self, h']
 rfl
theorem heap_new (w : World) (o : Obj) : (w.alloc o).heap[w.heap.size]? = some o := by
 show (w.heap.push o)[w.heap.size]? = _
 simp

def fil (X : List UInt8) (lo hi : Nat) : Array Value := ((List.range X.length).map fun i => Value.int .u8 ((if lo <= i /\ i < hi then (X.getD i 0).toNat else 0 : Nat) : Int)).toArray
theorem fil_size (X : List UInt8) (lo hi : Nat) : (fil X lo hi).size = X.length := by simp [fil]
theorem fil_zero (X : List UInt8) (k : Nat) : fil X k k = (List.replicate X.length (Value.int .u8 0)).toArray := by
 apply Array.ext_getElem?
 intro i
 by_cases h : i < X.length
 ·simp [fil, h]
  omega
 ·simp [fil, h]
theorem fil_not {X : List UInt8} {lo hi k : Nat} (h : k < X.length) (hk : ¬ (lo <= k /\ k < hi)) : (fil X lo hi)[k]? = some (.int .u8 0) := by
 simp only [fil, List.getElem?_toArray, List.getElem?_map, List.getElem?_range h, Option.map_some]
 rw [if_neg hk]
 rfl
theorem fil_at {X : List UInt8} {lo hi k : Nat} (h : k < X.length) (hk : lo <= k /\ k < hi) : (fil X lo hi)[k]? = some (.int .u8 ((X.getD k 0).toNat : Nat)) := by
 simp only [fil, List.getElem?_toArray, List.getElem?_map, List.getElem?_range h, Option.map_some]
 rw [if_pos hk]
theorem fil_set {X : List UInt8} {lo hi k lo2 hi2 : Nat} (h : k < X.length) (h2 : ∀ i, (lo2 <= i /\ i < hi2) ↔ (i = k \/ lo <= i /\ i < hi)) : (fil X lo hi).setIfInBounds k (.int .u8 ((X.getD k 0).toNat : Nat)) = fil X lo2 hi2 := by
 apply Array.ext_getElem?
 intro i
 rw [Array.getElem?_setIfInBounds]
 by_cases hi' : k = i
 ·subst hi'
  rw [if_pos rfl, if_pos (by rw [fil_size]; exact h), fil_at h ((h2 k).2 (.inl rfl))]
 ·rw [if_neg hi']
  by_cases hl : i < X.length
  ·by_cases hr : lo <= i /\ i < hi
   ·rw [fil_at hl hr, fil_at hl ((h2 i).2 (.inr hr))]
   ·rw [fil_not hl hr, fil_not hl (fun e => by rcases (h2 i).1 e with e2 | e2; exact hi' e2.symm; exact hr e2)]
  ·rw [Array.getElem?_eq_none (by rw [fil_size]; omega), Array.getElem?_eq_none (by rw [fil_size]; omega)]
def asB (X : List UInt8) : List Value := X.map fun x => Value.int .u8 ((x.toNat : Nat) : Int)
theorem asB_len (X : List UInt8) : (asB X).length = X.length := by simp [asB]
theorem asB_at (X : List UInt8) (i : Nat) (h : i < X.length) : (asB X)[i]? = some (.int .u8 ((X.getD i 0).toNat : Nat)) := by
 simp [asB, List.getD, h]
theorem fil_full (X : List UInt8) : fil X 0 X.length = (asB X).toArray := by
 apply Array.ext_getElem?
 intro i
 by_cases h : i < X.length
 ·rw [fil_at h ⟨by omega, h⟩, List.getElem?_toArray, asB_at X i h]
 ·rw [Array.getElem?_eq_none (by rw [fil_size]; omega), Array.getElem?_eq_none (by simp [asB]; omega)]

def Own (w : World) (v : Value) (B : Nat) (X : List UInt8) : Prop := w.ownsRow B 5 1 v X.length (asB X)
theorem own_new {w : World} {g c : Nat} {X : List UInt8} {B : Nat} (hB : B <= g) (hc : X.length = c) (hm : c <= maxLen) (h : w.heap[g]? = some (.cells (asB X).toArray 5 (0, 0))) : Own w (.slice (some ⟨g, 0, none⟩) X.length c) B X := by
 subst hc
 refine ⟨by rw [asB_len, Nat.mul_one], Or.inr ⟨g, X.length, _, rfl, hB, h, Nat.le_refl _, hm, ?_, ?_⟩⟩
 ·simp only [List.size_toArray, asB_len]; omega
 ·simp [List.take_of_length_le, asB_len]
theorem lt_of_cell {w : World} {p : Addr} {v : Value} (h : w.cell? p = some v) : p.block < w.heap.size := by
 unfold World.cell? at h
 rcases Nat.lt_or_ge p.block w.heap.size with h' | h'
 ·exact h'
 ·rw [Array.getElem?_eq_none h'] at h; simp at h
theorem info5 : ∃ i : TypeInfo, Tryz.prog.info? 5 = some i /\ i.zero = some (.int .u8 0) /\ i.size = 1 /\ i.bytes = 1 := by
 have h : (Tryz.prog.info? 5).map (fun i => (i.zero, i.size, i.bytes)) = some (some (.int .u8 0), 1, 1) := by kernel_rfl
 cases hq : Tryz.prog.info? 5 with
 | none => simp [hq] at h
 | some i => simp [hq] at h; exact ⟨i, rfl, h.1, h.2.1, h.2.2⟩
theorem made_full (n : Nat) (hn : n <= 140737488351232) (W : World) :
  (Instr.makeSlice 24 (.int .i64 (n : Int)) (.int .i64 (n : Int))).run Tryz.prog W = .ok (.slice (some ⟨W.heap.size, 0, none⟩) n n) (W.alloc (.cells (List.replicate n (Value.int .u8 0)).toArray 5)) := by
 obtain ⟨i, hi, hz, hs, hb⟩ := info5
 have := run_make (P := Tryz.prog) W 24 5 i (.int .u8 0) Tryz.underlying24 hi hz .i64 .i64 n n (by omega) (by omega) (by rw [hb]; omega) (by omega)
 rw [this, hs]
 have e2 : madeCells (Value.int .u8 0).cells n = (List.replicate n (Value.int .u8 0)).toArray := by
  have := toList_madeCells_one (Value.int .u8 0) n
  rw [<- Array.toList_inj]
  simpa [Value.cells] using this
 rw [Int.toNat_natCast, Nat.mul_one, e2]
theorem byte_of (v : Nat) : (UInt8.ofNat (v % 256)).toNat = v % 256 := by simp
theorem put_at (v m k : Nat) (h : k < m) : ((putN v m).getD k 0).toNat = v / 256 ^ k % 256 := by rw [putN_getD m v k h, byte_of]
theorem pow_next (v k : Nat) : v / 256 ^ k / 256 = v / 256 ^ (k + 1) := by rw [Nat.div_div_eq_div_mul, <- Nat.pow_succ]

set_option maxRecDepth 100000 in
theorem putLe_low (v : Nat) (hv : v < 18446744073709551616) (n : Int) (hn : n <= 0) (hn2 : -9223372036854775808 <= n /\ n <= 9223372036854775807) (w : World) :
  Calls Tryz.prog 30 #[.int .u64 (v : Int), .int .i64 n] w fun e w' => ∃ s, e = .returned s /\ Own w' s w.heap.size (putN v 0) /\ Below w.heap.size w w' := by
 obtain ⟨X, hX⟩ : ∃ X, X = putN v 0 := ⟨_, rfl⟩
 have HX : Hid (X = putN v 0 /\ X.length = 0) := ⟨hX, by rw [hX, putN_length]⟩
 rw [<- hX]
 clear hX
 have hmk : ∀ W : World, (Instr.makeSlice 24 (.int .i64 0) (.int .i64 0)).run Tryz.prog W = .ok (.slice (some ⟨W.heap.size, 0, none⟩) 0 0) (W.alloc (.cells (List.replicate 0 (Value.int .u8 0)).toArray 5)) := made_full 0 (by omega)
 have h1 : n <= 64 := by omega
 go_enter Tryz.func30, Tryz.ntmps30
 go_wp2_with fail
 go_loopg [0, 13] 0 (fun g x y wx => ∃ k : Nat, k + g = 0 /\ x = .int .u64 (v / 256 ^ k : Nat) /\ y = .int .i64 k /\ wx.heap[w.heap.size]? = some (.cells (fil X 0 k) 5 (0, 0)) /\ Below w.heap.size w wx)
 case atStart => exact ⟨0, by omega, by simp, rfl, by rw [fil_zero, HX.out.2]; exact heap_new _ _, (Below.refl _ w).alloc (Nat.le_refl _) _⟩
 case round =>
  obtain ⟨k, hkg, rfl, rfl, hb, b0⟩ := hrel
  have B0 : Hid (Below w.heap.size w wr) := b0
  clear b0
  cases gk with
  | zero =>
   have HB : Hid (wr.heap[w.heap.size]? = some (.cells (asB X).toArray 5 (0, 0))) := by
    have e : fil X 0 0 = fil X 0 k := by rw [show k = 0 by omega]
    rw [<- fil_full, HX.out.2, e]; exact hb
   clear hb
   go_wp2_with fail
   go_ret
   exact ⟨_, rfl, by
    have := own_new (Nat.le_refl _) HX.out.2 (by unfold maxLen; omega) HB.out
    rw [HX.out.2] at this
    exact this, B0.out⟩
  | succ g =>
   exact absurd hkg (by omega)

set_option maxRecDepth 100000 in
theorem putLe_mid (v : Nat) (hv : v < 18446744073709551616) (n : Int) (hn : 0 < n /\ n <= 64) (hn2 : -9223372036854775808 <= n /\ n <= 9223372036854775807) (w : World) :
  Calls Tryz.prog 30 #[.int .u64 (v : Int), .int .i64 n] w fun e w' => ∃ s, e = .returned s /\ Own w' s w.heap.size (putN v n.toNat) /\ Below w.heap.size w w' := by
 obtain ⟨X, hX⟩ : ∃ X, X = putN v n.toNat := ⟨_, rfl⟩
 have HX : Hid (X = putN v n.toNat /\ X.length = n.toNat) := ⟨hX, by rw [hX, putN_length]⟩
 rw [<- hX]
 clear hX
 obtain ⟨m, rfl⟩ : ∃ m : Nat, n = m := ⟨n.toNat, by omega⟩
 have hmk := made_full m (by omega)
 rw [Int.toNat_natCast] at HX
 have h0 := hn.1
 have h1 := hn.2
 go_enter Tryz.func30, Tryz.ntmps30
 go_wp2_with fail
 go_loopg [0, 13] m (fun g x y wx => ∃ k : Nat, k + g = m /\ x = .int .u64 (v / 256 ^ k : Nat) /\ y = .int .i64 k /\ wx.heap[w.heap.size]? = some (.cells (fil X 0 k) 5 (0, 0)) /\ Below w.heap.size w wx)
 case atStart => exact ⟨0, by omega, by simp, rfl, by rw [fil_zero, HX.out.2]; exact heap_new _ _, (Below.refl _ w).alloc (Nat.le_refl _) _⟩
 case round =>
  obtain ⟨k, hkg, rfl, rfl, hb, b0⟩ := hrel
  have B0 : Hid (Below w.heap.size w wr) := b0
  clear b0
  cases gk with
  | zero =>
   have HB : Hid (wr.heap[w.heap.size]? = some (.cells (asB X).toArray 5 (0, 0))) := by
    have e : fil X 0 m = fil X 0 k := by rw [show k = m by omega]
    rw [<- fil_full, HX.out.2, e]; exact hb
   clear hb
   go_wp2_with fail
   go_ret
   exact ⟨_, rfl, by
    have := own_new (Nat.le_refl _) HX.out.2 (by unfold maxLen; omega) HB.out
    rw [HX.out.2] at this
    exact this, B0.out⟩
  | succ g =>
   have hkm : k < m := by omega
   have hkx : k < X.length := by rw [HX.out.2]; exact hkm
   have hcell := cells_of hb k
   rw [fil_not hkx (by omega)] at hcell
   have hfree := free_of hb k
   have hnx := pow_next v k
   have hx : (X.getD k 0).toNat = v / 256 ^ k % 256 := by rw [HX.out.1]; exact put_at v m k hkm
   have hvk : v / 256 ^ k <= v := Nat.div_le_self _ _
   obtain ⟨q, hq⟩ : ∃ q, v / 256 ^ k = q := ⟨_, rfl⟩
   have HS : Hid ((wr.setCell ⟨w.heap.size, k, none⟩ (.int .u8 ((q % 256 : Nat) : Int))).heap[w.heap.size]? = some (.cells (fil X 0 (k + 1)) 5 (0, 0))) := by
    rw [set_of hb, <- hq, <- hx, fil_set (lo2 := 0) (hi2 := k + 1) hkx (by omega)]
    exact rfl
   have HN : Hid (q / 256 = v / 256 ^ (k + 1)) := by rw [<- hnx, hq]; exact rfl
   have BS : Hid (Below w.heap.size w (wr.setCell ⟨w.heap.size, k, none⟩ (.int .u8 ((q % 256 : Nat) : Int)))) := B0.out.setCell (p := ⟨w.heap.size, k, none⟩) (Nat.le_refl _) _
   rw [hq] at hvk ⊢
   clear hnx hx hq hb hkx
   go_wp2_with fail
   go_roundg g
   case measure => omega
   case rel => exact ⟨k + 1, by omega, by rw [<- HN.out]; rfl, rfl, HS.out, BS.out⟩

set_option maxRecDepth 100000 in
theorem putLe_high (v : Nat) (hv : v < 18446744073709551616) (n : Int) (hn : 64 < n) (hn2 : -9223372036854775808 <= n /\ n <= 9223372036854775807) (w : World) :
  Calls Tryz.prog 30 #[.int .u64 (v : Int), .int .i64 n] w fun e w' => ∃ s, e = .returned s /\ Own w' s w.heap.size (putN v 64) /\ Below w.heap.size w w' := by
 obtain ⟨X, hX⟩ : ∃ X, X = putN v 64 := ⟨_, rfl⟩
 have HX : Hid (X = putN v 64 /\ X.length = 64) := ⟨hX, by rw [hX, putN_length]⟩
 rw [<- hX]
 clear hX
 have hmk : ∀ W : World, (Instr.makeSlice 24 (.int .i64 64) (.int .i64 64)).run Tryz.prog W = .ok (.slice (some ⟨W.heap.size, 0, none⟩) 64 64) (W.alloc (.cells (List.replicate 64 (Value.int .u8 0)).toArray 5)) := made_full 64 (by omega)
 have h1 : ¬ n <= 64 := by omega
 go_enter Tryz.func30, Tryz.ntmps30
 go_wp2_with fail
 go_loopg [0, 13] 64 (fun g x y wx => ∃ k : Nat, k + g = 64 /\ x = .int .u64 (v / 256 ^ k : Nat) /\ y = .int .i64 k /\ wx.heap[w.heap.size]? = some (.cells (fil X 0 k) 5 (0, 0)) /\ Below w.heap.size w wx)
 case atStart => exact ⟨0, by omega, by simp, rfl, by rw [fil_zero, HX.out.2]; exact heap_new _ _, (Below.refl _ w).alloc (Nat.le_refl _) _⟩
 case round =>
  obtain ⟨k, hkg, rfl, rfl, hb, b0⟩ := hrel
  have B0 : Hid (Below w.heap.size w wr) := b0
  clear b0
  cases gk with
  | zero =>
   have HB : Hid (wr.heap[w.heap.size]? = some (.cells (asB X).toArray 5 (0, 0))) := by
    have e : fil X 0 64 = fil X 0 k := by rw [show k = 64 by omega]
    rw [<- fil_full, HX.out.2, e]; exact hb
   clear hb
   go_wp2_with fail
   go_ret
   exact ⟨_, rfl, by
    have := own_new (Nat.le_refl _) HX.out.2 (by unfold maxLen; omega) HB.out
    rw [HX.out.2] at this
    exact this, B0.out⟩
  | succ g =>
   have hkm : k < 64 := by omega
   have hkx : k < X.length := by rw [HX.out.2]; exact hkm
   have hcell := cells_of hb k
   rw [fil_not hkx (by omega)] at hcell
   have hfree := free_of hb k
   have hnx := pow_next v k
   have hx : (X.getD k 0).toNat = v / 256 ^ k % 256 := by rw [HX.out.1]; exact put_at v 64 k hkm
   have hvk : v / 256 ^ k <= v := Nat.div_le_self _ _
   obtain ⟨q, hq⟩ : ∃ q, v / 256 ^ k = q := ⟨_, rfl⟩
   have HS : Hid ((wr.setCell ⟨w.heap.size, k, none⟩ (.int .u8 ((q % 256 : Nat) : Int))).heap[w.heap.size]? = some (.cells (fil X 0 (k + 1)) 5 (0, 0))) := by
    rw [set_of hb, <- hq, <- hx, fil_set (lo2 := 0) (hi2 := k + 1) hkx (by omega)]
    exact rfl
   have HN : Hid (q / 256 = v / 256 ^ (k + 1)) := by rw [<- hnx, hq]; exact rfl
   have BS : Hid (Below w.heap.size w (wr.setCell ⟨w.heap.size, k, none⟩ (.int .u8 ((q % 256 : Nat) : Int)))) := B0.out.setCell (p := ⟨w.heap.size, k, none⟩) (Nat.le_refl _) _
   rw [hq] at hvk ⊢
   clear hnx hx hq hb hkx
   go_wp2_with fail
   go_roundg g
   case measure => omega
   case rel => exact ⟨k + 1, by omega, by rw [<- HN.out]; rfl, rfl, HS.out, BS.out⟩


theorem putLe_c (v : Nat) (hv : v < 18446744073709551616) (n : Int) (hn2 : -9223372036854775808 <= n /\ n <= 9223372036854775807) (w : World) :
  Calls Tryz.prog 30 #[.int .u64 (v : Int), .int .i64 n] w fun e w' => ∃ s, e = .returned s /\ Own w' s w.heap.size (putN v (min n 64).toNat) /\ Below w.heap.size w w' := by
 by_cases h0 : n <= 0
 ·have := putLe_low v hv n h0 hn2 w
  rw [show (min n 64).toNat = 0 by omega]
  exact this
 ·by_cases h1 : n <= 64
  ·have := putLe_mid v hv n (by omega) hn2 w
   rw [show (min n 64).toNat = n.toNat by omega]
   exact this
  ·have := putLe_high v hv n (by omega) hn2 w
   rw [show (min n 64).toNat = 64 by omega]
   exact this
end Go.Proofs.YteknifnadbmfiaaGreatDoor.F
