/- PLAIN: what the functions of fields and of its reference compute, as plain functions over lists of bytes. -/
import Derived.Lib.SlTrimSet
import Derived.Lib.TrimByte
import Derived.Lib.ItoaNum
import Derived.Lib.Strings
import Derived.Lib.Bytealg
import Derived.Lib.Repeat
namespace Go.Proofs.YtodkpmnkdplpiaaDoor

def isD (c : UInt8) : Bool := decide (48 ≤ c.toNat ∧ c.toNat ≤ 57)
/-- How many digits a text begins with. -/
def rn : List UInt8 → Nat
  | [] => 0
  | c :: r => if isD c then rn r + 1 else 0
theorem rn_cons_yes {c : UInt8} {r : List UInt8} (h : isD c = true) : rn (c :: r) = rn r + 1 := by simp [rn, h]
theorem rn_cons_no {c : UInt8} {r : List UInt8} (h : isD c = false) : rn (c :: r) = 0 := by simp [rn, h]

/-- A digit laid behind a number, as the program does it. -/
def lay (v b d : Nat) : Nat := if 4611686018427387904 / b < v then 4611686018427387905 else v * b + d
theorem lay_lt {v b d : Nat} (hb : 2 ≤ b) (hd : d < b) (hb2 : b ≤ 256) : lay v b d < 4611686018427388160 := by
  unfold lay
  split
  · omega
  · have h1 : v ≤ 4611686018427387904 / b := by omega
    have h2 := Nat.mul_le_mul_right b h1
    have h3 := Nat.div_mul_le_self 4611686018427387904 b
    omega
theorem lay_mul {v b : Nat} (h : ¬ 4611686018427387904 / b < v) : v * b ≤ 4611686018427387904 := by
  have h2 := Nat.mul_le_mul_right b (Nat.le_of_not_lt h)
  have h3 := Nat.div_mul_le_self 4611686018427387904 b
  omega

/-- The number of digits of a base, and whether there is nothing but such digits. -/
def digs (b : Nat) : List UInt8 → Nat → Nat × Bool
  | [], v => (v, true)
  | c :: r, v => if c.toNat < 48 ∨ 48 + b ≤ c.toNat then (0, false) else digs b r (lay v b (c.toNat - 48))
/-- The nanoseconds of the digits behind a point, and whether they are nothing but digits. -/
def nano : List UInt8 → Nat → Nat → Nat × Bool
  | [], v, _ => (v, true)
  | c :: r, v, k => if c.toNat < 48 ∨ 57 < c.toNat then (0, false) else nano r (v + (c.toNat - 48) * k) (k / 10)
/-- The number of bytes, the highest first. -/
def high : List UInt8 → Nat → Nat
  | [], v => v
  | c :: r, v => high r (lay v 256 c.toNat)
/-- The number with its sign, or the error. -/
def sgn (neg : Bool) (v : Nat) : Int × Int := if 4611686018427387904 < v then (0, 31) else (if neg then -(v : Int) else v, 0)
/-- The reference's: one digit more. -/
def add (o : Option Nat) (b d : Nat) : Option Nat := match o with | none => none | some n => if n * b + d ≤ 4611686018427387904 then some (n * b + d) else none
theorem add_le {o : Option Nat} {b d m : Nat} (h : add o b d = some m) : m ≤ 4611686018427387904 := by
  unfold add at h
  split at h
  · cases h
  · split at h
    · cases h; assumption
    · cases h
/-- The reference's number of bytes, each less by z. -/
def numF (b z : Nat) : List UInt8 → Option Nat → Option Nat
  | [], o => o
  | c :: r, o => numF b z r (add o b (c.toNat - z))
def en (o : Option Nat) : Int := match o with | none => -1 | some n => n
/-- An answer with its error, of the reference's number. -/
def ans (o : Option Nat) : Int × Int := match o with | none => (0, 31) | some n => (n, 0)
/-- The number whose bytes are these, the lowest first. -/
def leN : List UInt8 → Nat
  | [] => 0
  | c :: r => c.toNat + 256 * leN r
/-- So many bytes of a number, the lowest first. -/
def putN (v : Nat) : Nat → List UInt8
  | 0 => []
  | n + 1 => UInt8.ofNat (v % 256) :: putN (v / 256) n
theorem putN_length (v n : Nat) : (putN v n).length = n := by
  induction n generalizing v with
  | zero => rfl
  | succ n ih => simp [putN, ih]
theorem putN_getD : ∀ (n v k : Nat), k < n → (putN v n).getD k 0 = UInt8.ofNat (v / 256 ^ k % 256)
  | 0, _, _, h => absurd h (by omega)
  | n + 1, v, 0, _ => by simp [putN]
  | n + 1, v, k + 1, h => by
    have := putN_getD n (v / 256) k (by omega)
    rw [Nat.div_div_eq_div_mul, Nat.mul_comm, ← Nat.pow_succ] at this
    simpa [putN] using this
theorem leN_take : ∀ (l : List UInt8) (k : Nat), k < l.length → leN (l.take (k + 1)) = leN (l.take k) + 256 ^ k * (l.getD k 0).toNat
  | [], k, h => absurd h (by simp)
  | c :: r, 0, _ => by simp [leN]
  | c :: r, k + 1, h => by
    have := leN_take r k (by simpa using h)
    simp only [List.take_succ_cons, leN, this, List.getD_cons_succ, Nat.mul_add, Nat.pow_succ]
    have h2 : 256 * (256 ^ k * (r.getD k 0).toNat) = 256 ^ k * 256 * (r.getD k 0).toNat := by
      rw [← Nat.mul_assoc, Nat.mul_comm 256]
    omega
theorem leN_lt : ∀ (l : List UInt8), leN l < 256 ^ l.length
  | [] => by simp [leN]
  | c :: r => by
    have := leN_lt r
    have hc := c.toNat_lt
    simp only [leN, List.length_cons, Nat.pow_succ]
    have : c.toNat < 256 := hc
    omega
theorem putN_succ : ∀ (n v : Nat), putN v (n + 1) = putN v n ++ [UInt8.ofNat (v / 256 ^ n % 256)]
  | 0, v => by simp [putN]
  | n + 1, v => by
    have := putN_succ n (v / 256)
    rw [Nat.div_div_eq_div_mul, Nat.mul_comm, ← Nat.pow_succ] at this
    rw [putN, this]
    rfl
/-- A number in so many digits of a base, the highest first. -/
def wri (b v : Nat) : Nat → List UInt8
  | 0 => []
  | m + 1 => wri b (v / b) m ++ [UInt8.ofNat (v % b)]
theorem wri_length (b v m : Nat) : (wri b v m).length = m := by
  induction m generalizing v with
  | zero => rfl
  | succ m ih => simp [wri, ih]
theorem wri_getD (b : Nat) : ∀ (m v k : Nat), k < m → (wri b v m).getD (m - 1 - k) 0 = UInt8.ofNat (v / b ^ k % b)
  | 0, _, _, h => absurd h (by omega)
  | m + 1, v, 0, _ => by simp [wri, List.getD, wri_length]
  | m + 1, v, k + 1, h => by
    have := wri_getD b m (v / b) k (by omega)
    rw [Nat.div_div_eq_div_mul, Nat.mul_comm, ← Nat.pow_succ] at this
    rw [← this, wri, show m + 1 - 1 - (k + 1) = m - 1 - k by omega]
    simp only [List.getD_eq_getElem?_getD]
    rw [List.getElem?_append_left (by rw [wri_length]; omega)]
/-- The reference's PutOctal. -/
def putR (v n : Int) : Option (List UInt8) :=
  if v < 0 ∨ 4611686018427387904 < v ∨ n < 2 ∨ 64 < n then none
  else if v.toNat / 8 ^ (n.toNat - 1) = 0 then some ((wri 8 v.toNat (n.toNat - 1)).map (· + 48) ++ [0])
  else if v.toNat / 256 ^ (n.toNat - 1) = 0 then some (128 :: wri 256 v.toNat (n.toNat - 1))
  else none
/-- The reference's Decimal, behind the sign. -/
def decT (t : List UInt8) : Option (Option Nat) := if t = [] ∨ rn t < t.length then none else some (numF 10 48 t (some 0))
def ansS (neg : Bool) (a : Option (Option Nat)) : Int × Int := match a with | none => (0, 30) | some none => (0, 31) | some (some n) => (if neg then -(n : Int) else n, 0)
def decR (l : List UInt8) : Int × Int := if l.head? = some 45 then ansS true (decT l.tail) else ansS false (decT l)
def isO (c : UInt8) : Bool := decide (48 ≤ c.toNat ∧ c.toNat ≤ 55)
def isB (c : UInt8) : Bool := decide (c.toNat = 32 ∨ c.toNat = 0)
/-- The reference's Octal, from a digit on: what was read so far is o. -/
def octT : List UInt8 → Option Nat → Int × Int
  | [], o => ans o
  | c :: r, o => if isB c then octT r o else (0, 30)
def octD : List UInt8 → Option Nat → Int × Int
  | [], o => ans o
  | c :: r, o => if isO c then octD r (add o 8 (c.toNat - 48)) else octT (c :: r) o
def octB : List UInt8 → Int × Int
  | [] => ans (some 0)
  | c :: r => if c.toNat = 32 then octB r else octD (c :: r) (some 0)
/-- The reference's Octal. -/
def octR : List UInt8 → Int × Int
  | [] => ans (some 0)
  | c :: r => if c.toNat = 128 then ans (numF 256 0 r (some 0)) else octB (c :: r)
end Go.Proofs.YtodkpmnkdplpiaaDoor
