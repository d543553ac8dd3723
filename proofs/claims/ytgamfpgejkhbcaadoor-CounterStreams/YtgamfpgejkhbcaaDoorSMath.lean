/- The sum of 160 bits over lists of numbers, as both the program and the reference reckon it. No Go text in sight. -/
import Derived.Test.YtgamfpgejkhbcaaDoorWorld
namespace Go.Proofs.YtgamfpgejkhbcaaDoor.S
set_option maxRecDepth 100000
open Go Go.RowKit

theorem ofInt32 (a : Nat) (ha : a < 4294967296) : (BitVec.ofInt 32 (a : Int)).toNat = a := by
  rw [BitVec.ofInt_natCast, BitVec.toNat_ofNat]; exact Nat.mod_eq_of_lt (by omega)
theorem wrap32' (n : Int) : IntKind.u32.wrap n = n % 4294967296 := by simp [IntKind.wrap, IntKind.signed, IntKind.bits]
theorem xor_lt {a b : Nat} (ha : a < 4294967296) (hb : b < 4294967296) : a ^^^ b < 4294967296 := by
  have := @Nat.xor_lt_two_pow a b 32 (by omega) (by omega); omega
theorem or_lt {a b : Nat} (ha : a < 4294967296) (hb : b < 4294967296) : a ||| b < 4294967296 := by
  have := @Nat.or_lt_two_pow a b 32 (by omega) (by omega); omega
theorem and_lt {a b : Nat} (hb : b < 4294967296) : a &&& b < 4294967296 := by
  have := @Nat.and_lt_two_pow a b 32 (by omega); omega
theorem xor32 (a b : Nat) (ha : a < 4294967296) (hb : b < 4294967296) : bits .xor .u32 (a : Int) (b : Int) = ((a ^^^ b : Nat) : Int) := by
  have hx := xor_lt ha hb
  show IntKind.u32.wrap ((BitVec.ofInt 32 (a : Int) ^^^ BitVec.ofInt 32 (b : Int)).toNat : Int) = _
  rw [BitVec.toNat_xor, ofInt32 a ha, ofInt32 b hb, wrap32']; omega
theorem and32 (a b : Nat) (ha : a < 4294967296) (hb : b < 4294967296) : bits .and .u32 (a : Int) (b : Int) = ((a &&& b : Nat) : Int) := by
  have hx := @and_lt a b hb
  show IntKind.u32.wrap ((BitVec.ofInt 32 (a : Int) &&& BitVec.ofInt 32 (b : Int)).toNat : Int) = _
  rw [BitVec.toNat_and, ofInt32 a ha, ofInt32 b hb, wrap32']; omega
theorem or32 (a b : Nat) (ha : a < 4294967296) (hb : b < 4294967296) : bits .or .u32 (a : Int) (b : Int) = ((a ||| b : Nat) : Int) := by
  have hx := or_lt ha hb
  show IntKind.u32.wrap ((BitVec.ofInt 32 (a : Int) ||| BitVec.ofInt 32 (b : Int)).toNat : Int) = _
  rw [BitVec.toNat_or, ofInt32 a ha, ofInt32 b hb, wrap32']; omega

/-- A word, turned round to the left. -/
def rot (n x : Nat) : Nat := (x * 2 ^ n % 4294967296) ||| (x / 2 ^ (32 - n))
theorem rot_lt (n : Nat) {x : Nat} (hx : x < 4294967296) : rot n x < 4294967296 :=
  or_lt (Nat.mod_lt _ (by omega)) (Nat.lt_of_le_of_lt (Nat.div_le_self _ _) hx)

def fF (t b c d : Nat) : Nat := if t < 20 then (b &&& c) ||| ((4294967295 ^^^ b) &&& d) else if t < 40 then (b ^^^ c) ^^^ d else if t < 60 then ((b &&& c) ||| (b &&& d)) ||| (c &&& d) else (b ^^^ c) ^^^ d
def kF (t : Nat) : Nat := if t < 20 then 1518500249 else if t < 40 then 1859775393 else if t < 60 then 2400959708 else 3395469782
theorem fF_lt (t : Nat) {b c d : Nat} (hb : b < 4294967296) (hc : c < 4294967296) (hd : d < 4294967296) : fF t b c d < 4294967296 := by
  unfold fF
  split
  · exact or_lt (and_lt hc) (and_lt hd)
  split
  · exact xor_lt (xor_lt hb hc) hd
  split
  · exact or_lt (or_lt (and_lt hc) (and_lt hd)) (and_lt hd)
  · exact xor_lt (xor_lt hb hc) hd
theorem kF_lt (t : Nat) : kF t < 4294967296 := by
  unfold kF
  split
  · omega
  split
  · omega
  split <;> omega

/-- Five words. -/
structure St where
  a : Nat
  b : Nat
  c : Nat
  d : Nat
  e : Nat
structure St.Ok (s : St) : Prop where
  a : s.a < 4294967296
  b : s.b < 4294967296
  c : s.c < 4294967296
  d : s.d < 4294967296
  e : s.e < 4294967296
def rnd (t w : Nat) (s : St) : St := ⟨(rot 5 s.a + fF t s.b s.c s.d + s.e + kF t + w) % 4294967296, s.a, rot 30 s.b, s.c, s.d⟩
theorem rnd_ok (t w : Nat) {s : St} (h : s.Ok) : (rnd t w s).Ok := ⟨Nat.mod_lt _ (by omega), h.a, rot_lt 30 h.b, h.c, h.d⟩
def rnds (ws : Nat → Nat) : Nat → St → St
  | 0, s => s
  | n + 1, s => rnd n (ws n) (rnds ws n s)
theorem rnds_ok (ws : Nat → Nat) (n : Nat) {s : St} (h : s.Ok) : (rnds ws n s).Ok := by
  induction n with
  | zero => exact h
  | succ n ih => exact rnd_ok _ _ ih
def word (x0 x1 x2 x3 : Nat) : Nat := x0 * 16777216 + x1 * 65536 + x2 * 256 + x3
def wd (bs : List Nat) (l : List Nat) (t : Nat) : Nat :=
  if t < 16 then word (bs.getD (4 * t) 0) (bs.getD (4 * t + 1) 0) (bs.getD (4 * t + 2) 0) (bs.getD (4 * t + 3) 0)
  else rot 1 (((l.getD (t - 3) 0 ^^^ l.getD (t - 8) 0) ^^^ l.getD (t - 14) 0) ^^^ l.getD (t - 16) 0)
/-- The first words of a block. -/
def wl (bs : List Nat) : Nat → List Nat
  | 0 => []
  | n + 1 => wl bs n ++ [wd bs (wl bs n) n]
theorem wl_length (bs : List Nat) (n : Nat) : (wl bs n).length = n := by
  induction n with
  | zero => rfl
  | succ n ih => simp [wl, ih]
/-- Bytes. -/
def By (xs : List Nat) : Prop := ∀ x ∈ xs, x < 256
theorem By.getD {xs : List Nat} (h : By xs) (i : Nat) : xs.getD i 0 < 256 := by
  by_cases hi : i < xs.length
  · have := h _ (List.getElem_mem hi); simpa [List.getD, hi] using this
  · simp [List.getD, List.getElem?_eq_none (Nat.le_of_not_lt hi)]
theorem By.take {xs : List Nat} (h : By xs) (n : Nat) : By (xs.take n) := fun x hx => h x (List.mem_of_mem_take hx)
theorem By.drop {xs : List Nat} (h : By xs) (n : Nat) : By (xs.drop n) := fun x hx => h x (List.mem_of_mem_drop hx)
theorem By.append {xs ys : List Nat} (h : By xs) (k : By ys) : By (xs ++ ys) := fun x hx => by
  rcases List.mem_append.1 hx with h' | h'
  · exact h x h'
  · exact k x h'
theorem word_lt {x0 x1 x2 x3 : Nat} (h0 : x0 < 256) (h1 : x1 < 256) (h2 : x2 < 256) (h3 : x3 < 256) : word x0 x1 x2 x3 < 4294967296 := by unfold word; omega
theorem wd_lt {bs l : List Nat} (h : By bs) (hl : ∀ i, l.getD i 0 < 4294967296) (t : Nat) : wd bs l t < 4294967296 := by
  unfold wd
  split
  · exact word_lt (h.getD _) (h.getD _) (h.getD _) (h.getD _)
  · exact rot_lt 1 (xor_lt (xor_lt (xor_lt (hl _) (hl _)) (hl _)) (hl _))
theorem wl_lt {bs : List Nat} (h : By bs) (n : Nat) : ∀ i, (wl bs n).getD i 0 < 4294967296 := by
  induction n with
  | zero => intro i; simp [wl]
  | succ n ih =>
    intro i
    rcases Nat.lt_trichotomy i n with hi | rfl | hi
    · have := ih i
      rw [wl, List.getD_eq_getElem?_getD, List.getElem?_append_left (by rw [wl_length]; exact hi), ← List.getD_eq_getElem?_getD]; exact this
    · have := wd_lt h ih i
      rw [wl, List.getD_eq_getElem?_getD, List.getElem?_append_right (by rw [wl_length]; exact Nat.le_refl _), wl_length]; simpa using this
    · rw [List.getD_eq_getElem?_getD, List.getElem?_eq_none (by rw [wl_length]; omega)]; simp
theorem wl_at (bs : List Nat) {n i : Nat} (h : i < n) : (wl bs n).getD i 0 = wd bs (wl bs i) i := by
  induction n with
  | zero => omega
  | succ n ih =>
    by_cases hi : i < n
    · rw [wl, List.getD_eq_getElem?_getD, List.getElem?_append_left (by rw [wl_length]; exact hi), ← List.getD_eq_getElem?_getD]; exact ih hi
    · obtain rfl : i = n := by omega
      rw [wl, List.getD_eq_getElem?_getD, List.getElem?_append_right (by rw [wl_length]; exact Nat.le_refl _), wl_length]; simp
/-- The word of step t. -/
def wF (bs : List Nat) (t : Nat) : Nat := wd bs (wl bs t) t
structure Wds (bs : List Nat) (f : Nat → Nat) : Prop where
  lt : ∀ t, f t < 4294967296
  lo : ∀ t, t < 16 → f t = word (bs.getD (4 * t) 0) (bs.getD (4 * t + 1) 0) (bs.getD (4 * t + 2) 0) (bs.getD (4 * t + 3) 0)
  hi : ∀ t, f (t + 16) = rot 1 (((f (t + 13) ^^^ f (t + 8)) ^^^ f (t + 2)) ^^^ f t)
theorem wds {bs : List Nat} (h : By bs) : Wds bs (wF bs) := by
  refine ⟨fun t => wd_lt h (wl_lt h t) t, fun t ht => if_pos ht, fun t => ?_⟩
  show wd bs (wl bs (t + 16)) (t + 16) = _
  unfold wd
  rw [if_neg (by omega), show t + 16 - 3 = t + 13 by omega, show t + 16 - 8 = t + 8 by omega, show t + 16 - 14 = t + 2 by omega, show t + 16 - 16 = t by omega]
  rw [wl_at bs (show t + 13 < t + 16 by omega), wl_at bs (show t + 8 < t + 16 by omega), wl_at bs (show t + 2 < t + 16 by omega), wl_at bs (show t < t + 16 by omega)]
  rfl

def add5 (s r : St) : St := ⟨(s.a + r.a) % 4294967296, (s.b + r.b) % 4294967296, (s.c + r.c) % 4294967296, (s.d + r.d) % 4294967296, (s.e + r.e) % 4294967296⟩
theorem add5_ok (s r : St) : (add5 s r).Ok := ⟨Nat.mod_lt _ (by omega), Nat.mod_lt _ (by omega), Nat.mod_lt _ (by omega), Nat.mod_lt _ (by omega), Nat.mod_lt _ (by omega)⟩
/-- The state behind a block. -/
def blk (s : St) (bs : List Nat) : St := add5 s (rnds (wF bs) 80 s)
theorem blk_ok (s : St) (bs : List Nat) : (blk s bs).Ok := add5_ok _ _
def st0 : St := ⟨1732584193, 4023233417, 2562383102, 271733878, 3285377520⟩
theorem st0_ok : st0.Ok := by constructor <;> decide
/-- The state behind the first k blocks of 64 bytes. -/
def blks (xs : List Nat) : Nat → St
  | 0 => st0
  | k + 1 => blk (blks xs k) ((xs.drop (64 * k)).take 64)
theorem blks_ok (xs : List Nat) (k : Nat) : (blks xs k).Ok := by
  cases k with
  | zero => exact st0_ok
  | succ k => exact blk_ok _ _
theorem blks_append (xs ys : List Nat) (k : Nat) (h : 64 * k ≤ xs.length) : blks (xs ++ ys) k = blks xs k := by
  induction k with
  | zero => rfl
  | succ k ih =>
    rw [blks, blks, ih (by omega), List.drop_append_of_le_length (by omega), List.take_append_of_le_length (by simp; omega)]

def be8 (v : Nat) : List Nat := (List.range 8).map fun i => v / 256 ^ (7 - i) % 256
theorem be8_by (v : Nat) : By (be8 v) := fun x hx => by
  simp [be8] at hx; obtain ⟨i, _, rfl⟩ := hx; exact Nat.mod_lt _ (by omega)
theorem be8_length (v : Nat) : (be8 v).length = 8 := by simp [be8]
def zs (n : Nat) : Nat := (119 - n % 64) % 64
/-- What stands behind a text of n bytes. -/
def ending (n : Nat) : List Nat := 128 :: List.replicate (zs n) 0 ++ be8 (8 * n % 18446744073709551616)
theorem ending_length (n : Nat) : (ending n).length = zs n + 9 := by simp [ending, be8_length]
theorem ending_by (n : Nat) : By (ending n) := by
  unfold ending
  refine By.append (xs := 128 :: List.replicate (zs n) 0) ?_ (be8_by _)
  intro x hx
  simp at hx
  omega
def msg (xs : List Nat) : List Nat := xs ++ ending xs.length
theorem msg_mod (xs : List Nat) : (msg xs).length % 64 = 0 := by
  rw [msg, List.length_append, ending_length, zs]; omega
theorem msg_by {xs : List Nat} (h : By xs) : By (msg xs) := h.append (ending_by _)
def St.get (s : St) (i : Nat) : Nat := match i with | 0 => s.a | 1 => s.b | 2 => s.c | 3 => s.d | _ => s.e
theorem St.get_lt {s : St} (h : s.Ok) (i : Nat) : s.get i < 4294967296 := by
  unfold St.get; split
  · exact h.a
  · exact h.b
  · exact h.c
  · exact h.d
  · exact h.e
def oB (s : St) (i : Nat) : Nat := s.get (i / 4) / 2 ^ (24 - 8 * (i % 4)) % 256
def outL (s : St) : List Nat := (List.range 20).map (oB s)
/-- The sum. -/
def sum (xs : List Nat) : St := blks (msg xs) ((msg xs).length / 64)
theorem sum_ok (xs : List Nat) : (sum xs).Ok := blks_ok _ _
end Go.Proofs.YtgamfpgejkhbcaaDoor.S
