/- Sums with a key, and keys out of passwords, over lists of numbers. No Go text in sight. -/
import Derived.Test.YtgamfpgejkhbcaaDoorSMath
namespace Go.Proofs.YtgamfpgejkhbcaaDoor.S
set_option maxRecDepth 100000
open Go Go.RowKit

theorem outL_length (s : St) : (outL s).length = 20 := by simp [outL]
theorem outL_by (s : St) : By (outL s) := fun x hx => by
  simp only [outL, List.mem_map] at hx
  obtain ⟨i, _, rfl⟩ := hx
  exact Nat.mod_lt _ (by omega)
/-- A key, or, if it has more than 64 bytes, its digest. -/
def kB (key : List Nat) : List Nat := if 64 < key.length then outL (sum key) else key
/-- .. with bytes 0 behind it, up to 64. -/
def k64 (key : List Nat) : List Nat := kB key ++ List.replicate (64 - (kB key).length) 0
/-- .. each xored with a byte. -/
def kX (key : List Nat) (x : Nat) : List Nat := (k64 key).map (· ^^^ x)
/-- The sum with a key. -/
def hmac (key b : List Nat) : St := sum (kX key 92 ++ outL (sum (kX key 54 ++ b)))
theorem kB_len (key : List Nat) : (kB key).length ≤ 64 := by
  unfold kB
  split
  · rw [outL_length]; omega
  · omega
theorem k64_length (key : List Nat) : (k64 key).length = 64 := by
  have := kB_len key
  simp [k64]; omega
theorem kX_length (key : List Nat) (x : Nat) : (kX key x).length = 64 := by rw [kX, List.length_map, k64_length]
theorem kB_by {key : List Nat} (h : By key) : By (kB key) := by
  unfold kB
  split
  · exact outL_by _
  · exact h
theorem k64_by {key : List Nat} (h : By key) : By (k64 key) := (kB_by h).append (fun x hx => by simp at hx; omega)
theorem kX_by {key : List Nat} (h : By key) {x : Nat} (hx : x < 256) : By (kX key x) := fun y hy => by
  simp only [kX, List.mem_map] at hy
  obtain ⟨z, hz, rfl⟩ := hy
  have := @Nat.xor_lt_two_pow z x 8 (by have := k64_by h z hz; omega) (by omega)
  omega

/-- The four bytes of a number, the highest first. -/
def be4 (i : Nat) : List Nat := [i / 16777216 % 256, i / 65536 % 256, i / 256 % 256, i % 256]
/-- U(1), U(2), .. -/
def uK (pw salt : List Nat) (i : Nat) : Nat → St
  | 0 => hmac pw (salt ++ be4 i)
  | r + 1 => hmac pw (outL (uK pw salt i r))
/-- The xor of U(1) to U(r + 1), as bytes. -/
def tK (pw salt : List Nat) (i : Nat) : Nat → List Nat
  | 0 => outL (uK pw salt i 0)
  | r + 1 => List.zipWith (· ^^^ ·) (tK pw salt i r) (outL (uK pw salt i (r + 1)))
theorem tK_length (pw salt : List Nat) (i r : Nat) : (tK pw salt i r).length = 20 := by
  induction r with
  | zero => exact outL_length _
  | succ r ih => rw [tK, List.length_zipWith, ih, outL_length]; rfl
/-- T(1) to T(n), one behind the other. -/
def tsK (pw salt : List Nat) (r : Nat) : Nat → List Nat
  | 0 => []
  | n + 1 => tsK pw salt r n ++ tK pw salt (n + 1) r
theorem tsK_length (pw salt : List Nat) (r n : Nat) : (tsK pw salt r n).length = 20 * n := by
  induction n with
  | zero => rfl
  | succ n ih => rw [tsK, List.length_append, ih, tK_length]; omega
/-- The key. -/
def keyK (pw salt : List Nat) (rounds long : Nat) : List Nat := (tsK pw salt (rounds - 1) ((long + 19) / 20)).take long
end Go.Proofs.YtgamfpgejkhbcaaDoor.S
