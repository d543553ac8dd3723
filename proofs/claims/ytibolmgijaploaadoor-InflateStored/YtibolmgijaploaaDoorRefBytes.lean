/- The reference's Bytes: bits become bytes. -/
import Derived.Test.YtibolmgijaploaaDoorRefRow
namespace Go.Proofs.YtibolmgijaploaaDoor
open Go.RowKit

/-- A slice value that owns the bytes D. -/
def OwnsB (w : World) (base : Nat) (v : Value) (D : List Int) : Prop := w.ownsRow base 5 1 v D.length (D.map (Value.int .u8))
theorem OwnsB.nil (w : World) (base : Nat) : OwnsB w base (.slice none 0 0) [] := World.ownsRow_nil _ _ _ _
theorem OwnsB.push {w : World} {base : Nat} {v : Value} {L : List Int} {x : Int} (h : w.ownsRow base 5 1 v (L.length + 1) (L.map (Value.int .u8) ++ [.int .u8 x])) : OwnsB w base v (L ++ [x]) := by
  unfold OwnsB
  simpa using h
theorem one_byte (w : World) (x : Value) : ∀ j u, [x][j]? = some u → (w.alloc (.cells #[x] 5)).cell? ((⟨w.heap.size, 0, none⟩ : Addr).add j) = some u := World.news_of_block (heap_new w (.cells #[x] 5))

/-- The numbers L lie in memory, where a slice leads. -/
def Nums (w : World) (a : Option Addr) (L : List Int) : Prop := L.length = 0 ∨ ∃ b off, b < w.heap.size ∧ a = some ⟨b, off, none⟩ ∧ ∀ i, i < L.length → w.cell? ⟨b, off + i, none⟩ = some (.int .i64 (L.getD i 0))

def Bin (L : List Int) : Prop := ∀ i, 0 ≤ L.getD i 0 ∧ L.getD i 0 ≤ 1

/-- The first j bits from place i on, as a number (0 where there are none). -/
def packB (L : List Int) (i : Nat) : Nat → Int
  | 0 => 0
  | j + 1 => packB L i j + 2 ^ j * L.getD (i + j) 0

def bytesL (L : List Int) (q : Nat) : List Int := (List.range q).map fun r => packB L (8 * r) 8

theorem packB_bd (L : List Int) (h : Bin L) (i j : Nat) : 0 ≤ packB L i j ∧ packB L i j < 2 ^ j := by
  induction j with
  | zero => simp [packB]
  | succ j ih =>
    have hb := h (i + j)
    have hp := pow_pos' j
    rw [packB, Int.pow_succ]
    have : L.getD (i + j) 0 = 0 ∨ L.getD (i + j) 0 = 1 := by omega
    rcases this with e | e <;> rw [e] <;> omega

theorem pack_step (P X l : Int) (h0 : 0 ≤ l) (h1 : l ≤ 1) (hp0 : 0 ≤ P) (hp1 : P ≤ 256) (hx0 : 0 ≤ X) (hx1 : X ≤ 256) : wrap64 (X + wrap64 (P * l)) = X + P * l := by
  have : l = 0 ∨ l = 1 := by omega
  rcases this with e | e
  · subst e
    rw [Int.mul_zero, IntWalk.wrap64_in 0 (by omega), IntWalk.wrap64_in _ (by omega)]
  · subst e
    rw [Int.mul_one, IntWalk.wrap64_in P (by omega), IntWalk.wrap64_in _ (by omega)]

theorem pow_le_8 {k : Nat} (h : k ≤ 8) : (2 : Int) ^ k ≤ 256 := by
  have : (2 : Nat) ^ k ≤ 2 ^ 8 := Nat.pow_le_pow_right (by decide) h
  have h2 : ((2 ^ k : Nat) : Int) ≤ ((2 ^ 8 : Nat) : Int) := by exact_mod_cast this
  simpa using h2

end Go.Proofs.YtibolmgijaploaaDoor
