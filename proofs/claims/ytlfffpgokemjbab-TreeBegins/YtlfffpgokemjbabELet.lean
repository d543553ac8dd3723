/- The reference's Letter, Valid: contracts. -/
import Derived.Test.YtlfffpgokemjbabEBase
namespace Go.Proofs.Ytlfffpgokemjbab.E
set_option maxRecDepth 100000
open Go Go.RowKit
set_option linter.unusedVariables false

/-- The value so far of a letter's bytes, its first one less c. -/
def vk (l : List UInt8) (c : Nat) : Nat → Nat
  | 0 => 0
  | 1 => bt l 0 - c
  | k + 2 => vk l c (k + 1) * 64 + bt l (k + 1) - 128
theorem vk_1 (l : List UInt8) (c : Nat) : vk l c 1 = bt l 0 - c := rfl
theorem vk_step (l : List UInt8) (c : Nat) (k : Nat) (h : 1 ≤ k) : vk l c (k + 1) = vk l c k * 64 + bt l k - 128 := by
  obtain ⟨j, rfl⟩ : ∃ j, k = j + 1 := ⟨k - 1, by omega⟩
  rfl
def LetOk (l : List UInt8) (w : World) (e : Ending) (w' : World) : Prop := e = .returned (.tuple #[.int .i64 ((ltr l).1 : Nat), .int .i64 ((ltr l).2 : Nat)]) ∧ w' = w
theorem LetOk.mk {l : List UInt8} {w : World} {v n : Nat} (h : ltr l = (v, n)) : LetOk l w (.returned (.tuple #[.int .i64 (v : Int), .int .i64 (n : Int)])) w := by
  unfold LetOk
  rw [h]
  exact ⟨rfl, rfl⟩
theorem bit_neg {l : List UInt8} (hn : l ≠ []) (h0 : ¬ bt l 0 < 128) (h2 : ¬ is2 l) (h3 : ¬ is3 l) (h4 : ¬ is4 l) : ltr l = (0, 0) := by rw [ltr, if_neg hn, if_neg h0, if_neg h2, if_neg h3, if_neg h4]

theorem vk_is2 (l : List UInt8) : vk l 192 2 = v2 l := rfl
theorem is2_no {l : List UInt8} (i : Nat) (hi : 1 ≤ i) (hn : i < 2) (h : ¬ ct (bt l i)) : ¬ is2 l := fun q => h (by
  obtain rfl : i = 1 := by omega
  exact q.2.2.2.1)
theorem vk_is3 (l : List UInt8) : vk l 224 3 = v3 l := rfl
theorem is3_no {l : List UInt8} (i : Nat) (hi : 1 ≤ i) (hn : i < 3) (h : ¬ ct (bt l i)) : ¬ is3 l := fun q => h (by
  obtain rfl | rfl : i = 1 ∨ i = 2 := by omega
  · exact q.2.2.2.1
  · exact q.2.2.2.2.1)
theorem vk_is4 (l : List UInt8) : vk l 240 4 = v4 l := rfl
theorem is4_no {l : List UInt8} (i : Nat) (hi : 1 ≤ i) (hn : i < 4) (h : ¬ ct (bt l i)) : ¬ is4 l := fun q => h (by
  obtain rfl | rfl | rfl : i = 1 ∨ i = 2 ∨ i = 3 := by omega
  · exact q.2.2.2.1
  · exact q.2.2.2.2.1
  · exact q.2.2.2.2.2.1)
end Go.Proofs.Ytlfffpgokemjbab.E
