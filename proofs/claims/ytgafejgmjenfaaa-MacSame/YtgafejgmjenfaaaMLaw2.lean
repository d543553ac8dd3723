/- The law on Same: walked. -/
import Derived.Test.YtgafejgmjenfaaaMAlive
namespace Go.Proofs.Ytgafejgmjenfaaa.S
set_option maxRecDepth 100000
open Go Go.RowKit

theorem strs_same {xs ys : List Nat} (hx : By xs) (hy : By ys) : ((strOfNums (xs.map fun (x : Nat) => (x : Int))).toList == (strOfNums (ys.map fun (x : Nat) => (x : Int))).toList) = decide (xs = ys) := by
  by_cases e : xs = ys
  · subst e; simp
  · rw [decide_eq_false e]
    rw [beq_eq_false_iff_ne]
    intro h
    apply e
    have h2 : (strOfNums (xs.map fun (x : Nat) => (x : Int))).data.toList = (strOfNums (ys.map fun (x : Nat) => (x : Int))).data.toList := by
      rw [ByteArray.toList_eq, ByteArray.toList_eq] at h
      exact h
    rw [strOfNums_data, strOfNums_data] at h2
    simp only [List.map_map] at h2
    have g : ∀ (zs : List Nat), By zs → (zs.map ((fun n : Int => UInt8.ofNat n.toNat) ∘ fun (x : Nat) => (x : Int))).map UInt8.toNat = zs := fun zs hz => by
      rw [List.map_map]
      conv => rhs; rw [← List.map_id zs]
      apply List.map_congr_left
      intro x hx
      have := hz x hx
      simp [Function.comp]
      omega
    rw [← g xs hx, h2, g ys hy]

set_option maxHeartbeats 4000000 in
theorem macSame_walk (a b : Option Addr) (ca cb : Nat) (xs ys : List Nat) (w : World) (h0 : BIn w a ca xs) (h1 : BIn w b cb ys) (hl0 : xs.length ≤ 140737488351232) :
    Calls Try.prog 4 #[.slice a xs.length ca, .slice b ys.length cb] w (Yes w) := by
  have HP := fun W (k : Below w.heap.size w W) => hide (same_c a b ca cb xs ys W h0.by_ h1.by_ (h0.text.below k) (h1.text.below k) (by omega))
  have HC0 := fun W (k : Below w.heap.size w W) => conv_at (cap := ca) (h0.text.below k)
  have HC1 := fun W (k : Below w.heap.size w W) => conv_at (cap := cb) (h1.text.below k)
  have hst := strs_same h0.by_ h1.by_
  obtain ⟨D, hD⟩ : ∃ D, D = decide (xs = ys) := ⟨_, rfl⟩
  obtain ⟨S0, hS0⟩ : ∃ S, S = strOfNums (xs.map fun (x : Nat) => (x : Int)) := ⟨_, rfl⟩
  obtain ⟨S1, hS1⟩ : ∃ S, S = strOfNums (ys.map fun (x : Nat) => (x : Int)) := ⟨_, rfl⟩
  rw [← hS0, ← hS1, ← hD] at hst
  rw [← hD] at HP
  rw [← hS0] at HC0
  rw [← hS1] at HC1
  obtain ⟨N, hN⟩ : ∃ N, N = xs.length := ⟨_, rfl⟩
  obtain ⟨M, hM⟩ : ∃ M, M = ys.length := ⟨_, rfl⟩
  rw [← hN] at HP HC0 ⊢
  rw [← hM] at HP HC1 ⊢
  clear h0 h1 hl0 hD hS0 hS1 hN hM
  have HC0' := hide HC0
  have HC1' := hide HC1
  clear HC0 HC1
  go_enter Try.func4, Try.ntmps4
  go_upto_region 1 with fail
  go_region_with (first
    | (go_at_call 9; refine (alive_c _).mono ?_; rintro e w1 ⟨rfl, b1⟩; have B1 := hide (show Below w.heap.size w w1 from ⟨b1.os, b1.tape, b1.output, b1.size, b1.block⟩); have c0 := HC0'.out w1 B1.out; have c1 := HC1'.out w1 B1.out; have c0' := fun q => HC0'.out (w1.drewN q) ⟨b1.os, b1.tape, b1.output, b1.size, b1.block⟩; have c1' := fun q => HC1'.out (w1.drewN q) ⟨b1.os, b1.tape, b1.output, b1.size, b1.block⟩; clear b1)
    | (go_at_call 12; refine (HP w1 B1.out).out.mono ?_; rintro e w2 ⟨rfl, q, rfl⟩))
  all_goals go_wp2_with fail
  all_goals go_ret
  all_goals exact ⟨rfl, ⟨B1.out.os, B1.out.tape, B1.out.output, B1.out.size, B1.out.block⟩⟩
end Go.Proofs.Ytgafejgmjenfaaa.S
