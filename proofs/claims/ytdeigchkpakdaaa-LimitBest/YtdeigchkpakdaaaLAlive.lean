/- What lengths cost; the laws' probe. -/
import Derived.Test.YtdeigchkpakdaaaLLengths
import Derived.Test.YtdeigchkpakdaaaLCost
namespace Go.Proofs.Ytdeigchkpakdaaa
open Go Go.RowKit

/-- Lengths that belong to weights: 0 where a symbol does not occur, 1 to L where it does. -/
def Valid (ls F : List Int) (L n : Nat) : Prop := ∀ i, i < n → (ln ls i = 0 ∧ ln F i = 0) ∨ (0 < ln ls i ∧ 1 ≤ ln F i ∧ ln F i ≤ L)
theorem occ_succ_pos {ls : List Int} {n : Nat} (h : 0 < ln ls n) : occ ls (n + 1) = occ ls n ++ [(n : Int)] := by rw [occ, if_pos h]
theorem occ_succ_zero {ls : List Int} {n : Nat} (h : ¬ 0 < ln ls n) : occ ls (n + 1) = occ ls n := by rw [occ, if_neg h]
theorem cst_snoc (Z : List (Nat × Nat)) (z : Nat × Nat) : cst (Z ++ [z]) = cst Z + z.1 * z.2 := by simp [cst]
theorem krf_snoc (L : Nat) (Z : List (Nat × Nat)) (z : Nat × Nat) : krf L (Z ++ [z]) = krf L Z + 2 ^ (L - z.2) := by simp [krf]
theorem zOf_snoc (ls F d : List Int) (n : Nat) : zOf ls F (d ++ [(n : Int)]) = zOf ls F d ++ [((ln ls n).toNat, (ln F n).toNat)] := by simp [zOf, keyOf]
theorem mul_le_of {x y : Nat} (a b c : Nat) (hx : x ≤ a) (hy : y ≤ b) (hc : a * b = c) : x * y ≤ c := by rw [← hc]; exact Nat.mul_le_mul hx hy
theorem cst_bd {ls F : List Int} {L n : Nat} (ha : AlwTo ls n) (hv : Valid ls F L n) (hL : L ≤ 15) : cst (zOf ls F (occ ls n)) ≤ 16106127360 * n := by
  induction n with
  | zero => simp [occ, zOf, cst]
  | succ n ih =>
    have i := ih (fun i hi => ha i (by omega)) (fun i hi => hv i (by omega))
    by_cases h : 0 < ln ls n
    · rw [occ_succ_pos h, zOf_snoc, cst_snoc]
      have h1 := ha n (by omega)
      have h2 := hv n (by omega)
      have h3 : (ln ls n).toNat * (ln F n).toNat ≤ 16106127360 := mul_le_of 1073741824 15 16106127360 (by omega) (by omega) (by decide)
      generalize cst (zOf ls F (occ ls n)) = C at i ⊢
      show C + (ln ls n).toNat * (ln F n).toNat ≤ _
      generalize (ln ls n).toNat * (ln F n).toNat = P at h3 ⊢
      omega
    · rw [occ_succ_zero h]
      generalize cst (zOf ls F (occ ls n)) = C at i ⊢
      omega
theorem wrap_sum {C P : Nat} (hC : C ≤ 5153960755200) (hP : P ≤ 16106127360) : wrap64 ((C : Int) + wrap64 ((P : Nat) : Int)) = ((C + P : Nat) : Int) := by
  unfold wrap64; omega
theorem cw_cst {ls F : List Int} {L n : Nat} (ha : AlwTo ls n) (hv : Valid ls F L n) (hL : L ≤ 15) (hn : n ≤ 320) : cw ls F n = (cst (zOf ls F (occ ls n)) : Nat) := by
  induction n with
  | zero => simp [cw, occ, zOf, cst]
  | succ n ih =>
    have i := ih (fun i hi => ha i (by omega)) (fun i hi => hv i (by omega)) (by omega)
    have hb := cst_bd (fun i hi => ha i (by omega)) (fun i hi => hv i (by omega)) hL (n := n)
    have hC : cst (zOf ls F (occ ls n)) ≤ 5153960755200 := Nat.le_trans hb (Nat.mul_le_mul_left 16106127360 (show n ≤ 320 by omega))
    rw [cw, i]
    have h1 := ha n (by omega)
    have h2 := hv n (by omega)
    by_cases h : 0 < ln ls n
    · rw [occ_succ_pos h, zOf_snoc, cst_snoc]
      have h3 : (ln ls n).toNat * (ln F n).toNat ≤ 16106127360 := mul_le_of 1073741824 15 16106127360 (by omega) (by omega) (by decide)
      have e : ln ls n * ln F n = (((ln ls n).toNat * (ln F n).toNat : Nat) : Int) := by
        rw [Int.natCast_mul, Int.toNat_of_nonneg (by omega), Int.toNat_of_nonneg (by omega)]
      rw [e]
      exact wrap_sum hC h3
    · have e0 : ln ls n = 0 := by omega
      rw [occ_succ_zero h, e0, Int.zero_mul]
      exact wrap_sum hC (Nat.zero_le _)
theorem LGoodR.valid {ls F : List Int} {L : Nat} (h : LGoodR ls L F) (ha : AlwTo ls ls.length) (hL : 1 ≤ L) : Valid ls F L ls.length := by
  intro i hi
  by_cases h0 : 0 < ln ls i
  · right
    refine ⟨h0, ?_⟩
    have hm : (i : Int) ∈ occ ls ls.length := (occ_mem ls ls.length _).2 ⟨i, rfl, hi, h0⟩
    by_cases h1 : (occ ls ls.length).length = 1
    · rw [h.one h1 i hi h0]; omega
    · have h2 : 2 ≤ (occ ls ls.length).length := by have := List.length_pos_of_mem hm; omega
      have hf := (h.best h2).feas.lens ((ln ls i).toNat, (ln F i).toNat) (List.mem_map.2 ⟨(i : Int), hm, by simp [keyOf]⟩)
      have := h.pos i
      simp only at hf
      omega
  · left
    have := ha i hi
    exact ⟨by omega, h.zero i (fun h' => h0 h'.2)⟩
/-- The cost that Cost tells of what Lengths told. -/
theorem LGoodR.cost {ls F : List Int} {L : Nat} (h : LGoodR ls L F) (ha : Alw ls L) : cw ls F (min ls.length F.length) = (cst (zOf ls F (occ ls ls.length)) : Nat) := by
  rw [h.len, Nat.min_self]
  have h1 := ha.2.1
  have h2 := ha.2.2.1
  exact cw_cst ha.2.2.2 (h.valid ha.2.2.2 (by omega)) (by omega) ha.1

theorem alive_dec : ∀ a : Fin 3, ∀ b : Fin 12, ∀ c : Fin 12, ∀ d : Fin 6, (1 ≤ a.val ∧ 1 ≤ b.val ∧ 1 ≤ c.val ∧ 1 ≤ d.val ∧ 5 * a.val + b.val + c.val + 2 * d.val ≤ 15 ∧ 2 ^ (15 - a.val) + 2 ^ (15 - b.val) + 2 ^ (15 - c.val) + 2 ^ (15 - d.val) = 2 ^ 15) → a.val = 1 ∧ d.val = 2 ∧ 5 * a.val + b.val + c.val + 2 * d.val = 15 := by decide +kernel
theorem alive_good {F : List Int} (h : LGoodR [5, 1, 1, 2] 15 F) : ln F 0 = 1 ∧ ln F 3 = 2 ∧ cst (zOf [5, 1, 1, 2] F (occ [5, 1, 1, 2] 4)) = 15 := by
  have ho : occ [5, 1, 1, 2] 4 = [0, 1, 2, 3] := by decide
  have hb := h.best (by show 2 ≤ (occ [5, 1, 1, 2] 4).length; rw [ho]; decide)
  rw [show ([5, 1, 1, 2] : List Int).length = 4 from rfl, ho] at hb
  rw [ho]
  have e : zOf [5, 1, 1, 2] F [0, 1, 2, 3] = [(5, (ln F 0).toNat), (1, (ln F 1).toNat), (1, (ln F 2).toNat), (2, (ln F 3).toNat)] := by rfl
  rw [e] at hb ⊢
  have hf := hb.full (by simp) (by intro z hz; simp at hz; rcases hz with rfl | rfl | rfl | rfl <;> simp)
  have hl := hb.least (Y := [(5, 1), (1, 3), (1, 3), (2, 2)]) ⟨by intro z hz; simp at hz; rcases hz with rfl | rfl | rfl <;> simp, by decide⟩ (List.Perm.refl _)
  have k0 := hb.feas.lens (5, (ln F 0).toNat) (by simp)
  have k1 := hb.feas.lens (1, (ln F 1).toNat) (by simp)
  have k2 := hb.feas.lens (1, (ln F 2).toNat) (by simp)
  have k3 := hb.feas.lens (2, (ln F 3).toNat) (by simp)
  have p0 := h.pos 0
  have p3 := h.pos 3
  simp [krf] at hf
  simp [cst] at hl ⊢
  generalize hA : (ln F 0).toNat = A at *
  generalize hB : (ln F 1).toNat = B at *
  generalize hC : (ln F 2).toNat = C at *
  generalize hD : (ln F 3).toNat = D at *
  have := alive_dec ⟨A, by omega⟩ ⟨B, by omega⟩ ⟨C, by omega⟩ ⟨D, by omega⟩ ⟨k0.1, k1.1, k2.1, k3.1, by simp only; omega, by simp only; omega⟩
  simp only at this
  omega

abbrev proO : Obj := .cells #[.int .i64 5, .int .i64 1, .int .i64 1, .int .i64 2] 3
theorem pro_ints (w : World) : Ints 0 (w.heap.size + 1) (w.alloc proO) (some ⟨w.heap.size, 0, none⟩) [5, 1, 1, 2] := by
  have h : Ro w.heap.size #[] [5, 1, 1, 2] (w.alloc proO) := heap_new w _
  exact h.ints (Nat.zero_le _) (by omega)
theorem pro_alw : Alw [5, 1, 1, 2] (15 : Nat) := by
  refine ⟨by decide, by decide, by decide, ?_⟩
  intro i hi
  have : i = 0 ∨ i = 1 ∨ i = 2 ∨ i = 3 := by simp at hi; omega
  rcases this with rfl | rfl | rfl | rfl <;> decide
theorem pro_fits : FitsP [5, 1, 1, 2] (15 : Nat) := ⟨pro_alw, by decide⟩

set_option maxHeartbeats 1000000 in
set_option maxRecDepth 100000 in
theorem alive_any (w : World) : Calls Try.prog 11 #[] w fun e w' => e = .returned (.bool true) ∧ Below w.heap.size w w' := by
  have hQ : Calls Try.prog 9 #[.slice (some ⟨w.heap.size, 0, none⟩) 4 4, .int .i64 15] (w.alloc proO) (LensYes [5, 1, 1, 2] 15 (w.alloc proO)) := lengths_yes (w.heap.size + 1) (some ⟨w.heap.size, 0, none⟩) 4 [5, 1, 1, 2] 15 (w.alloc proO) (pro_ints w) pro_fits
  have HQ := hide hQ
  clear hQ
  go_enter Try.func11, Try.ntmps11
  go_upto_region 3 with (first
    | (go_at_call 9; refine HQ.out.mono ?_; rintro e w1 ⟨gl, F, rfl, k1, k2, k3, k4⟩; have HG := hide k1; have HR := hide k2; have HGD := hide k3; have HB := hide k4; clear k1 k2 k3 k4))
  obtain ⟨a0, a3, ac⟩ := alive_good HGD.out
  have hFl : F.length = 4 := HGD.out.len
  have c0 := HR.out.cell (i := 0) (by omega)
  have c3 := HR.out.cell (i := 3) (by omega)
  rw [a0] at c0
  rw [a3] at c3
  have hI1 : Ints 0 (w.heap.size + 1) w1 (some ⟨w.heap.size, 0, none⟩) [5, 1, 1, 2] := (pro_ints w).stay HB.out
  have hcost := cost_c 0 (w.heap.size + 1) 0 (gl + 1) (some ⟨w.heap.size, 0, none⟩) (some ⟨gl, 0, none⟩) 4 4 [5, 1, 1, 2] F w1 hI1 (HR.out.ints (Nat.zero_le _) (by omega)) (by decide)
  rw [HGD.out.cost pro_alw] at hcost
  rw [show (([5, 1, 1, 2] : List Int).length) = 4 from rfl, ac, hFl] at hcost
  have HC := hide hcost
  clear hcost hI1 a0 a3 ac hFl
  go_wp2_with ((go_at_call 14; refine HC.out.mono ?_; rintro e w2 ⟨rfl, q, rfl⟩))
  go_ret
  have b1 : Below w.heap.size w w1 := ((Below.refl w.heap.size w).alloc (Nat.le_refl _) _).trans (HB.out.mono (by simp))
  exact ⟨rfl, b1.os, b1.tape, b1.output, b1.size, b1.block⟩
#print axioms alive_any
end Go.Proofs.Ytdeigchkpakdaaa
