/- Words in a row of one's own; append to it. -/
import Derived.Test.YtgafejgmjenfaaaSFill
namespace Go.Proofs.Ytgafejgmjenfaaa.S
set_option maxRecDepth 100000
open Go Go.RowKit

def wV (xs : List Nat) : List Value := xs.map fun (x : Nat) => Value.int .u32 (x : Int)
/-- Words in a row of one's own. -/
def OwnsW (w : World) (base : Nat) (v : Value) (xs : List Nat) : Prop := w.ownsRow base 37 1 v xs.length (wV xs)
theorem OwnsW.nil (w : World) (base : Nat) : OwnsW w base (.slice none 0 0) [] := World.ownsRow_nil _ _ _ _
theorem OwnsW.push {w : World} {base : Nat} {v : Value} {xs : List Nat} {x : Nat} (h : w.ownsRow base 37 1 v (xs.length + 1) (wV xs ++ [.int .u32 (x : Int)])) : OwnsW w base v (xs ++ [x]) := by
  unfold OwnsW
  rw [List.length_append, List.length_singleton, show wV (xs ++ [x]) = wV xs ++ [.int .u32 (x : Int)] by simp [wV]]
  exact h
theorem OwnsW.drewN {w : World} {base : Nat} {v : Value} {xs : List Nat} (h : OwnsW w base v xs) (n : Nat) : OwnsW (w.drewN n) base v xs := h
theorem OwnsW.form {w : World} {base : Nat} {v : Value} {xs : List Nat} (h : OwnsW w base v xs) : ∃ a c, v = .slice a xs.length c := by
  rcases h.2 with ⟨rfl, h2⟩ | ⟨g, cap, cur, rfl, _⟩
  · exact ⟨none, 0, by rw [h2]⟩
  · exact ⟨_, _, rfl⟩
theorem OwnsW.cell {w : World} {base : Nat} {a : Option Addr} {n c : Nat} {xs : List Nat} (h : OwnsW w base (.slice a n c) xs) {i : Nat} (hi : i < xs.length) : ∃ g, a = some ⟨g, 0, none⟩ ∧ base ≤ g ∧ g < w.heap.size ∧ ∀ j, j < xs.length → w.cell? ⟨g, j, none⟩ = some (.int .u32 (xs.getD j 0 : Nat)) := by
  rcases h.2 with ⟨e, h2⟩ | ⟨g, cap, cur, e, hb, hh, _⟩
  · omega
  · simp only [Value.slice.injEq] at e
    obtain ⟨rfl, rfl, rfl⟩ := e
    refine ⟨g, rfl, hb, lt_of_block hh, fun j hj => ?_⟩
    rw [World.ownsRow.cellAt h j (by omega)]
    simp [wV, hj]
theorem grow_below {w0 wx wy : World} {v : Value} {xs : List Nat} (h : OwnsW wx w0.heap.size v xs) (hb : Below w0.heap.size w0 wx) (hg : wx.grownBy wy v.ownBlock) : Below w0.heap.size w0 wy :=
  hb.trans ((Kept.of_grown hg).below hb.size (fun i hi e => by have := (ownsRow_lt h e.symm).1; omega))
def fL (f : Nat → Nat) (t : Nat) : List Nat := (List.range t).map f
theorem fL_push (f : Nat → Nat) (t : Nat) : fL f t ++ [f t] = fL f (t + 1) := by simp [fL, List.range_succ]
theorem fL_length (f : Nat → Nat) (t : Nat) : (fL f t).length = t := by simp [fL]
theorem fL_at (f : Nat → Nat) {t i : Nat} (h : i < t) : (fL f t).getD i 0 = f i := by simp [fL, h]
theorem own_draw {w : World} {base : Nat} {v : Value} {xs : List Nat} {n : Nat} (hn : xs.length = n) (h : OwnsW w base v xs) (o : Obj) : (w.alloc o).drew.ownsRow base 37 1 v n (wV xs) := by
  subst hn
  exact World.ownsRow.alloc h o
theorem own_next {w0 w w1 : World} {v v' : Value} {f : Nat → Nat} {t X : Nat} {o : Obj} (hX : X = f t) (h : OwnsW w w0.heap.size v (fL f t)) (hb : Below w0.heap.size w0 w) (ho : w1.ownsRow w0.heap.size 37 1 v' (t + 1) (wV (fL f t) ++ [.int .u32 (X : Int)])) (hg : (w.alloc o).drew.grownBy w1 v.ownBlock) :
    OwnsW w1 w0.heap.size v' (fL f (t + 1)) ∧ Below w0.heap.size w0 w1 := by
  refine ⟨?_, ?_⟩
  · rw [← fL_push, ← hX]
    refine OwnsW.push ?_
    rw [fL_length]
    exact ho
  · have h2 : Below w0.heap.size w0 (w.alloc o).drew := by
      have := hb.alloc hb.size o
      exact ⟨this.os, this.tape, this.output, this.size, this.block⟩
    exact grow_below (wx := (w.alloc o).drew) (World.ownsRow.alloc h o) h2 hg
/-- append of one word to a row of one's own: the elder slice reads as it did. -/
theorem run_app1 (w : World) (ty : TypeId) (base g n cap : Nat) (xs : List Value) (hown : w.ownsRow base 37 1 (.slice (some ⟨g, 0, none⟩) n cap) n xs) (c : Nat) (y : Value) (hy : w.heap[c]? = some (.cells #[y] 37 (0, 0))) (h1 : y.oneCell' = true) (hn : n + 1 ≤ 1000) (hb : base ≤ w.heap.size) :
    ∃ v' w', (Builtin.append_ #[48, 48] ty #[.slice (some ⟨g, 0, none⟩) n cap, .slice (some ⟨c, 0, none⟩) 1 1]).run Try.prog w = .ok v' w' ∧ w'.ownsRow base 37 1 v' (n + 1) (xs ++ [y]) ∧ w.grownBy w' (some g) ∧ w'.ownsRow base 37 1 (.slice (some ⟨g, 0, none⟩) n cap) n xs := by
  obtain ⟨i, hi, hz, hs, hby⟩ := info_parts infoW
  have hnews : ∀ j u, [y][j]? = some u → w.cell? ((⟨c, 0, none⟩ : Addr).add j) = some u := World.news_of_block hy
  have hone : ∀ u ∈ [y], u.oneCell' = true := fun u hu => by simp at hu; subst hu; exact h1
  obtain ⟨v', w', hr, h2, h3, _⟩ := run_append_own_at (P := Try.prog) w base 48 ty 37 i (.int .u32 0) 1 4 Try.underlying48 hi hz hs hby rfl (by decide) _ n xs hown ⟨c, 0, none⟩ 1 1 [y] rfl hnews hone (by unfold maxLen; omega) (by omega) hb
  refine ⟨v', w', hr, h2, h3, ?_⟩
  rcases hown.2 with ⟨e, _⟩ | ⟨g', cap', cur, e, hbg, hg, hnc, hcm, hcs, htake⟩
  · cases e
  · simp only [Value.slice.injEq, Option.some.injEq, Addr.mk.injEq, and_true, true_and] at e
    obtain ⟨rfl, rfl⟩ := e
    by_cases hroom : n + 1 ≤ cap
    · have hr2 := run_append_room (P := Try.prog) w 48 ty 37 i Try.underlying48 hi g n cap cur hg ⟨c, 0, none⟩ 1 1 [y] (by rw [hs]; rfl) hnews hone hroom (by rw [hs, hcs]; simp; omega)
      rw [hr] at hr2
      simp only [Result.ok.injEq] at hr2
      obtain ⟨_, rfl⟩ := hr2
      refine ⟨hown.1, .inr ⟨g, cap, _, rfl, hbg, setRow_heap' w g _ _ _ _ hg, hnc, hcm, ?_, ?_⟩⟩
      · rw [hs] at *; simp only [List.size_toArray, List.length_append, List.length_take, List.length_drop, Array.length_toList, List.length_singleton]; omega
      · rw [hs]
        simp only [Nat.mul_one] at htake ⊢
        rw [htake]
        have hx : xs.length = n := by have := hown.1; omega
        rw [List.append_assoc, List.take_append_of_le_length (by omega), List.take_of_length_le (by omega)]
    · have holds : ∀ j u, xs[j]? = some u → w.cell? ((⟨g, 0, none⟩ : Addr).add j) = some u := hown.cells (g := g) rfl
      have hr2 := run_append_grow (P := Try.prog) w 48 ty 37 i (.int .u32 0) Try.underlying48 hi hz ⟨g, 0, none⟩ n cap xs (by rw [hs]; exact hown.1) holds ⟨c, 0, none⟩ 1 1 [y] (by rw [hs]; rfl) hnews (by omega) (by omega) (by rw [hby]; exact growslice_fits (by omega) (by omega))
      rw [hr] at hr2
      simp only [Result.ok.injEq] at hr2
      obtain ⟨_, rfl⟩ := hr2
      exact ⟨hown.1, .inr ⟨g, cap, cur, rfl, hbg, heap_old (w := w.drew) hg, hnc, hcm, hcs, htake⟩⟩
theorem step_app1 {ops : Array Oper} {o : Oper} {a : Act} {K : Act → World → Prop} {Q : Exit → Act → World → Prop} {E : Prop} (w : World) (hgd : o.guard = none) (s x : Operand)
    (ho : o.op = .call { callee := .builtin .append, args := #[s, x], argTypes := #[48, 48] })
    (base g n cap : Nat) (xs : List Value) (hs : a.eval s = .slice (some ⟨g, 0, none⟩) n cap) (hown : w.ownsRow base 37 1 (.slice (some ⟨g, 0, none⟩) n cap) n xs) (c : Nat) (y : Value) (hx : a.eval x = .slice (some ⟨c, 0, none⟩) 1 1) (hy : w.heap[c]? = some (.cells #[y] 37 (0, 0))) (h1 : y.oneCell' = true) (hn : n + 1 ≤ 1000) (hb : base ≤ w.heap.size)
    (h : ∀ v' w', w'.ownsRow base 37 1 v' (n + 1) (xs ++ [y]) → w.grownBy w' (some g) → w'.ownsRow base 37 1 (.slice (some ⟨g, 0, none⟩) n cap) n xs → K (a.put o.dst v') w') :
    if Region.wanted o (yielded ops a.tmps) = true then Oper.wp Try.prog o a w K Q else E := by
  have hw : Region.wanted o (yielded ops a.tmps) = true := by simp [Region.wanted, hgd]
  rw [if_pos hw]
  obtain ⟨v', w', hr, h2, h3, h4⟩ := run_app1 w o.type base g n cap xs hown c y hy h1 hn hb
  unfold Oper.wp execOp
  simp only [ho, resolve, invoke, builtin, Sem.run_bind, Sem.run_pure, Result.andThen_ok, List.map_toArray, List.map_cons, List.map_nil, hs, hx, hr]
  exact h v' w' h2 h3 h4
end Go.Proofs.Ytgafejgmjenfaaa.S
