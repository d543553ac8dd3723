/- Two arrays of twenty bytes that are like each other: == tells so. -/
import Derived.Test.YtgafejgmjenfaaaSSum
import Derived.DeepKeys
namespace Go.Proofs.Ytgafejgmjenfaaa.S
set_option maxRecDepth 100000
open Go Go.RowKit

theorem mapM_some {α β : Type} (g : α → Option β) (h : α → β) (l : List α) (H : ∀ x ∈ l, g x = some (h x)) : l.mapM g = some (l.map h) := by
  induction l with
  | nil => rfl
  | cons x r ih => simp [List.mapM_cons, H x (by simp), ih (fun y hy => H y (by simp [hy]))]
theorem oB_lt (s : St) (i : Nat) : oB s i < 256 := Nat.mod_lt _ (by omega)
theorem und20 : Try.prog.underlying 24 = some (.array 20 5) := by kernel_rfl
theorem undU8 : Try.prog.underlying 5 = some (.int .u8) := by kernel_rfl
theorem cells20 : Try.prog.cellsOf 24 = 20 := by kernel_rfl
theorem cells1 : Try.prog.cellsOf 5 = 1 := by kernel_rfl
theorem lits20 (f : Nat → Nat) (hf : ∀ i, f i < 256) : ∃ l, Try.prog.keyLits 3 24 (fA .u8 20 f 20).toList = some l := by
  unfold Program.keyLits
  simp only [und20]
  rw [if_pos (by rw [cells20, Array.length_toList, fA_size]), cells1, mapM_some _ (fun i => [Lit.int .u8 (f i : Int)])]
  · exact ⟨_, rfl⟩
  · intro i hi
    have hi' : i < 20 := by simpa using hi
    have e : ((fA .u8 20 f 20).toList.drop (i * 1)).take 1 = [.int .u8 (f i : Nat)] := by
      have h := fA_at .u8 f hi' hi'
      rw [← Array.getElem?_toList] at h
      rw [Nat.mul_one, List.take_one, List.head?_drop, h]; rfl
    rw [e]
    unfold Program.keyLits
    simp only [undU8]
    have := hf i
    have h0 : IntKind.u8.min = 0 := by decide
    have h1 : IntKind.u8.max = 255 := by decide
    rw [if_pos ⟨trivial, by simp only [Lit.wf, h0, h1, Bool.and_eq_true, decide_eq_true_eq]; omega⟩]
theorem eq20 (s : St) (w : World) : (Op.equalIn 10000 24 (.agg (oA s 20)) (.agg (oA s 20))).run Try.prog w = .ok true w := by
  obtain ⟨l, hl⟩ := lits20 (oB s) (oB_lt s)
  obtain ⟨r, hr, hi⟩ := run_equalIn_deep (P := Try.prog) 9997 3 24 (by kernel_rfl) w 3 3 (.agg (oA s 20)) (.agg (oA s 20)) l l (by kernel_rfl) (by kernel_rfl) hl hl
  rw [hi.2 rfl] at hr
  exact hr
end Go.Proofs.Ytgafejgmjenfaaa.S
