/- The reference's Sort: contract. -/
import Derived.Test.YtlfffpgokemjbabURef
namespace Go.Proofs.Ytlfffpgokemjbab.U
set_option maxRecDepth 100000
open Go Go.RowKit
set_option linter.unusedVariables false
/-- A path is above another one. -/
def gtB (a b : ByteArray) : Bool := !(Op.bytesLess a.toList b.toList || a.toList == b.toList)
theorem gtr_c (t : TypeId) (a b : ByteArray) : binOp .gtr t (.string a) (.string b) = pure (.bool (gtB a b)) := by simp [binOp, Op.stringOp, gtB]
/-- An entry put behind all whose path is not above. -/
def ins (x : En) : List En → List En
  | [] => [x]
  | y :: r => if gtB y.path x.path = true then x :: y :: r else y :: ins x r
def srt (es : List En) : List En := es.foldl (fun out x => ins x out) []
theorem srt_succ {es : List En} {i : Nat} {m : En} (hm : es[i]? = some m) : srt (es.take (i + 1)) = ins m (srt (es.take i)) := by
  have : es.take (i + 1) = es.take i ++ [m] := by rw [List.take_add_one, hm]; rfl
  rw [this]
  unfold srt
  rw [List.foldl_append]
  rfl
theorem ins_len (x : En) : ∀ l : List En, (ins x l).length = l.length + 1
  | [] => rfl
  | y :: r => by
    unfold ins
    split
    · rfl
    · rw [List.length_cons, ins_len x r]; rfl
theorem srt_len : ∀ (es : List En) (out : List En), (es.foldl (fun out x => ins x out) out).length = out.length + es.length
  | [], out => rfl
  | x :: r, out => by rw [List.foldl_cons, srt_len r, ins_len, List.length_cons]; omega
theorem srt_lt (es : List En) (i : Nat) : (srt (es.take i)).length ≤ i := by
  unfold srt
  rw [srt_len, List.length_take, List.length_nil]
  omega
/-- How far the entry has been put. -/
def InsAt (x : En) (O N : List En) (k : Nat) (dn : Bool) : Prop := (dn = true ∧ ins x O = N ++ O.drop k) ∨ (dn = false ∧ N = O.take k ∧ ins x O = O.take k ++ ins x (O.drop k))
theorem InsAt.start (x : En) (O : List En) : InsAt x O [] 0 false := .inr ⟨rfl, by simp, by simp⟩
theorem InsAt.on {x : En} {O N : List En} {k : Nat} (h : InsAt x O N k true) {y : En} (hy : O[k]? = some y) : InsAt x O (N ++ [y]) (k + 1) true := by
  rcases h with ⟨_, h⟩ | ⟨h, _⟩
  · refine .inl ⟨rfl, ?_⟩
    have hk := (List.getElem?_eq_some_iff.1 hy)
    rw [h, List.drop_eq_getElem_cons hk.1, hk.2, List.append_assoc]
    rfl
  · cases h
theorem InsAt.put {x : En} {O N : List En} {k : Nat} (h : InsAt x O N k false) {y : En} (hy : O[k]? = some y) (hg : gtB y.path x.path = true) : InsAt x O (N ++ [x] ++ [y]) (k + 1) true := by
  rcases h with ⟨h, _⟩ | ⟨_, h, h2⟩
  · cases h
  · refine .inl ⟨rfl, ?_⟩
    have hk := (List.getElem?_eq_some_iff.1 hy)
    rw [h2, List.drop_eq_getElem_cons hk.1, hk.2, h]
    rw [ins, if_pos hg]
    simp
theorem InsAt.pass {x : En} {O N : List En} {k : Nat} (h : InsAt x O N k false) {y : En} (hy : O[k]? = some y) (hg : ¬ gtB y.path x.path = true) : InsAt x O (N ++ [y]) (k + 1) false := by
  rcases h with ⟨h, _⟩ | ⟨_, h, h2⟩
  · cases h
  · have hk := (List.getElem?_eq_some_iff.1 hy)
    have e : O.take (k + 1) = O.take k ++ [y] := by rw [List.take_add_one, hy]; rfl
    refine .inr ⟨rfl, by rw [e, h], ?_⟩
    rw [h2, List.drop_eq_getElem_cons hk.1, hk.2, e]
    rw [ins, if_neg hg]
    simp
theorem InsAt.len {x : En} {O N : List En} {k : Nat} {dn : Bool} (h : InsAt x O N k dn) : N.length ≤ O.length + 1 := by
  rcases h with ⟨_, h⟩ | ⟨_, h, _⟩
  · have := congrArg List.length h
    rw [ins_len, List.length_append] at this
    omega
  · rw [h, List.length_take]; omega
theorem InsAt.done {x : En} {O N : List En} (h : InsAt x O N O.length true) : N = ins x O := by
  rcases h with ⟨_, h⟩ | ⟨h, _⟩
  · rw [h, List.drop_length, List.append_nil]
  · cases h
theorem InsAt.last {x : En} {O N : List En} (h : InsAt x O N O.length false) : N ++ [x] = ins x O := by
  rcases h with ⟨h, _⟩ | ⟨_, h, h2⟩
  · cases h
  · rw [h2, List.drop_length, h]; rfl
theorem OwnsEn.low {w : World} {b b' : Nat} {v : Value} {X : List En} (h : OwnsEn w b v X) (hb : b' ≤ b) : OwnsEn w b' v X :=
  ⟨h.1, by
    rcases h.2 with q | ⟨g, cap, cur, e, hg, r⟩
    · exact .inl q
    · exact .inr ⟨g, cap, cur, e, by omega, r⟩⟩
theorem row1 {w : World} {t : TypeId} (m : En) : ∀ j u, m.cells.toList[j]? = some u → (w.alloc (.cells m.cells t)).cell? ((⟨w.heap.size, 0, none⟩ : Addr).add j) = some u := fun j u h => by
  have e : ((⟨w.heap.size, 0, none⟩ : Addr).add j) = ⟨w.heap.size, j, none⟩ := by unfold Addr.add; split <;> simp_all
  rw [e]
  exact cells_new w m.cells t j u (by rw [← Array.getElem?_toList]; exact h)
def SrOk (es : List En) (w : World) (e : Ending) (w' : World) : Prop := ∃ v, e = .returned v ∧ OwnsEn w' w.heap.size v (srt es) ∧ Below w.heap.size w w'
end Go.Proofs.Ytlfffpgokemjbab.U
