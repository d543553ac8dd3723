/- Entries: as they lie in memory; a row of one's own. -/
import Derived.Test.YtlfffpgokemjbabWorld
import Derived.WalkMore
import Derived.LoopTactic
import Derived.Deep.LoopGhost
import Derived.Handy
import Derived.OwnWalk
import Derived.Laws.AppendOwnNone
import Derived.Deep.DeepFit
import Derived.DeepKeys
namespace Go.Proofs.Ytlfffpgokemjbab.U
set_option maxRecDepth 100000
open Go Go.RowKit
set_option linter.unusedVariables false
theorem hide {p : Prop} (h : p) : Hid p := h
/-- An entry. -/
structure En where
  kind : Int
  path : ByteArray
  target : ByteArray
  mode : Int
  time : Int
  data : ByteArray
def En.cells (m : En) : Array Value := #[.int .i64 m.kind, .string m.path, .string m.target, .int .i64 m.mode, .int .i64 m.time, .string m.data]
/-- Where a slice leads, these entries stand. -/
def EntsIn (W : World) (a : Option Addr) (es : List En) : Prop :=
  es.length = 0 ∨ ∃ b off, b < W.heap.size ∧ a = some ⟨b, off, none⟩ ∧ ∀ i m, es[i]? = some m → ∀ j u, m.cells[j]? = some u → W.cell? ⟨b, off + i * 6 + j, none⟩ = some u
theorem EntsIn.stay {W W' : World} {a : Option Addr} {es : List En} (h : EntsIn W a es) (k : Below W.heap.size W W') : EntsIn W' a es := by
  rcases h with h | ⟨b, off, hb, ha, hc⟩
  · exact .inl h
  · exact .inr ⟨b, off, Nat.lt_of_lt_of_le hb k.size, ha, fun i m hi j u hu => (k.cell (p := ⟨b, off + i * 6 + j, none⟩) hb).trans (hc i m hi j u hu)⟩
theorem EntsIn.six {W : World} {a : Option Addr} {es : List En} (h : EntsIn W a es) {i : Nat} {m : En} (hm : es[i]? = some m) : ∃ b off, b < W.heap.size ∧ a = some ⟨b, off, none⟩ ∧
    W.cell? ⟨b, off + i * 6, none⟩ = some (.int .i64 m.kind) ∧ W.cell? ⟨b, off + i * 6 + 1, none⟩ = some (.string m.path) ∧ W.cell? ⟨b, off + i * 6 + 2, none⟩ = some (.string m.target) ∧ W.cell? ⟨b, off + i * 6 + 3, none⟩ = some (.int .i64 m.mode) ∧ W.cell? ⟨b, off + i * 6 + 4, none⟩ = some (.int .i64 m.time) ∧ W.cell? ⟨b, off + i * 6 + 5, none⟩ = some (.string m.data) := by
  rcases h with h | ⟨b, off, hb, ha, hc⟩
  · have := (List.getElem?_eq_some_iff.1 hm).1
    omega
  · exact ⟨b, off, hb, ha, hc i m hm 0 _ rfl, hc i m hm 1 _ rfl, hc i m hm 2 _ rfl, hc i m hm 3 _ rfl, hc i m hm 4 _ rfl, hc i m hm 5 _ rfl⟩
/-- Entries in a row of one's own. -/
def enL (ms : List En) : List Value := ms.flatMap fun m => m.cells.toList
def OwnsEn (w : World) (base : Nat) (v : Value) (ms : List En) : Prop := w.ownsRow base 27 6 v ms.length (enL ms)
theorem OwnsEn.nil (w : World) (base : Nat) : OwnsEn w base (.slice none 0 0) [] := World.ownsRow_nil _ _ _ _
theorem OwnsEn.stay {w w' : World} {base : Nat} {v : Value} {L : List En} (h : OwnsEn w base v L) (k : Below w.heap.size w w') : OwnsEn w' base v L := ownsRow_kept h (Kept.of_below k) (fun g hg hn => by have := (ownsRow_lt h hg).2; omega)
theorem OwnsEn.form {w : World} {base : Nat} {v : Value} {L : List En} (h : OwnsEn w base v L) : ∃ a cap, v = .slice a L.length cap ∧ L.length ≤ cap ∧ (a = none → L = []) := by
  rcases h.2 with ⟨rfl, h0⟩ | ⟨g, cap, cur, rfl, hg, hh, hc, r⟩
  · exact ⟨none, 0, by rw [h0], by omega, fun _ => List.eq_nil_of_length_eq_zero h0⟩
  · exact ⟨_, cap, rfl, hc, by simp⟩
theorem growE {w0 wx wy : World} {base : Nat} {v : Value} {xs : List En} (h : OwnsEn wx base v xs) (hb0 : w0.heap.size ≤ base) (hb : Below w0.heap.size w0 wx) (hg : wx.grownBy wy v.ownBlock) : Below w0.heap.size w0 wy :=
  hb.trans ((Kept.of_grown hg).below hb.size (fun i hi e => by have := (ownsRow_lt h e.symm).1; omega))
theorem enL_app (a b : List En) : enL (a ++ b) = enL a ++ enL b := by simp [enL]
theorem enL_at : ∀ (ms : List En) (i j : Nat), j < 6 → (enL ms)[i * 6 + j]? = (ms[i]?).bind fun m => m.cells[j]?
  | [], i, j, _ => by simp [enL]
  | m :: r, 0, j, hj => by
    have hl : m.cells.toList.length = 6 := rfl
    show (m.cells.toList ++ enL r)[0 * 6 + j]? = _
    rw [List.getElem?_append_left (by omega), show 0 * 6 + j = j by omega, Array.getElem?_toList]
    rfl
  | m :: r, i + 1, j, hj => by
    have hl : m.cells.toList.length = 6 := rfl
    show (m.cells.toList ++ enL r)[(i + 1) * 6 + j]? = _
    rw [List.getElem?_append_right (by omega), hl, show (i + 1) * 6 + j - 6 = i * 6 + j by omega, enL_at r i j hj]
    rfl
theorem OwnsEn.in_ {w : World} {base : Nat} {a : Option Addr} {n c : Nat} {ms : List En} (h : OwnsEn w base (.slice a n c) ms) : EntsIn w a ms := by
  rcases h.2 with ⟨_, h2⟩ | ⟨g, cap, cur, e, hb, hh, _⟩
  · exact .inl h2
  · simp only [Value.slice.injEq] at e
    obtain ⟨rfl, rfl, rfl⟩ := e
    refine .inr ⟨g, 0, lt_of_block hh, rfl, fun i m hm j u hu => ?_⟩
    have hi := (List.getElem?_eq_some_iff.1 hm).1
    have hj : j < 6 := by
      rcases Nat.lt_or_ge j 6 with h' | h'
      · exact h'
      · have : m.cells.size = 6 := rfl
        rw [Array.getElem?_eq_none (by omega)] at hu; cases hu
    rw [Nat.zero_add, World.ownsRow.cellAt h (i * 6 + j) (by omega), enL_at ms i j hj, hm]
    exact hu
theorem infoE : (Try.prog.info? 27).map (fun i => (i.zero, i.size, i.bytes)) = some (some (.agg #[.int .i64 0, .string .empty, .string .empty, .int .i64 0, .int .i64 0, .string .empty]), 6, 72) := by kernel_rfl
/-- An entry appended. -/
theorem wpList_pushE {ops : Array Oper} {rest : List Oper} {o : Oper} {act : Act} {Q : Exit → Act → World → Prop} (w : World) (hgd : o.guard = none) (s x : Operand)
    (ho : o.op = .call { callee := .builtin .append, args := #[s, x], argTypes := #[22, 22] })
    (base : Nat) (v : Value) (X : List En) (hs : act.eval s = v) (hown : OwnsEn w base v X) (m : En) (ad : Nat) (hx : act.eval x = .slice (some ⟨ad, 0, none⟩) 1 1)
    (hc : ∀ j u, m.cells.toList[j]? = some u → w.cell? ((⟨ad, 0, none⟩ : Addr).add j) = some u) (hb : X.length ≤ 1000000000) (hbase : base ≤ w.heap.size)
    (h : ∀ v' w', OwnsEn w' base v' (X ++ [m]) → w.grownBy w' v.ownBlock → wpList Try.prog ops Q rest (act.put o.dst v') w') : wpList Try.prog ops Q (o :: rest) act w := by
  obtain ⟨i, hi, hz, hsz, hby⟩ := info_parts infoE
  refine wpList_append_own w hgd s x 22 ho base 27 i _ 6 _ Try.underlying22 hi hz hsz hby rfl (by decide) v X.length (enL X) hs hown ⟨ad, 0, none⟩ 1 1 m.cells.toList hx rfl hc (by intro u hu; simp [En.cells] at hu; rcases hu with rfl | rfl | rfl | rfl | rfl | rfl <;> rfl) (by unfold maxLen; omega) (by omega) hbase ?_
  intro v' w' h1 h2 _
  refine h v' w' ?_ h2
  unfold OwnsEn
  rw [enL_app, List.length_append]
  have e : enL [m] = m.cells.toList := by simp [enL]
  rw [e]
  exact h1
end Go.Proofs.Ytlfffpgokemjbab.U
