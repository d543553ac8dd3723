/- Texts in memory: rows of bytes and of texts of one's own. -/
import Derived.Test.YtlfffpgokemjbabWorld
import Derived.Test.YtlfffpgokemjbabEOem
import Derived.Deep.LoopGhost
import Derived.Handy
import Derived.OwnWalk
import Derived.Laws.AppendOwnNone
import Derived.Deep.DeepFit
import Derived.WalkMore
import Derived.Lib.AppendStr
import Derived.Laws.RangeAny
import Derived.Laws.IdiomStrings
import Derived.LoopTactic
namespace Go.Proofs.Ytlfffpgokemjbab.E
set_option maxRecDepth 100000
open Go Go.RowKit

theorem hide {p : Prop} (h : p) : Hid p := h
theorem addr_plain (b off i : Nat) : ((⟨b, off, none⟩ : Addr).add i) = ⟨b, off + i, none⟩ := by unfold Addr.add; split <;> simp_all
theorem lt_of_block' {w : World} {b : Nat} {o : Obj} (h : w.heap[b]? = some o) : b < w.heap.size := by
  rcases Nat.lt_or_ge b w.heap.size with h' | h'
  · exact h'
  · rw [Array.getElem?_eq_none h'] at h; simp at h
theorem infoB : (Try.prog.info? 5).map (fun i => (i.zero, i.size, i.bytes)) = some (some (.int .u8 0), 1, 1) := by kernel_rfl
/-- Byte i of a text. -/
theorem get_bt (s : ByteArray) (i : Nat) (h : i < s.size) : (s[i]'h).toNat = bt s.data.toList i := by
  have hd : i < s.data.size := h
  have e : s[i]'h = s.data[i]'hd := rfl
  rw [e, bt]
  simp only [List.getD, Array.getElem?_toList, Array.getElem?_eq_getElem hd, Option.getD_some]
/-- A row of one's own, of values of one cell. -/
def Own {α : Type} (T : TypeId) (f : α → Value) (w : World) (base : Nat) (v : Value) (xs : List α) : Prop := w.ownsRow base T 1 v xs.length (xs.map f)
section
variable {α : Type} {T : TypeId} {f : α → Value}
theorem Own.nil (w : World) (base : Nat) : Own T f w base (.slice none 0 0) [] := World.ownsRow_nil _ _ _ _
theorem Own.form {w : World} {base : Nat} {v : Value} {xs : List α} (h : Own T f w base v xs) : ∃ a c, v = .slice a xs.length c ∧ xs.length ≤ c ∧ c ≤ maxLen ∧ (a = none → xs.length = 0 ∧ c = 0) := by
  rcases h.2 with ⟨rfl, h2⟩ | ⟨g, cap, cur, rfl, _, _, h3, h4, _⟩
  · exact ⟨none, 0, by rw [h2], by omega, by decide, fun _ => ⟨h2, rfl⟩⟩
  · exact ⟨_, _, rfl, h3, h4, fun e => by cases e⟩
theorem Own.cells {w : World} {base : Nat} {a : Option Addr} {n c : Nat} {xs : List α} (h : Own T f w base (.slice a n c) xs) : xs.length = 0 ∨ ∃ g, a = some ⟨g, 0, none⟩ ∧ base ≤ g ∧ g < w.heap.size ∧ ∀ (j : Nat) (hj : j < xs.length), w.cell? ⟨g, j, none⟩ = some (f xs[j]) := by
  rcases h.2 with ⟨e, h2⟩ | ⟨g, cap, cur, e, hb, hh, _⟩
  · exact .inl h2
  · simp only [Value.slice.injEq] at e
    obtain ⟨rfl, rfl, rfl⟩ := e
    refine .inr ⟨g, rfl, hb, lt_of_block' hh, fun j hj => ?_⟩
    rw [World.ownsRow.cellAt h j (by omega)]
    simp [hj]
theorem Own.drewN {w : World} {base : Nat} {v : Value} {xs : List α} (h : Own T f w base v xs) (n : Nat) : Own T f (w.drewN n) base v xs := h
theorem Own.alloc {w : World} {base : Nat} {v : Value} {xs : List α} (h : Own T f w base v xs) (o : Obj) : Own T f (w.alloc o) base v xs := World.ownsRow.alloc h o
theorem Own.stay {w w' : World} {base : Nat} {v : Value} {xs : List α} (h : Own T f w base v xs) (k : Below w.heap.size w w') : Own T f w' base v xs :=
  ownsRow_kept h (Kept.of_below k) (fun g hg hn => by have := (ownsRow_lt h hg).2; omega)
theorem growO {w0 wx wy : World} {base : Nat} {v : Value} {xs : List α} (h : Own T f wx base v xs) (hb0 : w0.heap.size ≤ base) (hb : Below w0.heap.size w0 wx) (hg : wx.grownBy wy v.ownBlock) : Below w0.heap.size w0 wy :=
  hb.trans ((Kept.of_grown hg).below hb.size (fun i hi e => by have := (ownsRow_lt h e.symm).1; omega))
end
/-- Bytes; texts. -/
def fB (x : UInt8) : Value := .int .u8 (x.toNat : Int)
def fS (p : List UInt8) : Value := .string (tx p)
/-- One element appended to a row of one's own. -/
theorem wpList_app1 {α : Type} {TS T : TypeId} {f : α → Value} {z : Value} {bytes : Nat} (hT : Try.prog.underlying TS = some (.slice T)) (hI : (Try.prog.info? T).map (fun i => (i.zero, i.size, i.bytes)) = some (some z, 1, bytes)) (hz : z.cells.size = 1)
    {ops : Array Oper} {rest : List Oper} {o : Oper} {act : Act} {Q : Exit → Act → World → Prop} (w : World) (hgd : o.guard = none) (s x : Operand)
    (ho : o.op = .call { callee := .builtin .append, args := #[s, x], argTypes := #[TS, TS] })
    (base : Nat) (v : Value) (X : List α) (hs : act.eval s = v) (hown : Own T f w base v X) (y : α) (g c : Nat) (hx : act.eval x = .slice (some ⟨g, 0, none⟩) 1 c) (hc : w.cell? ⟨g, 0, none⟩ = some (f y)) (h1 : (f y).oneCell' = true)
    (hbound : (X.length + 1) * bytes ≤ 140737488355328) (hbi : 1 ≤ bytes) (hbase : base ≤ w.heap.size)
    (h : ∀ v' w', Own T f w' base v' (X ++ [y]) → w.grownBy w' v.ownBlock → wpList Try.prog ops Q rest (act.put o.dst v') w') : wpList Try.prog ops Q (o :: rest) act w := by
  obtain ⟨i5, hi5, hz5, hs5, hb5⟩ := info_parts hI
  refine wpList_append_own w hgd s x TS ho base T i5 z 1 bytes hT hi5 hz5 hs5 hb5 hz (by decide) v X.length (X.map f) hs hown ⟨g, 0, none⟩ 1 c [f y] hx rfl (fun j u hj => ?_) (fun u hu => by rw [List.mem_singleton.1 hu]; exact h1) (by unfold maxLen; have := Nat.le_mul_of_pos_right (X.length + 1) hbi; omega) hbound hbase ?_
  · match j, hj with
    | 0, hj => rw [addr_plain, hc]; exact hj
    | j + 1, hj => simp at hj
  · intro v' w' h2 h3 _
    refine h v' w' ?_ h3
    unfold Own
    rw [List.length_append, List.map_append]
    exact h2
/-- A text appended to bytes of one's own. -/
theorem wpList_appT {ops : Array Oper} {rest : List Oper} {o : Oper} {act : Act} {Q : Exit → Act → World → Prop} (w : World) (hgd : o.guard = none) (s x : Operand)
    (ho : o.op = .call { callee := .builtin .append, args := #[s, x], argTypes := #[54, 9] })
    (base : Nat) (v : Value) (X : List UInt8) (hs : act.eval s = v) (hown : Own 5 fB w base v X) (Y : List UInt8) (hx : act.eval x = .string (tx Y))
    (hbound : X.length + Y.length ≤ 140737488355328) (hbase : base ≤ w.heap.size)
    (h : ∀ v' w', Own 5 fB w' base v' (X ++ Y) → w.grownBy w' v.ownBlock → wpList Try.prog ops Q rest (act.put o.dst v') w') : wpList Try.prog ops Q (o :: rest) act w := by
  obtain ⟨i5, hi5, hz5, hs5, hb5⟩ := info_parts infoB
  refine Lib.wpList_append_own_string w hgd s x 54 9 ho base 5 i5 Try.underlying54 Try.underlying9 hi5 hz5 hs5 hb5 v X.length (X.map fB) hs hown (tx Y) hx (by rw [tx_size]; unfold maxLen; omega) (by rw [tx_size]; exact hbound) hbase ?_
  intro v' w' h2 h3 _
  refine h v' w' ?_ h3
  unfold Own
  rw [List.length_append, List.map_append]
  exact h2
/-- Bytes of one's own as a text. -/
theorem conv_own {w : World} {base : Nat} {a : Option Addr} {c : Nat} {xs : List UInt8} (h : Own 5 fB w base (.slice a xs.length c) xs) : (convert 54 9 (.slice a xs.length c)).run Try.prog w = .ok (.string (tx xs)) w := by
  rcases h.cells with h0 | ⟨g, rfl, _, _, hc⟩
  · have hx := List.eq_nil_of_length_eq_zero h0
    subst hx
    have : ∀ o, (convert 54 9 (.slice o 0 c)).run Try.prog w = .ok (.string (tx [])) w := fun o => by
      cases o with
      | none => simp [convert, Try.underlying54, Try.underlying9, Try.underlying5, run_underlying, tx]; rfl
      | some ad => exact run_convert_bytes_back w 54 9 5 ad c [] Try.underlying54 Try.underlying5 Try.underlying9 (fun j hj => by simp at hj)
    exact this a
  · exact run_convert_bytes_back w 54 9 5 ⟨g, 0, none⟩ c xs Try.underlying54 Try.underlying5 Try.underlying9 (fun j hj => by rw [addr_plain, Nat.zero_add]; exact hc j hj)
end Go.Proofs.Ytlfffpgokemjbab.E
