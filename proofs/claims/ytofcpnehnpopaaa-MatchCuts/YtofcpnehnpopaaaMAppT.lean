/- Tokens appended to a row of one's own. -/
import Derived.Test.YtofcpnehnpopaaaMOpen
namespace Go.Proofs.Ytofcpnehnpopaaa
set_option maxRecDepth 100000
open Go Go.RowKit

theorem own_emptyT (w : World) {base : Nat} (hb : base ≤ w.heap.size) : OwnsT (w.alloc (.cells #[] 32)) base (.slice (some ⟨w.heap.size, 0, none⟩) 0 0) [] :=
  ⟨rfl, .inr ⟨w.heap.size, 0, #[], rfl, hb, heap_new w _, Nat.le_refl _, by unfold maxLen; omega, rfl, rfl⟩⟩
theorem Toks.src {w : World} {a : Option Addr} {xs : List Tk} (h : Toks w a xs) {ad : Addr} (ha : a = some ad) : ∀ j u, (tc xs)[j]? = some u → w.cell? (ad.add j) = some u := fun j u hu => by
  have hj : j < xs.length * 3 := by
    rcases Nat.lt_or_ge j (xs.length * 3) with h' | h'
    · exact h'
    · rw [List.getElem?_eq_none (by rw [tc_length]; exact h')] at hu; cases hu
  rcases h with h | ⟨b, off, h1, rfl, hc⟩
  · omega
  · simp at ha
    subst ha
    rw [addr_plain]
    obtain ⟨c0, c1, c2⟩ := hc (j / 3) (by omega)
    obtain ⟨t0, t1, t2⟩ := tc_at xs (i := j / 3) (by omega)
    have hm : j % 3 = 0 ∨ j % 3 = 1 ∨ j % 3 = 2 := by omega
    rcases hm with hm | hm | hm
    · have e : j = j / 3 * 3 := by omega
      rw [e, t0] at hu
      rw [e, ← hu]
      exact c0
    · have e : j = j / 3 * 3 + 1 := by omega
      rw [e, t1] at hu
      rw [e, ← hu, ← Nat.add_assoc]
      exact c1
    · have e : j = j / 3 * 3 + 2 := by omega
      rw [e, t2] at hu
      rw [e, ← hu, ← Nat.add_assoc]
      exact c2
theorem wpList_appT {ops : Array Oper} {rest : List Oper} {o : Oper} {act : Act} {Q : Exit → Act → World → Prop} (w : World) (hgd : o.guard = none) (s x : Operand)
    (ho : o.op = .call { callee := .builtin .append, args := #[s, x], argTypes := #[22, 22] })
    (base : Nat) (v : Value) (X : List Tk) (hs : act.eval s = v) (hown : OwnsT w base v X) (a : Option Addr) (len cap : Nat) (hx : act.eval x = .slice a len cap) (Y : List Tk) (hb : Toks w a Y)
    (hnone : a = none → len = 0 ∧ cap = 0) (hlen : Y.length = len) (hbound : X.length + len ≤ 1000000000) (hbase : base ≤ w.heap.size)
    (h : ∀ a' cap' w', OwnsT w' base (.slice a' (X.length + len) cap') (X ++ Y) → w.grownBy w' v.ownBlock → wpList Try.prog ops Q rest (act.put o.dst (.slice a' (X.length + len) cap')) w') : wpList Try.prog ops Q (o :: rest) act w := by
  obtain ⟨i, hi, hz, hsz, hby⟩ := info_parts Try.infoTok
  subst hlen
  cases a with
  | none =>
    obtain ⟨h0, rfl⟩ := hnone rfl
    have hY := List.eq_nil_of_length_eq_zero h0
    subst hY
    refine wpList_append_own_none hgd s x 22 ho base 32 i 3 Try.underlying22 hi v X.length (tc X) hs hown hx ?_
    obtain ⟨a', cap', rfl, _⟩ := hown.form
    have := h a' cap' w (by simpa using hown) ⟨rfl, rfl, rfl, Nat.le_refl _, fun _ _ _ => rfl⟩
    simpa using this
  | some ad =>
    refine wpList_append_own w hgd s x 22 ho base 32 i _ 3 24 Try.underlying22 hi hz hsz hby rfl (by decide) v X.length (tc X) hs hown ad Y.length cap (tc Y) hx (by rw [tc_length]) (hb.src rfl) (tc_one Y) (by unfold maxLen; omega) (by omega) hbase ?_
    intro v' w' h1 h2 _
    have h3 : OwnsT w' base v' (X ++ Y) := by
      unfold OwnsT
      rw [tc_app, List.length_append]
      exact h1
    obtain ⟨a', cap', rfl, _⟩ := h3.form
    rw [List.length_append] at h3 ⊢
    exact h a' cap' w' h3 h2
end Go.Proofs.Ytofcpnehnpopaaa
