/- Bytes that came in, appended to a row of one's own. -/
import Derived.Test.YtibolmgijaploaaDoorPLaid
import Derived.Laws.AppendOwnNone
namespace Go.Proofs.YtibolmgijaploaaDoor
set_option maxRecDepth 100000
open Go Go.RowKit

theorem own_empty (w : World) : OwnsB (w.alloc (.cells #[] 5)) w.heap.size (.slice (some ⟨w.heap.size, 0, none⟩) 0 0) [] :=
  ⟨rfl, .inr ⟨w.heap.size, 0, #[], rfl, Nat.le_refl _, heap_new w _, Nat.le_refl _, by unfold maxLen; omega, rfl, rfl⟩⟩
theorem Text.src {B : Nat} {w : World} {a : Option Addr} {len : Nat} {zs : List Int} (h : Text B w a len zs) {ad : Addr} (ha : a = some ad) : ∀ j u, (zs.map (Value.int .u8))[j]? = some u → w.cell? (ad.add j) = some u := fun j u hu => by
  obtain ⟨h1, _, h3⟩ := h
  have hj : j < zs.length := by
    rcases Nat.lt_or_ge j zs.length with h' | h'
    · exact h'
    · rw [List.getElem?_eq_none (by simpa using h')] at hu; simp at hu
  rcases h3 with h3 | ⟨b, off, _, ha', hc⟩
  · omega
  · rw [ha'] at ha
    obtain rfl := Option.some.inj ha
    have e : ((⟨b, off, none⟩ : Addr).add j) = ⟨b, off + j, none⟩ := by unfold Addr.add; split <;> simp_all
    rw [e, hc j (by omega), ← hu]
    simp [List.getD, hj]
theorem wpList_append_in {ops : Array Oper} {rest : List Oper} {o : Oper} {act : Act} {Q : Exit → Act → World → Prop} (w : World) (hgd : o.guard = none) (s x : Operand)
    (ho : o.op = .call { callee := .builtin .append, args := #[s, x], argTypes := #[22, 22] })
    (base : Nat) (v : Value) (X : List Int) (hs : act.eval s = v) (hown : OwnsB w base v X) (a : Option Addr) (len cap : Nat) (hx : act.eval x = .slice a len cap) (B : Nat) (Y : List Int) (hb : Text B w a len Y)
    (hnone : a = none → len = 0 ∧ cap = 0) (hbound : X.length + len ≤ 140737488355328) (hbase : base ≤ w.heap.size)
    (h : ∀ v' w', OwnsB w' base v' (X ++ Y) → w.grownBy w' v.ownBlock → wpList Tryd.prog ops Q rest (act.put o.dst v') w') : wpList Tryd.prog ops Q (o :: rest) act w := by
  obtain ⟨i5, hi5, hz5, hs5, hb5⟩ := info_parts Tryd.info5
  have hl := hb.1
  cases a with
  | none =>
    obtain ⟨rfl, rfl⟩ := hnone rfl
    have hY := List.eq_nil_of_length_eq_zero hl
    subst hY
    refine wpList_append_own_none hgd s x 22 ho base 5 i5 1 Tryd.underlying22 hi5 v X.length (X.map (Value.int .u8)) hs hown hx ?_
    exact h v w (by simpa using hown) ⟨rfl, rfl, rfl, Nat.le_refl _, fun _ _ _ => rfl⟩
  | some ad =>
    refine wpList_append_own w hgd s x 22 ho base 5 i5 (.int .u8 0) 1 1 Tryd.underlying22 hi5 hz5 hs5 hb5 rfl (by decide) v X.length (X.map (Value.int .u8)) hs hown ad len cap (Y.map (Value.int .u8)) hx (by simp; exact hl) (hb.src rfl) (bytes_one Y) (by unfold maxLen; omega) (by omega) hbase ?_
    intro v' w' h1 h2 _
    refine h v' w' ?_ h2
    unfold OwnsB
    rw [List.length_append, hl, List.map_append]
    exact h1
/-- What one owns is as bytes that came in. -/
theorem OwnsB.bin {w : World} {base : Nat} {v : Value} {D : List Int} (h : OwnsB w base v D) (hD : ∀ x ∈ D, 0 ≤ x ∧ x ≤ 255) : ∃ a cap, v = .slice a D.length cap ∧ BIn w a D.length cap D := by
  have hg : ∀ i, 0 ≤ D.getD i 0 ∧ D.getD i 0 ≤ 255 := fun i => by
    by_cases hi : i < D.length
    · simp only [List.getD, List.getElem?_eq_getElem hi, Option.getD_some]
      exact hD _ (List.getElem_mem hi)
    · simp [List.getD, List.getElem?_eq_none (show D.length ≤ i by omega)]
  rcases h.2 with ⟨rfl, h0⟩ | ⟨g, cap, cur, rfl, hgb, hh, hc, hr⟩
  · have : D = [] := List.eq_nil_of_length_eq_zero h0
    subst this
    exact ⟨none, 0, rfl, ⟨rfl, hg, .inl rfl⟩, Nat.le_refl _, fun _ => ⟨rfl, rfl⟩⟩
  · refine ⟨_, cap, rfl, ⟨rfl, hg, .inr ⟨g, 0, lt_of_block hh, rfl, fun i hi => ?_⟩⟩, hc, fun e => by simp at e⟩
    rw [Nat.zero_add, World.ownsRow.cellAt h i (by omega)]
    simp [List.getD, hi]
theorem Text.mem {B : Nat} {w : World} {a : Option Addr} {len : Nat} {zs : List Int} (h : Text B w a len zs) : ∀ x ∈ zs, 0 ≤ x ∧ x ≤ 255 := by
  intro x hx
  obtain ⟨i, hi, rfl⟩ := List.getElem_of_mem hx
  have := h.2.1 i
  simpa [List.getD, hi] using this
theorem mem_app {L M : List Int} (h : ∀ x ∈ L, 0 ≤ x ∧ x ≤ 255) (k : ∀ x ∈ M, 0 ≤ x ∧ x ≤ 255) : ∀ x ∈ L ++ M, 0 ≤ x ∧ x ≤ 255 := fun x hx => by
  rcases List.mem_append.1 hx with hx | hx
  · exact h x hx
  · exact k x hx
end Go.Proofs.YtibolmgijaploaaDoor
