/- Bytes in a row of one's own; append to it. -/
import Derived.Test.YtgamfpgejkhbcaaDoorSFinish
import Derived.Maps.AppendAt
namespace Go.Proofs.YtgamfpgejkhbcaaDoor.S
set_option maxRecDepth 100000
open Go Go.RowKit

def bV (xs : List Nat) : List Value := xs.map fun (x : Nat) => Value.int .u8 (x : Int)
theorem bV_app (xs ys : List Nat) : bV (xs ++ ys) = bV xs ++ bV ys := by simp [bV]
theorem bV_one (xs : List Nat) : ∀ u ∈ bV xs, u.oneCell' = true := fun u hu => by simp [bV] at hu; obtain ⟨x, _, rfl⟩ := hu; rfl
/-- Bytes in a row of one's own. -/
def OwnsB (w : World) (base : Nat) (v : Value) (xs : List Nat) : Prop := w.ownsRow base 5 1 v xs.length (bV xs)
theorem OwnsB.nil (w : World) (base : Nat) : OwnsB w base (.slice none 0 0) [] := World.ownsRow_nil _ _ _ _
theorem OwnsB.empty (w : World) (base : Nat) (hb : base ≤ w.heap.size) : OwnsB (w.alloc (.cells #[] 5)) base (.slice (some ⟨w.heap.size, 0, none⟩) 0 0) [] := World.ownsRow_made _ _ _ hb (by decide) rfl
theorem OwnsB.form {w : World} {base : Nat} {v : Value} {xs : List Nat} (h : OwnsB w base v xs) : ∃ a c, v = .slice a xs.length c ∧ xs.length ≤ c ∧ c ≤ maxLen ∧ (a = none → xs.length = 0 ∧ c = 0) := by
  rcases h.2 with ⟨rfl, h2⟩ | ⟨g, cap, cur, rfl, _, _, h3, h4, _⟩
  · exact ⟨none, 0, by rw [h2], by omega, by decide, fun _ => ⟨h2, rfl⟩⟩
  · exact ⟨_, _, rfl, h3, h4, fun e => by cases e⟩
theorem OwnsB.bs {w : World} {base : Nat} {a : Option Addr} {n c : Nat} {xs : List Nat} (h : OwnsB w base (.slice a n c) xs) : xs.length = 0 ∨ ∃ g, a = some ⟨g, 0, none⟩ ∧ base ≤ g ∧ g < w.heap.size ∧ Bs w g 0 xs := by
  rcases h.2 with ⟨e, h2⟩ | ⟨g, cap, cur, e, hb, hh, _⟩
  · exact .inl h2
  · simp only [Value.slice.injEq] at e
    obtain ⟨rfl, rfl, rfl⟩ := e
    refine .inr ⟨g, rfl, hb, lt_of_block hh, fun j hj => ?_⟩
    rw [Nat.zero_add, World.ownsRow.cellAt h j (by omega)]
    simp [bV, hj]
theorem OwnsB.drewN {w : World} {base : Nat} {v : Value} {xs : List Nat} (h : OwnsB w base v xs) (n : Nat) : OwnsB (w.drewN n) base v xs := h
theorem OwnsB.stay {w w' : World} {base : Nat} {v : Value} {xs : List Nat} (h : OwnsB w base v xs) (k : Below w.heap.size w w') : OwnsB w' base v xs :=
  ownsRow_kept h (Kept.of_below k) (fun g hg hn => by have := (ownsRow_lt h hg).2; omega)
theorem growB {w0 wx wy : World} {v : Value} {xs : List Nat} (h : OwnsB wx w0.heap.size v xs) (hb : Below w0.heap.size w0 wx) (hg : wx.grownBy wy v.ownBlock) : Below w0.heap.size w0 wy :=
  hb.trans ((Kept.of_grown hg).below hb.size (fun i hi e => by have := (ownsRow_lt h e.symm).1; omega))
/-- Bytes where a slice leads. -/
def TextAt (w : World) (a : Option Addr) (ys : List Nat) : Prop := ys.length = 0 ∨ ∃ b off, a = some ⟨b, off, none⟩ ∧ b < w.heap.size ∧ Bs w b off ys
theorem TextAt.below {w w' : World} {a : Option Addr} {ys : List Nat} (h : TextAt w a ys) (k : Below w.heap.size w w') : TextAt w' a ys := by
  rcases h with h | ⟨b, off, e, hb, hs⟩
  · exact .inl h
  · exact .inr ⟨b, off, e, Nat.lt_of_lt_of_le hb k.size, hs.below k hb⟩
theorem OwnsB.text {w : World} {base : Nat} {a : Option Addr} {n c : Nat} {xs : List Nat} (h : OwnsB w base (.slice a n c) xs) : TextAt w a xs := by
  rcases h.bs with h | ⟨g, e, _, h2, h3⟩
  · exact .inl h
  · exact .inr ⟨g, 0, e, h2, h3⟩
theorem wpList_appB {ops : Array Oper} {rest : List Oper} {o : Oper} {act : Act} {Q : Exit → Act → World → Prop} (w : World) (hgd : o.guard = none) (s x : Operand)
    (ho : o.op = .call { callee := .builtin .append, args := #[s, x], argTypes := #[22, 22] })
    (base : Nat) (v : Value) (X : List Nat) (hs : act.eval s = v) (hown : OwnsB w base v X) (a : Option Addr) (len cap : Nat) (hx : act.eval x = .slice a len cap) (Y XY : List Nat) (hXY : X ++ Y = XY) (hl : Y.length = len) (hb : TextAt w a Y)
    (hnone : a = none → len = 0 ∧ cap = 0) (hbound : X.length + len ≤ 140737488355328) (hbase : base ≤ w.heap.size)
    (h : ∀ v' w', OwnsB w' base v' XY → w.grownBy w' v.ownBlock → wpList Tryd.prog ops Q rest (act.put o.dst v') w') : wpList Tryd.prog ops Q (o :: rest) act w := by
  obtain ⟨i5, hi5, hz5, hs5, hb5⟩ := info_parts infoB
  subst hXY
  cases a with
  | none =>
    obtain ⟨rfl, rfl⟩ := hnone rfl
    have hY := List.eq_nil_of_length_eq_zero hl
    subst hY
    refine wpList_append_own_none hgd s x 22 ho base 5 i5 1 Tryd.underlying22 hi5 v X.length (bV X) hs hown hx ?_
    exact h v w (by simpa using hown) ⟨rfl, rfl, rfl, Nat.le_refl _, fun _ _ _ => rfl⟩
  | some ad =>
    refine wpList_append_own w hgd s x 22 ho base 5 i5 (.int .u8 0) 1 1 Tryd.underlying22 hi5 hz5 hs5 hb5 rfl (by decide) v X.length (bV X) hs hown ad len cap (bV Y) hx (by simp [bV]; exact hl) (fun j u hj => ?_) (bV_one Y) (by unfold maxLen; omega) (by omega) hbase ?_
    · have hjl : j < Y.length := by
        rcases Nat.lt_or_ge j Y.length with h' | h'
        · exact h'
        · rw [List.getElem?_eq_none (by simpa [bV] using h')] at hj; cases hj
      rcases hb with h0 | ⟨b, off, e, _, hc⟩
      · omega
      · obtain rfl := Option.some.inj e
        rw [addr_plain, hc j hjl, ← hj]
        simp [bV, hjl]
    · intro v' w' h1 h2 _
      refine h v' w' ?_ h2
      unfold OwnsB
      rw [List.length_append, hl, bV_app]
      exact h1

theorem one_byte (w : World) (x : Nat) : TextAt (w.alloc (.cells #[.int .u8 (x : Int)] 5)) (some ⟨w.heap.size, 0, none⟩) [x] := .inr ⟨w.heap.size, 0, rfl, by simp, fun i hi => by
  have h0 : i = 0 := by simpa using hi
  subst h0
  exact cells_of (heap_new w _) 0⟩
end Go.Proofs.YtgamfpgejkhbcaaDoor.S
