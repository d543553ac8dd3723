/- Calls of a reader or a writer, as they lie in memory; and 'few'. -/
import Derived.Test.YtamkjlihlnejoaaWriteMore
namespace Go.Proofs.Ytamkjlihlnejoaa
open Go.RowKit

/-- A call: what the struct holds, and the bytes that its slice leads to. -/
structure OpD where
  kind : Int
  v : Int
  n : Int
  a : Option Addr
  len : Nat
  cap : Nat
  zs : List Int
def noOp : OpD := ⟨0, 0, 0, none, 0, 0, []⟩

structure OpAt (B : Nat) (w : World) (b o : Nat) (d : OpD) : Prop where
  ck : w.cell? ⟨b, o, none⟩ = some (.int .i64 d.kind)
  cv : w.cell? ⟨b, o + 1, none⟩ = some (.int .i64 d.v)
  cn : w.cell? ⟨b, o + 2, none⟩ = some (.int .i64 d.n)
  cs : w.cell? ⟨b, o + 3, none⟩ = some (.slice d.a d.len d.cap)
  tx : Text B w d.a d.len d.zs
  nl : d.a = none → d.len = 0 ∧ d.cap = 0
  ml : d.len ≤ maxLen

def Ops (B : Nat) (w : World) (a : Option Addr) (len : Nat) (os : Nat → OpD) : Prop :=
  len ≤ maxLen ∧ (len = 0 ∨ ∃ b off, b < B ∧ a = some ⟨b, off, none⟩ ∧ ∀ i, i < len → OpAt B w b (off + i * 4) (os i))

theorem OpAt.kept {B : Nat} {M : Nat → Prop} {w w' : World} {b o : Nat} {d : OpD} (h : OpAt B w b o d) (k : Kept M w w') (hb : b < B) (hn : ∀ b, b < B → ¬ M b) : OpAt B w' b o d :=
  ⟨(k.cell (lt_of_cell h.ck) (hn b hb)).trans h.ck, (k.cell (lt_of_cell h.cv) (hn b hb)).trans h.cv, (k.cell (lt_of_cell h.cn) (hn b hb)).trans h.cn, (k.cell (lt_of_cell h.cs) (hn b hb)).trans h.cs, h.tx.kept k hn, h.nl, h.ml⟩

theorem Ops.kept {B : Nat} {M : Nat → Prop} {w w' : World} {a : Option Addr} {len : Nat} {os : Nat → OpD} (h : Ops B w a len os) (k : Kept M w w') (hn : ∀ b, b < B → ¬ M b) : Ops B w' a len os := by
  obtain ⟨h1, h2⟩ := h
  refine ⟨h1, ?_⟩
  rcases h2 with h2 | ⟨b, off, hb, ha, hc⟩
  · exact .inl h2
  · exact .inr ⟨b, off, hb, ha, fun i hi => (hc i hi).kept k hb hn⟩

set_option maxHeartbeats 1000000 in
theorem few_yes (a : Option Addr) (len cap : Nat) (os : Nat → OpD) (w : World) (h : Ops w.heap.size w a len os) (hl : len ≤ 200) (hf : ∀ i, i < len → (os i).len ≤ 200) :
    Calls Try.prog 20 #[.slice a len cap] w fun e w' => e = .returned (.bool true) ∧ Below w.heap.size w w' := by
  have HO : Hid (Ops w.heap.size w a len os) := h
  have HF : Hid (∀ i, i < len → (os i).len ≤ 200) := hf
  clear h hf
  go_enter Try.func20, Try.ntmps20
  go_wp2
  go_loopw [10] (fun i wr => ∃ k : Nat, k ≤ len ∧ i = .int .i64 k ∧ Below w.heap.size w wr) (fun i _ => len - (intOf i).toNat)
  case atStart => exact ⟨0, Nat.zero_le _, rfl, Below.refl _ _⟩
  case round =>
    obtain ⟨k, hk, rfl, hbel⟩ := hrel
    by_cases hlt : k < len
    · obtain ⟨_, h2⟩ := HO.out.kept (Kept.of_below hbel) (fun b hb h => by omega)
      obtain ⟨b, off, hb, rfl, hc⟩ := h2.resolve_left (by omega)
      obtain ⟨ck, cv, cn, cs, _, _, _⟩ := hc k hlt
      have h200 := HF.out k hlt
      have hsz := hbel.size
      clear hc h2
      generalize os k = d at ck cv cn cs h200
      obtain ⟨kind, v, n, da, dl, dc, zs⟩ := d
      simp only at ck cv cn cs h200
      go_wp2
      go_roundw
      case rel => exact ⟨k + 1, by omega, by go_num, hbel.alloc hsz _⟩
      case measure => simp [intOf]; omega
    · go_wp2
      go_ret
      exact ⟨rfl, hbel⟩

theorem few_long (a : Option Addr) (len cap : Nat) (w : World) (hl : 200 < len) (hm : len ≤ maxLen) :
    Calls Try.prog 20 #[.slice a len cap] w fun e w' => e = .returned (.bool false) ∧ Below w.heap.size w w' := by
  unfold maxLen at hm
  go_enter Try.func20, Try.ntmps20
  go_wp2
  go_ret
  exact ⟨rfl, Below.refl _ _⟩

set_option maxHeartbeats 1000000 in
theorem few_no (a : Option Addr) (len cap : Nat) (os : Nat → OpD) (w : World) (h : Ops w.heap.size w a len os) (hl : len ≤ 200) (hf : ¬ ∀ i, i < len → (os i).len ≤ 200) :
    Calls Try.prog 20 #[.slice a len cap] w fun e w' => e = .returned (.bool false) ∧ Below w.heap.size w w' := by
  have HO : Hid (Ops w.heap.size w a len os) := h
  have HF : Hid (¬ ∀ i, i < len → (os i).len ≤ 200) := hf
  clear h hf
  go_enter Try.func20, Try.ntmps20
  go_wp2
  go_loopw [10] (fun i wr => ∃ k : Nat, k ≤ len ∧ i = .int .i64 k ∧ (∀ j, j < k → (os j).len ≤ 200) ∧ Below w.heap.size w wr) (fun i _ => len - (intOf i).toNat)
  case atStart => exact ⟨0, Nat.zero_le _, rfl, fun j hj => by omega, Below.refl _ _⟩
  case round =>
    obtain ⟨k, hk, rfl, hall, hbel⟩ := hrel
    have HA : Hid (∀ j, j < k → (os j).len ≤ 200) := hall
    clear hall
    by_cases hlt : k < len
    · obtain ⟨_, h2⟩ := HO.out.kept (Kept.of_below hbel) (fun b hb h => by omega)
      obtain ⟨b, off, hb, rfl, hc⟩ := h2.resolve_left (by omega)
      obtain ⟨ck, cv, cn, cs, _, _, hml⟩ := hc k hlt
      have hsz := hbel.size
      clear hc h2
      obtain ⟨d, hd⟩ : ∃ d, d = os k := ⟨_, rfl⟩
      rw [← hd] at ck cv cn cs hml
      have HD : Hid (d = os k) := hd
      clear hd
      obtain ⟨kind, v, n, da, dl, dc, zs⟩ := d
      simp only at ck cv cn cs hml
      unfold maxLen at hml
      by_cases h200 : dl ≤ 200
      · go_wp2
        go_roundw
        case rel =>
          refine ⟨k + 1, by omega, by go_num, fun j hj => ?_, hbel.alloc hsz _⟩
          by_cases e : j = k
          · subst e; rw [← HD.out]; exact h200
          · exact HA.out j (by omega)
        case measure => simp [intOf]; omega
      · go_wp2
        go_ret
        exact ⟨rfl, hbel.alloc hsz _⟩
    · exact absurd (fun i hi => HA.out i (by omega)) HF.out
end Go.Proofs.Ytamkjlihlnejoaa
