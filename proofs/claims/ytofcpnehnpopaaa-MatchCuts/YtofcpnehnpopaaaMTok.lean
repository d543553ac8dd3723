/- Tokens in memory: three cells each. -/
import Derived.Test.YtofcpnehnpopaaaMMath
import Derived.Deep.WholeRow
import Derived.Deep.MidRow
import Derived.Laws.ResultCell
import Derived.Deep.LoopGhost
import Derived.BigRegion
import Derived.Laws.AppendOwnNone
import Derived.Deep.DeepCutAuto
import Derived.Deep.RegionWith
import Derived.Deep.RegionLaw
import Derived.Handy
namespace Go.Proofs.Ytofcpnehnpopaaa
set_option maxRecDepth 100000
open Go Go.RowKit

theorem lt_of_block' {w : World} {b : Nat} {o : Obj} (h : w.heap[b]? = some o) : b < w.heap.size := by
  rcases Nat.lt_or_ge b w.heap.size with h' | h'
  · exact h'
  · rw [Array.getElem?_eq_none h'] at h; simp at h
theorem heap_old {w : World} {o : Obj} {b : Nat} {p : Obj} (h : w.heap[b]? = some p) : (w.alloc o).heap[b]? = some p := by
  rw [Below.heap_alloc _ _ _ (lt_of_block' h)]; exact h

/-- A token's cells. -/
abbrev tA (t : Tk) : Array Value := #[.int .u8 t.1, .int .i64 t.2.1, .int .i64 t.2.2]
abbrev tO (t : Tk) : Obj := .cells #[.int .u8 t.1, .int .i64 t.2.1, .int .i64 t.2.2] 32
def tc (xs : List Tk) : List Value := xs.flatMap fun t => [.int .u8 t.1, .int .i64 t.2.1, .int .i64 t.2.2]
theorem tc_snoc (xs : List Tk) (t : Tk) : tc (xs ++ [t]) = tc xs ++ [.int .u8 t.1, .int .i64 t.2.1, .int .i64 t.2.2] := by simp [tc]
theorem tc_app (xs ys : List Tk) : tc (xs ++ ys) = tc xs ++ tc ys := by simp [tc]
theorem tc_cons (t : Tk) (xs : List Tk) : tc (t :: xs) = [.int .u8 t.1, .int .i64 t.2.1, .int .i64 t.2.2] ++ tc xs := by simp [tc]
theorem tc_length (xs : List Tk) : (tc xs).length = xs.length * 3 := by
  induction xs with
  | nil => rfl
  | cons t xs ih => rw [tc_cons, List.length_append, ih]; simp; omega
theorem tc_at (xs : List Tk) {i : Nat} (h : i < xs.length) : (tc xs)[i * 3]? = some (.int .u8 (tk xs i).1) ∧ (tc xs)[i * 3 + 1]? = some (.int .i64 (tk xs i).2.1) ∧ (tc xs)[i * 3 + 2]? = some (.int .i64 (tk xs i).2.2) := by
  induction xs generalizing i with
  | nil => simp at h
  | cons t xs ih =>
    cases i with
    | zero => simp [tc_cons, tk]
    | succ i =>
      have hi : i < xs.length := by simpa using h
      obtain ⟨h1, h2, h3⟩ := ih hi
      have e : tk (t :: xs) (i + 1) = tk xs i := by simp [tk]
      rw [e, tc_cons, show (i + 1) * 3 = i * 3 + 3 by omega]
      refine ⟨?_, ?_, ?_⟩
      · rw [List.getElem?_append_right (by simp)]; simpa using h1
      · rw [List.getElem?_append_right (by simp)]; simpa using h2
      · rw [List.getElem?_append_right (by simp)]; simpa using h3
theorem tc_one (xs : List Tk) : ∀ u ∈ tc xs, u.oneCell' = true := by
  intro u hu
  obtain ⟨t, _, h⟩ := List.mem_flatMap.1 hu
  simp at h
  rcases h with rfl | rfl | rfl <;> rfl
/-- The tokens xs lie where a slice leads. -/
def Toks (w : World) (a : Option Addr) (xs : List Tk) : Prop :=
  xs.length = 0 ∨ ∃ b off, b < w.heap.size ∧ a = some ⟨b, off, none⟩ ∧ ∀ i, i < xs.length → w.cell? ⟨b, off + i * 3, none⟩ = some (.int .u8 (tk xs i).1) ∧ w.cell? ⟨b, off + i * 3 + 1, none⟩ = some (.int .i64 (tk xs i).2.1) ∧ w.cell? ⟨b, off + i * 3 + 2, none⟩ = some (.int .i64 (tk xs i).2.2)
theorem Toks.kept {M : Nat → Prop} {w w' : World} {a : Option Addr} {xs : List Tk} (h : Toks w a xs) (k : Kept M w w') (hn : ∀ b off, a = some ⟨b, off, none⟩ → ¬ M b) : Toks w' a xs := by
  rcases h with h | ⟨b, off, h1, rfl, hc⟩
  · exact .inl h
  · have hM := hn b off rfl
    refine .inr ⟨b, off, Nat.lt_of_lt_of_le h1 k.size, rfl, fun i hi => ?_⟩
    obtain ⟨c0, c1, c2⟩ := hc i hi
    exact ⟨(k.cell (p := ⟨b, _, none⟩) h1 hM).trans c0, (k.cell (p := ⟨b, _, none⟩) h1 hM).trans c1, (k.cell (p := ⟨b, _, none⟩) h1 hM).trans c2⟩
theorem Toks.stay {w w' : World} {a : Option Addr} {xs : List Tk} (h : Toks w a xs) (k : Below w.heap.size w w') : Toks w' a xs := by
  rcases h with h | ⟨b, off, h1, rfl, hc⟩
  · exact .inl h
  · exact Toks.kept (.inr ⟨b, off, h1, rfl, hc⟩) (Kept.of_below k) (fun b' off' e => by simp at e; omega)
theorem Toks.below {B : Nat} {w w' : World} {a : Option Addr} {xs : List Tk} (h : Toks w a xs) (k : Below B w w') (hB : ∀ b off, a = some ⟨b, off, none⟩ → b < B) : Toks w' a xs :=
  h.kept (Kept.of_below k) (fun b off e => by have := hB b off e; omega)
/-- A slice value that owns tokens. -/
def OwnsT (w : World) (base : Nat) (v : Value) (L : List Tk) : Prop := w.ownsRow base 32 3 v L.length (tc L)
theorem OwnsT.nil (w : World) (base : Nat) : OwnsT w base (.slice none 0 0) [] := World.ownsRow_nil _ _ _ _
theorem OwnsT.kept {M : Nat → Prop} {w w' : World} {base : Nat} {v : Value} {L : List Tk} (h : OwnsT w base v L) (k : Kept M w w') (hn : ∀ g, v.ownBlock = some g → ¬ M g) : OwnsT w' base v L := ownsRow_kept h k hn
theorem OwnsT.stay {w w' : World} {base : Nat} {v : Value} {L : List Tk} (h : OwnsT w base v L) (k : Below w.heap.size w w') : OwnsT w' base v L := h.kept (Kept.of_below k) (fun g hg e => by have := (ownsRow_lt h hg).2; omega)
theorem OwnsT.form {w : World} {base : Nat} {v : Value} {L : List Tk} (h : OwnsT w base v L) : ∃ a cap, v = .slice a L.length cap ∧ Toks w a L ∧ (∀ b off, a = some ⟨b, off, none⟩ → base ≤ b ∧ b < w.heap.size) ∧ (a = none → L.length = 0 ∧ cap = 0) ∧ L.length ≤ cap := by
  rcases h.2 with ⟨rfl, h2⟩ | ⟨g, cap, cur, rfl, hg, hh, hc1, hc2, hc3, hc4⟩
  · exact ⟨none, 0, by rw [h2], .inl h2, fun b off e => (by cases e), fun _ => ⟨h2, rfl⟩, (by omega)⟩
  · refine ⟨_, cap, rfl, .inr ⟨g, 0, lt_of_block hh, rfl, fun i hi => ?_⟩, fun b off e => ?_, fun e => (by cases e), hc1⟩
    · have key : ∀ j, j < L.length * 3 → w.cell? ⟨g, j, none⟩ = (tc L)[j]? := fun j hj => by
        rw [cells_of hh, ← hc4, List.getElem?_take_of_lt hj, Array.getElem?_toList]
      obtain ⟨h1, h2, h3⟩ := tc_at L hi
      rw [Nat.zero_add]
      exact ⟨(key _ (by omega)).trans h1, (key _ (by omega)).trans h2, (key _ (by omega)).trans h3⟩
    · simp at e
      obtain ⟨rfl, _⟩ := e
      exact ⟨hg, lt_of_block hh⟩
theorem OwnsT.push {w : World} {base : Nat} {v : Value} {L : List Tk} {t : Tk} (h : w.ownsRow base 32 3 v (L.length + 1) (tc L ++ [.int .u8 t.1, .int .i64 t.2.1, .int .i64 t.2.2])) : OwnsT w base v (L ++ [t]) := by
  unfold OwnsT
  rw [tc_snoc, List.length_append, List.length_singleton]
  exact h
theorem Try.infoTok : (Try.prog.info? 32).map (fun i => (i.zero, i.size, i.bytes)) = some (some (.agg #[.int .u8 0, .int .i64 0, .int .i64 0]), 3, 24) := by kernel_rfl
theorem one_tok (w : World) (t : Tk) (n : Nat) (h : w.heap.size = n) : ∀ j u, ([.int .u8 t.1, .int .i64 t.2.1, .int .i64 t.2.2] : List Value)[j]? = some u → (w.alloc (tO t)).cell? ((⟨n, 0, none⟩ : Addr).add j) = some u := by
  subst h; exact World.news_of_block (heap_new w (tO t))
/-- A token in memory. -/
theorem tok_new (w : World) (t : Tk) : (w.alloc (tO t)).heap[w.heap.size]? = some (tO t) := heap_new w _

set_option maxHeartbeats 400000 in
theorem told_c (b l k : Int) (w : World) : Calls Try.prog 20 #[.agg #[.int .u8 b, .int .i64 l, .int .i64 k]] w fun e w' => e = .returned (.int .i64 (tl (b, l, k))) ∧ w' = w.alloc (tO (b, l, k)) := by
  by_cases h : l = 0
  · subst h
    have ht : tl (b, 0, k) = 1 := by simp [tl]
    rw [ht]
    go_enter Try.func20, Try.ntmps20
    go_wp2
    go_ret
    exact ⟨rfl, rfl⟩
  · have ht : tl (b, l, k) = l := by simp [tl, h]
    rw [ht]
    go_enter Try.func20, Try.ntmps20
    go_wp2
    go_ret
    exact ⟨rfl, rfl⟩
set_option maxHeartbeats 400000 in
theorem qLong_c (b l k : Int) (w : World) : Calls Try.prog 26 #[.agg #[.int .u8 b, .int .i64 l, .int .i64 k]] w fun e w' => e = .returned (.int .i64 (tl (b, l, k))) ∧ w' = w.alloc (tO (b, l, k)) := by
  by_cases h : l = 0
  · subst h
    have ht : tl (b, 0, k) = 1 := by simp [tl]
    rw [ht]
    go_enter Try.func26, Try.ntmps26
    go_wp2
    go_ret
    exact ⟨rfl, rfl⟩
  · have ht : tl (b, l, k) = l := by simp [tl, h]
    rw [ht]
    go_enter Try.func26, Try.ntmps26
    go_wp2
    go_ret
    exact ⟨rfl, rfl⟩
set_option maxHeartbeats 400000 in
theorem isByte_yes (b : Int) (w : World) : Calls Try.prog 21 #[.agg #[.int .u8 b, .int .i64 0, .int .i64 0]] w fun e w' => e = .returned (.bool true) ∧ w' = w.alloc (tO (b, 0, 0)) := by
  go_enter Try.func21, Try.ntmps21
  go_wp2
  go_ret
  exact ⟨rfl, rfl⟩
set_option maxHeartbeats 400000 in
theorem isByte_no (b l k : Int) (w : World) (h : ¬ (l = 0 ∧ k = 0)) : Calls Try.prog 21 #[.agg #[.int .u8 b, .int .i64 l, .int .i64 k]] w fun e w' => e = .returned (.bool false) ∧ w' = w.alloc (tO (b, l, k)) := by
  by_cases hl : l = 0
  · subst hl
    have hk : ¬ k = 0 := fun e => h ⟨rfl, e⟩
    have hk' : (k == 0) = false := by simpa using hk
    clear h
    go_enter Try.func21, Try.ntmps21
    go_wp2
    go_ret
    exact ⟨rfl, rfl⟩
  · clear h
    go_enter Try.func21, Try.ntmps21
    go_wp2
    go_ret
    exact ⟨rfl, rfl⟩
set_option maxHeartbeats 1000000 in
theorem isRun_yes (l k : Int) (w : World) (h1 : 3 ≤ l) (h2 : l ≤ 258) (h3 : 1 ≤ k) (h4 : k ≤ 32768) : Calls Try.prog 22 #[.agg #[.int .u8 0, .int .i64 l, .int .i64 k]] w fun e w' => e = .returned (.bool true) ∧ w' = w.alloc (tO (0, l, k)) := by
  go_enter Try.func22, Try.ntmps22
  go_wp2
  go_ret
  exact ⟨rfl, rfl⟩
set_option maxHeartbeats 1000000 in
theorem isRun_no (b l k : Int) (w : World) (h : ¬ (b = 0 ∧ 3 ≤ l ∧ l ≤ 258 ∧ 1 ≤ k ∧ k ≤ 32768)) : Calls Try.prog 22 #[.agg #[.int .u8 b, .int .i64 l, .int .i64 k]] w fun e w' => e = .returned (.bool false) ∧ w' = w.alloc (tO (b, l, k)) := by
  by_cases h0 : b = 0
  case neg =>
    clear h
    go_enter Try.func22, Try.ntmps22
    go_wp2
    go_ret
    exact ⟨rfl, rfl⟩
  subst h0
  by_cases h1 : 3 ≤ l
  case neg =>
    clear h
    go_enter Try.func22, Try.ntmps22
    go_wp2
    go_ret
    exact ⟨rfl, rfl⟩
  by_cases h2 : l ≤ 258
  case neg =>
    clear h
    go_enter Try.func22, Try.ntmps22
    go_wp2
    go_ret
    exact ⟨rfl, rfl⟩
  by_cases h3 : 1 ≤ k
  case neg =>
    clear h
    go_enter Try.func22, Try.ntmps22
    go_wp2
    go_ret
    exact ⟨rfl, rfl⟩
  have h4 : ¬ k ≤ 32768 := fun e => h ⟨rfl, h1, h2, h3, e⟩
  clear h
  go_enter Try.func22, Try.ntmps22
  go_wp2
  go_ret
  exact ⟨rfl, rfl⟩
end Go.Proofs.Ytofcpnehnpopaaa
