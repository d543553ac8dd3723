/- Rows of numbers that are a call's own: appended to, made. -/
import Derived.Test.YtdeigchkpakdaaaLMem
import Derived.Laws.AppendOwnNone
namespace Go.Proofs.Ytdeigchkpakdaaa
open Go Go.RowKit

theorem Try.info3 : (Try.prog.info? 3).map (fun i => (i.zero, i.size, i.bytes)) = some (some (.int .i64 0), 1, 8) := by kernel_rfl
/-- A slice value that owns the numbers L. -/
def Owns (w : World) (base : Nat) (v : Value) (L : List Int) : Prop := w.ownsRow base 3 1 v L.length (L.map (Value.int .i64))

theorem Owns.nil (w : World) (base : Nat) : Owns w base (.slice none 0 0) [] := World.ownsRow_nil _ _ _ _
theorem Owns.kept {M : Nat → Prop} {w w' : World} {base : Nat} {v : Value} {L : List Int} (h : Owns w base v L) (k : Kept M w w') (hn : ∀ g, v.ownBlock = some g → ¬ M g) : Owns w' base v L := ownsRow_kept h k hn
theorem Owns.low {w : World} {base base' : Nat} {v : Value} {L : List Int} (h : Owns w base v L) (hb : base' ≤ base) : Owns w base' v L := by
  obtain ⟨h1, h2⟩ := h
  refine ⟨h1, ?_⟩
  rcases h2 with h2 | ⟨g, cap, cur, hv, hg, r⟩
  · exact .inl h2
  · exact .inr ⟨g, cap, cur, hv, by omega, r⟩
theorem Owns.form {w : World} {base : Nat} {v : Value} {L : List Int} (h : Owns w base v L) : ∃ a cap, v = .slice a L.length cap ∧ (0 < L.length → ∃ g, v.ownBlock = some g ∧ base ≤ g ∧ g < w.heap.size ∧ a = some ⟨g, 0, none⟩ ∧ ∀ j, j < L.length → w.cell? ⟨g, j, none⟩ = some (.int .i64 (L.getD j 0))) := by
  rcases h.2 with ⟨rfl, h2⟩ | ⟨g, cap, cur, rfl, hg, hh, hr⟩
  · exact ⟨none, 0, by rw [h2], fun h => by omega⟩
  · refine ⟨_, _, rfl, fun _ => ⟨g, rfl, hg, lt_of_block hh, rfl, fun j hj => ?_⟩⟩
    have := World.ownsRow.cellAt h j (by omega)
    rw [this]
    simp [List.getD, hj]
theorem Owns.push {w : World} {base : Nat} {v : Value} {L : List Int} {x : Int} (h : w.ownsRow base 3 1 v (L.length + 1) (L.map (Value.int .i64) ++ [.int .i64 x])) : Owns w base v (L ++ [x]) := by
  unfold Owns
  simpa using h

theorem one_int (w : World) (x : Value) : ∀ j u, [x][j]? = some u → (w.alloc (.cells #[x] 3)).cell? ((⟨w.heap.size, 0, none⟩ : Addr).add j) = some u := World.news_of_block (heap_new w (.cells #[x] 3))

theorem own_form {w : World} {base e : Nat} {v : Value} {n : Nat} {xs : List Value} (h : w.ownsRow base e 1 v n xs) : ∃ a cap, v = .slice a n cap := by
  rcases h.2 with ⟨rfl, h2⟩ | ⟨g, cap, cur, rfl, _⟩
  · exact ⟨none, 0, by rw [h2]⟩
  · exact ⟨_, _, rfl⟩

theorem one_int' (w : World) (x : Value) (n : Nat) (h : w.heap.size = n) : ∀ j u, [x][j]? = some u → (w.alloc (.cells #[x] 3)).cell? ((⟨n, 0, none⟩ : Addr).add j) = some u := by
  subst h; exact one_int w x

theorem Owns.ints {w : World} {base : Nat} {v : Value} {L : List Int} (h : Owns w base v L) : ∃ a cap, v = .slice a L.length cap ∧ Ints base w.heap.size w a L := by
  obtain ⟨a, cap, hv, hf⟩ := h.form
  refine ⟨a, cap, hv, ?_⟩
  by_cases h0 : L.length = 0
  · exact .inl h0
  · obtain ⟨g, _, h2, h3, ha, hc⟩ := hf (by omega)
    exact .inr ⟨g, 0, h2, h3, h3, ha, fun i hi => by rw [Nat.zero_add]; exact hc i hi⟩


/-- An owned row lies in a block of its own. -/
theorem Owns.ro {w : World} {base : Nat} {v : Value} {L : List Int} (h : Owns w base v L) (h0 : L ≠ []) : ∃ g sp cap, v = .slice (some ⟨g, 0, none⟩) L.length cap ∧ base ≤ g ∧ L.length ≤ cap ∧ cap ≤ maxLen ∧ sp.size = cap - L.length ∧ Ro g sp L w := by
  rcases h.2 with ⟨_, h2⟩ | ⟨g, cap, cur, rfl, hg, hh, hc1, hc2, hc3, hc4⟩
  · exact absurd (List.eq_nil_of_length_eq_zero h2) h0
  · rw [Nat.mul_one] at hc3 hc4
    refine ⟨g, (cur.toList.drop L.length).toArray, cap, rfl, hg, hc1, hc2, by simp [hc3], ?_⟩
    unfold Ro rowA
    rw [hh, ← hc4]
    simp
theorem Owns.of_ro {w : World} {base g cap : Nat} {sp : Array Value} {L : List Int} (h : Ro g sp L w) (hg : base ≤ g) (hc : L.length ≤ cap) (hm : cap ≤ maxLen) (hs : sp.size = cap - L.length) : Owns w base (.slice (some ⟨g, 0, none⟩) L.length cap) L := by
  refine ⟨by simp, .inr ⟨g, cap, rowA L sp, rfl, hg, h, hc, hm, ?_, ?_⟩⟩
  · simp [rowA, hs]; omega
  · simp [rowA]
theorem made_ints (n : Nat) (i : TypeInfo) (hi : Try.prog.info? 3 = some i) (hz : i.zero = some (.int .i64 0)) (hs : i.size = 1) (hb : i.bytes = 8) (hn : n ≤ 1000000000) (W : World) :
    (Instr.makeSlice 22 (.int .i64 (n : Int)) (.int .i64 (n : Int))).run Try.prog W = .ok (.slice (some ⟨W.heap.size, 0, none⟩) n n) (W.alloc (.cells (rowA (List.replicate n 0) #[]) 3)) := by
  have := run_make (P := Try.prog) W 22 3 i (.int .i64 0) Try.underlying22 hi hz .i64 .i64 n n (by omega) (by omega) (by rw [hb]; omega) (by omega)
  rw [this, hs]
  have e2 : madeCells (Value.int .i64 0).cells n = rowA (List.replicate n 0) #[] := by
    have := toList_madeCells_one (Value.int .i64 0) n
    rw [← Array.toList_inj]
    simpa [Value.cells, rowA] using this
  rw [Int.toNat_natCast, Nat.mul_one, e2]
theorem Ro.ints {g : Nat} {sp : Array Value} {d : List Int} {w : World} (h : Ro g sp d w) {lo hi : Nat} (h1 : lo ≤ g) (h2 : g < hi) : Ints lo hi w (some ⟨g, 0, none⟩) d :=
  .inr ⟨g, 0, h1, h2, h.lt, rfl, fun i hi => by rw [Nat.zero_add]; exact h.cell hi⟩
end Go.Proofs.Ytdeigchkpakdaaa
