/- The reference's lists of bits: Row, Lay, Fill: contracts. -/
import Derived.Test.YtibolmgijaploaaDoorOpen
import Derived.Laws.AppendOwnNone
namespace Go.Proofs.YtibolmgijaploaaDoor
open Go.RowKit

/-- A slice value that owns the numbers L. -/
def Owns (w : World) (base : Nat) (v : Value) (L : List Int) : Prop := w.ownsRow base 3 1 v L.length (L.map (Value.int .i64))

theorem Owns.nil (w : World) (base : Nat) : Owns w base (.slice none 0 0) [] := World.ownsRow_nil _ _ _ _
theorem Owns.kept {M : Nat → Prop} {w w' : World} {base : Nat} {v : Value} {L : List Int} (h : Owns w base v L) (k : Kept M w w') (hn : ∀ g, v.ownBlock = some g → ¬ M g) : Owns w' base v L := ownsRow_kept h k hn
theorem Owns.low {w : World} {base base' : Nat} {v : Value} {L : List Int} (h : Owns w base v L) (hb : base' ≤ base) : Owns w base' v L := by
  obtain ⟨h1, h2⟩ := h
  refine ⟨h1, ?_⟩
  rcases h2 with h2 | ⟨g, cap, cur, hv, hg, r⟩
  · exact .inl h2
  · exact .inr ⟨g, cap, cur, hv, by omega, r⟩
theorem Owns.form {w : World} {base : Nat} {v : Value} {L : List Int} (h : Owns w base v L) : ∃ a cap, v = .slice a L.length cap ∧ (0 < L.length → ∃ g, v.ownBlock = some g ∧ base ≤ g ∧ g < w.heap.size ∧ a = some ⟨g, 0, none⟩ ∧ ∀ j, j < L.length → w.cell? ⟨g, j, none⟩ = some (.int .i64 (L.getD j 0))) := by
  rcases h.2 with ⟨rfl, h2⟩ | ⟨g, cap, cur, rfl, hg, hh, hr⟩
  · exact ⟨none, 0, by rw [h2], fun h => by omega⟩
  · refine ⟨_, _, rfl, fun _ => ⟨g, rfl, hg, lt_of_block hh, rfl, fun j hj => ?_⟩⟩
    have := World.ownsRow.cellAt h j (by omega)
    rw [this]
    simp [List.getD, hj]
theorem Owns.push {w : World} {base : Nat} {v : Value} {L : List Int} {x : Int} (h : w.ownsRow base 3 1 v (L.length + 1) (L.map (Value.int .i64) ++ [.int .i64 x])) : Owns w base v (L ++ [x]) := by
  unfold Owns
  simpa using h

theorem one_int (w : World) (x : Value) : ∀ j u, [x][j]? = some u → (w.alloc (.cells #[x] 3)).cell? ((⟨w.heap.size, 0, none⟩ : Addr).add j) = some u := World.news_of_block (heap_new w (.cells #[x] 3))

set_option maxRecDepth 100000 in
set_option maxHeartbeats 1000000 in
theorem row_any (B : Nat) (a : Option Addr) (len cap : Nat) (zs : List Int) (w : World) (ht : Text B w a len zs) (hl : len ≤ 1000000000000) (hB : B ≤ w.heap.size) :
    Calls Tryd.prog 15 #[.slice a len cap] w fun e w' => ∃ v, e = .returned v ∧ Owns w' w.heap.size v (rowOf zs) ∧ Below w.heap.size w w' := by
  obtain ⟨hz1, hz2, hz3⟩ := ht
  obtain ⟨i0, hi, hz0, hz1', hz2'⟩ := info_parts Tryd.info3
  go_enter Tryd.func15, Tryd.ntmps15
  go_wp2
  go_loopw [3, 4] (fun v i wr => ∃ k : Nat, k ≤ len ∧ i = .int .i64 k ∧ Owns wr w.heap.size v (rowOf (zs.take k)) ∧ Below w.heap.size w wr) (fun _ i _ => len - (intOf i).toNat)
  case atStart => exact ⟨0, Nat.zero_le _, rfl, Owns.nil _ _, Below.refl _ _⟩
  case round =>
    obtain ⟨k, hk, rfl, hown, hbel⟩ := hrel
    by_cases hlt : k < len
    · obtain ⟨b, off, hbB, rfl, hcell⟩ := hz3.resolve_left (by omega)
      have hc : wr.cell? ⟨b, off + k, none⟩ = some (.int .u8 (zs.getD k 0)) := (hbel.cell (by show b < w.heap.size; omega)).trans (hcell k hlt)
      have hx := hz2 k
      obtain ⟨X, hX⟩ : ∃ X, X = zs.getD k 0 := ⟨_, rfl⟩
      rw [← hX] at hc hx
      have HX : Hid (X = zs.getD k 0) := hX
      have HO : Hid (Owns wr w.heap.size u3 (rowOf (zs.take k))) := hown
      have HB : Hid (Below w.heap.size w wr) := hbel
      clear hX hown hbel hz3 hcell hz2
      go_wp2
      go_loopw [3, 5, 6] (fun v x i wi => ∃ j : Nat, j ≤ 8 ∧ i = .int .i64 j ∧ x = .int .i64 (X / 2 ^ j) ∧ Owns wi w.heap.size v (rowOf (zs.take k) ++ bitsN X j) ∧ Below w.heap.size w wi) (fun _ _ i _ => 8 - (intOf i).toNat)
      case atStart => exact ⟨0, by omega, rfl, by simp, by simpa [bitsN] using HO.out, HB.out⟩
      case round =>
        obtain ⟨j, hj, rfl, rfl, hown, hbel⟩ := hrel
        obtain ⟨Y, hY⟩ : ∃ Y, Y = X / 2 ^ j := ⟨_, rfl⟩
        have hY0 : 0 ≤ Y := by rw [hY]; exact Int.ediv_nonneg hx.1 (by have := pow_pos' j; omega)
        have hY1 : Y ≤ 255 := by rw [hY]; have := Int.ediv_le_self (2 ^ j) hx.1; omega
        rw [← hY]
        have HY : Hid (Y = X / 2 ^ j) := hY
        obtain ⟨L, hL⟩ : ∃ L, L = rowOf (zs.take k) ++ bitsN X j := ⟨_, rfl⟩
        rw [← hL] at hown
        have hLl : L.length ≤ 10000000000000 := by rw [hL]; simp [rowOf_length, bitsN_length]; omega
        have HL : Hid (L = rowOf (zs.take k) ++ bitsN X j) := hL
        have HR : Hid (Owns wr w.heap.size u3 L) := hown
        have hsz := hbel.size
        clear hY hL hown
        by_cases hj8 : j < 8
        · go_wp2_with (at_builtin; refine wpList_append_own _ rfl _ _ 43 rfl w.heap.size 3 i0 (.int .i64 0) 1 8 Tryd.underlying43 hi hz0 hz1' hz2' rfl (by decide) _ _ _ rfl (World.ownsRow.alloc HR.out _) ⟨wr.heap.size, 0, none⟩ 1 1 [.int .i64 (Y % 2)] rfl rfl (one_int wr _) (by intro u hu; simp at hu; subst hu; rfl) (by unfold maxLen; omega) (by omega) (by simp; omega) ?_; intro v' w1 hown' hgrow hnil)
          go_roundw
          case rel =>
            refine ⟨j + 1, by omega, by go_num, by rw [HY.out, div_pow_succ], ?_, ?_⟩
            · have h1 := Owns.push hown'
              rw [HY.out, HL.out, List.append_assoc] at h1
              exact h1
            · exact (hbel.alloc hsz _).grown hgrow (by simp; omega) (fun g e => (ownsRow_lt HR.out e).1)
          case measure => simp [intOf]; omega
        · have : j = 8 := by omega
          subst this
          go_wp2
          go_roundw
          case rel =>
            refine ⟨k + 1, by omega, by go_num, ?_, hbel⟩
            have h1 := HR.out
            rw [HL.out, HX.out, ← rowOf_take_succ zs k (by omega)] at h1
            exact h1
          case measure => simp [intOf]; omega
    · have : k = len := by omega
      subst this
      go_wp2
      go_ret
      rw [List.take_of_length_le (by omega)] at hown
      exact ⟨_, rfl, hown, hbel⟩
end Go.Proofs.YtibolmgijaploaaDoor
