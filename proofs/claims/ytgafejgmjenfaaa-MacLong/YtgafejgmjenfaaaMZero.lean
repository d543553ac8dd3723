/- Bytes 0 appended to a row of one's own. -/
import Derived.Test.YtgafejgmjenfaaaHOwn
import Derived.Lib.AppendZeros
namespace Go.Proofs.Ytgafejgmjenfaaa.S
set_option maxRecDepth 100000
open Go Go.RowKit

theorem zero_cells (m : Nat) : Builtin.zeroCells (Value.int .u8 0).cells m = (bV (List.replicate m 0)).toArray := by
  apply Array.ext'
  simp [Builtin.zeroCells, bV, Value.cells, Nat.mod_one]
  apply List.ext_getElem?
  intro i
  by_cases h : i < m
  · simp [h]
  · simp [h]
theorem run_zeros_own (w : World) (ty : TypeId) (base g n cap : Nat) (X : List Nat) (hown : OwnsB w base (.slice (some ⟨g, 0, none⟩) n cap) X) (m : Nat) (hb : n + m ≤ 1000000) (hbase : base ≤ w.heap.size) :
    ∃ v' w', (Builtin.append_ #[22, 3] ty #[.slice (some ⟨g, 0, none⟩) n cap, .int .i64 (m : Int)]).run Try.prog w = .ok v' w' ∧ OwnsB w' base v' (X ++ List.replicate m 0) ∧ w.grownBy w' (some g) := by
  obtain ⟨i, hi, hz, hs, hby⟩ := info_parts infoB
  have ht := Try.underlying22
  have htn := Try.underlying3
  rcases hown.2 with ⟨e, _⟩ | ⟨g', cap', cur, e, hbg, hg, hnc, hcm, hcs, htake⟩
  · cases e
  simp only [Value.slice.injEq, Option.some.injEq, Addr.mk.injEq, and_true] at e
  obtain ⟨rfl, rfl, rfl⟩ := e
  rw [Nat.mul_one] at hcs htake
  have hw : IntKind.i64.wrap (m : Int) = m := by rw [IntKind.wrap_i64]; omega
  have hneg : ¬ ((m : Int) < 0) := by omega
  have h48i : ¬ (281474976710656 < (m : Int) * (i.bytes : Int)) := by rw [hby]; omega
  by_cases hm : m = 0
  · subst hm
    refine ⟨_, w, ?_, by simpa using hown, ⟨rfl, rfl, rfl, Nat.le_refl _, fun _ _ _ => rfl⟩⟩
    simp [Builtin.append_, run_underlying ht, run_underlying htn, sizeOf, typeInfo, hi, asInt, asIntOf, storeCells, hnc, show IntKind.i64.wrap 0 = 0 by rw [IntKind.wrap_i64]; rfl]
  · have hlen : (bV (List.replicate m 0)).length = m := by simp [bV]
    have hXl : (bV X).length = X.length := by simp [bV]
    have hns : ¬ (m * i.size = 0) := by rw [hs]; omega
    by_cases hroom : X.length + m ≤ cap
    · have hst := run_storeCells_at Try.prog g X.length 5 (bV (List.replicate m 0)) 0 cur w hg (by rw [hlen, hcs]; omega) (bV_one _)
      simp only [Nat.add_zero] at hst
      refine ⟨.slice (some ⟨g, 0, none⟩) (X.length + m) cap, w.setRow g (cur.toList.take X.length ++ bV (List.replicate m 0) ++ cur.toList.drop (X.length + (bV (List.replicate m 0)).length)).toArray, ?_, ⟨by simp [bV], .inr ⟨g, cap, _, by simp, hbg, setRow_heap' w g _ _ _ _ hg, by simp; omega, hcm, ?_, ?_⟩⟩, ⟨rfl, rfl, rfl, by simp, fun k _ hk => setRow_other w g k _ (fun e => hk (by rw [e]))⟩⟩
      · simp [Builtin.append_, run_underlying ht, run_underlying htn, sizeOf, typeInfo, zeroValue, hi, hz, hs, hby, asInt, asIntOf, hw, hm, hroom, zero_cells, Addr.add_lit, hst]
        have h9 : ¬ (281474976710656 < (m : Int)) := by omega
        simp [h9]
        exact fun h => absurd h (by omega)
      · rw [hlen]
        simp only [List.size_toArray, List.length_append, List.length_take, List.length_drop, Array.length_toList, hlen]
        omega
      · rw [htake, bV_app]
        exact List.take_left' (by simp [bV])
    · have hold : (Builtin.firstCells i.size X.length (.slice (some ⟨g, 0, none⟩) X.length cap)).run Try.prog w.drew = .ok (bV X).toArray w.drew := by
        have hc : ∀ j u, (bV X)[j]? = some u → w.drew.cell? ((⟨g, 0, none⟩ : Addr).add j) = some u := hown.cells (g := g) rfl
        exact run_firstCells_some (P := Try.prog) w.drew i.size X.length ⟨g, 0, none⟩ X.length cap (bV X) (by rw [hs, hXl, Nat.mul_one]) hc
      rw [hs] at hold
      have hfit := growslice_fits (need := X.length + m) (old := cap) (bytes := 1) (by omega) (by omega)
      have hge := grownCap_ge w (X.length + m) cap 5
      have hle := grownCap_le_maxLen w (X.length + m) cap 5 (by unfold maxLen; omega)
      have h63' : ¬ (9223372036854775807 < (X.length : Int) + (m : Int)) := by omega
      have h48' : ¬ (281474976710656 < Builtin.nextslicecap (X.length + m) cap) := by omega
      have h9 : ¬ (281474976710656 < (m : Int)) := by omega
      refine ⟨.slice (some ⟨w.heap.size, 0, none⟩) (X.length + m) (grownCap w (X.length + m) cap 5), w.drew.alloc (.cells ((bV X).toArray ++ (bV (List.replicate m 0)).toArray ++ Builtin.zeroCells (Value.int .u8 0).cells (grownCap w (X.length + m) cap 5 - (X.length + m))) 5), ?_, ⟨by simp [bV], .inr ⟨w.heap.size, _, _, by simp, hbase, heap_new w.drew _, by simp; omega, hle, ?_, ?_⟩⟩, ⟨rfl, rfl, rfl, by simp, fun k hk _ => Below.heap_alloc w.drew _ k hk⟩⟩
      · simp [Builtin.append_, run_underlying ht, run_underlying htn, sizeOf, typeInfo, zeroValue, hi, hz, hs, hby, asInt, asIntOf, hw, hm, hroom, zero_cells, h9, h63', h48', Question.forced, newRow, grownCap]
        rw [if_neg hneg, hold]
        simp
      · rw [Array.size_append, Array.size_append, size_zeroCells]
        simp only [List.size_toArray, hlen, hXl, Value.cells, List.length_singleton]
        omega
      · simp only [Array.toList_append, List.append_assoc]
        rw [← List.append_assoc, bV_app]
        exact List.take_left' (by simp [bV])
theorem run_zeros (w : World) (ty : TypeId) (base : Nat) (v : Value) (X : List Nat) (hown : OwnsB w base v X) (m : Nat) (hb : X.length + m ≤ 1000000) (hbase : base ≤ w.heap.size) :
    ∃ v' w', (Builtin.append_ #[22, 3] ty #[v, .int .i64 (m : Int)]).run Try.prog w = .ok v' w' ∧ OwnsB w' base v' (X ++ List.replicate m 0) ∧ w.grownBy w' v.ownBlock := by
  have h2 := hown.2
  rcases h2 with ⟨rfl, hl⟩ | ⟨g, cap, cur, rfl, _⟩
  · obtain rfl : X = [] := List.eq_nil_of_length_eq_zero hl
    obtain ⟨i, hi, hz, hs, hby⟩ := info_parts infoB
    have ht := Try.underlying22
    have htn := Try.underlying3
    by_cases hm : m = 0
    · subst hm
      refine ⟨_, w, ?_, OwnsB.nil _ _, ⟨rfl, rfl, rfl, Nat.le_refl _, fun _ _ _ => rfl⟩⟩
      simp [Builtin.append_, run_underlying ht, run_underlying htn, sizeOf, typeInfo, hi, asInt, asIntOf, show IntKind.i64.wrap 0 = 0 by rw [IntKind.wrap_i64]; rfl]
    · simp only [List.length_nil, Nat.zero_add] at hb
      have hr := Lib.run_append_nil_zeros (P := Try.prog) w 22 3 ty 5 i (.int .u8 0) .i64 .i64 ht htn hi hz m (by omega) (by rw [hs]; omega) (by omega) (by rw [hby]; omega)
      have hge := grownCap_ge w m 0 5
      have hle := grownCap_le_maxLen w m 0 5 (by unfold maxLen; omega)
      have hlen : (bV (List.replicate m 0)).length = m := by simp [bV]
      refine ⟨_, _, hr, ⟨by simp [bV], .inr ⟨w.heap.size, _, _, by simp, hbase, heap_new w.drew _, by simp; omega, hle, ?_, ?_⟩⟩, ⟨rfl, rfl, rfl, by simp, fun k hk _ => Below.heap_alloc w.drew _ k hk⟩⟩
      · rw [Array.size_append, size_zeroCells, size_zeroCells]
        simp only [Value.cells, List.size_toArray, List.length_singleton]
        omega
      · rw [zero_cells, Array.toList_append, List.nil_append]
        exact List.take_left' (by simp [bV])
  · exact run_zeros_own w ty base g X.length cap X hown m hb hbase
end Go.Proofs.Ytgafejgmjenfaaa.S
