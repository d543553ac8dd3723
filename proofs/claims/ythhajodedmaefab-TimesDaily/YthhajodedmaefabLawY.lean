/- The law TimesDaily: its walk. -/
import Derived.Test.YthhajodedmaefabPAlive
namespace Go.Proofs.Ythhajodedmaefab.T
set_option maxRecDepth 100000
open Go Go.RowKit
set_option linter.unusedVariables false
set_option maxHeartbeats 4000000 in
theorem timesDaily_late (t : Int) (W : World) (h : 9000000000000000000 < t) : Calls Try.prog 4 #[.int .i64 t] W fun e w' => e = .returned (.bool true) ∧ Below W.heap.size W w' := by
  have A := fun w => hide (alive_c w)
  go_enter Try.func4, Try.ntmps4
  go_wp2_with (go_at_call 6; refine (A _).out.mono ?_; rintro e w3 ⟨rfl, hw⟩; have B3 := hide hw; clear hw A)
  go_ret
  exact ⟨rfl, B3.out⟩
/-- A day later. -/
theorem day_later {s y m d h mi se y' m' d' h' mi' se' : Int} (a : IsDt s y m d h mi se) (b : IsDt (s + 86400) y' m' d' h' mi' se') :
    ((d' = d + 1 ∧ m' = m ∧ y' = y) ∨ (d' = 1 ∧ 28 ≤ d ∧ ((m' = m + 1 ∧ y' = y) ∨ (m' = 1 ∧ m = 12 ∧ y' = y + 1)))) ∧ h' = h ∧ mi' = mi ∧ se' = se := by
  obtain ⟨a1, a2, a3, a4, a5⟩ := a
  obtain ⟨b1, b2, b3, b4, b5⟩ := b
  rw [show (s + 86400) / 86400 = s / 86400 + 1 by omega] at b1
  exact ⟨a1.next b1, by omega, by omega, by omega⟩
theorem two_rows {w : World} {t : TypeId} (A B : Array Value) (k : Nat) (v : Value) (h : A[k]? = some v) : ((w.alloc (.cells A t)).alloc (.cells B t)).cell? ⟨w.heap.size, k, none⟩ = some v := by
  rw [World.cell?_alloc_lt _ _ _ (by simp)]
  exact cells_new w A t k v h
theorem two_rows' {w : World} {t : TypeId} (A B : Array Value) (k : Nat) (v : Value) (h : B[k]? = some v) : ((w.alloc (.cells A t)).alloc (.cells B t)).cell? ⟨w.heap.size + 1, k, none⟩ = some v := by
  have := cells_new (w.alloc (.cells A t)) B t k v h
  simpa using this
set_option maxHeartbeats 8000000 in
theorem timesDaily_in (t : Int) (W : World) (ht : -9223372036854775808 ≤ t ∧ t ≤ 9000000000000000000) : Calls Try.prog 4 #[.int .i64 t] W fun e w' => e = .returned (.bool true) ∧ Below W.heap.size W w' := by
  obtain ⟨Y, M, d, hd⟩ := dt_of (t / 1000000000)
  obtain ⟨Y', M', d', hd'⟩ := dt_of ((t + 86400000000000) / 1000000000)
  generalize t / 1000000000 % 86400 / 3600 = h at *
  generalize t / 1000000000 % 86400 % 3600 / 60 = mi at *
  generalize t / 1000000000 % 86400 % 60 = se at *
  generalize (t + 86400000000000) / 1000000000 % 86400 / 3600 = h' at *
  generalize (t + 86400000000000) / 1000000000 % 86400 % 3600 / 60 = mi' at *
  generalize (t + 86400000000000) / 1000000000 % 86400 % 60 = se' at *
  have H1 := fun w => hide (toDate_c w ht.1 (by omega) hd)
  have H2 := fun w => hide (toDate_c w (by omega) (by omega) hd')
  have A := fun w => hide (alive_c w)
  have hyb := hd.years (by omega) (by omega)
  have hmb := hd.1.1
  have hdb : 1 ≤ d ∧ d ≤ 31 := by have := hd.1.2.1; have := md_le Y M; omega
  rw [show (t + 86400000000000) / 1000000000 = t / 1000000000 + 86400 by omega] at hd'
  obtain ⟨hc, rfl, rfl, rfl⟩ := day_later hd hd'
  clear hd hd'
  have hng : ¬ 9000000000000000000 < t := by omega
  rcases hc with ⟨rfl, rfl, rfl⟩ | ⟨rfl, h28, ⟨rfl, rfl⟩ | ⟨rfl, rfl, rfl⟩⟩
  · clear hmb
    go_enter Try.func4, Try.ntmps4
    go_wp2_with (first
      | (go_at_call 5; refine (H1 _).out.mono ?_; rintro e w1 ⟨rfl, hw⟩; have B1 := hide hw; clear hw H1)
      | (go_at_call 5; refine (H2 _).out.mono ?_; rintro e w2 ⟨rfl, hw⟩; have B2 := hide (B1.out.trans (hw.mono B1.out.size)); clear hw H2 B1)
      | (go_at_call 6; refine (A _).out.mono ?_; rintro e w3 ⟨rfl, hw⟩; have x3 := (hw.cell (p := ⟨w2.heap.size, 3, none⟩) (by show w2.heap.size < _; simp <;> omega)).trans (two_rows _ _ 3 _ rfl); have y3 := (hw.cell (p := ⟨w2.heap.size + 1, 3, none⟩) (by show w2.heap.size + 1 < _; simp <;> omega)).trans (two_rows' _ _ 3 _ rfl); have x4 := (hw.cell (p := ⟨w2.heap.size, 4, none⟩) (by show w2.heap.size < _; simp <;> omega)).trans (two_rows _ _ 4 _ rfl); have y4 := (hw.cell (p := ⟨w2.heap.size + 1, 4, none⟩) (by show w2.heap.size + 1 < _; simp <;> omega)).trans (two_rows' _ _ 4 _ rfl); have x5 := (hw.cell (p := ⟨w2.heap.size, 5, none⟩) (by show w2.heap.size < _; simp <;> omega)).trans (two_rows _ _ 5 _ rfl); have y5 := (hw.cell (p := ⟨w2.heap.size + 1, 5, none⟩) (by show w2.heap.size + 1 < _; simp <;> omega)).trans (two_rows' _ _ 5 _ rfl); have B3 := hide ((B2.out.alloc B2.out.size _).alloc (by have := B2.out.size; simp; omega) _ |>.trans (hw.mono (by have := B2.out.size; simp; omega))); clear hw A B2))
    all_goals go_ret
    all_goals exact ⟨by simp, B3.out⟩
  · have hq : ¬ (1 : Int) = d + 1 := by omega
    go_enter Try.func4, Try.ntmps4
    go_wp2_with (first
      | (go_at_call 5; refine (H1 _).out.mono ?_; rintro e w1 ⟨rfl, hw⟩; have B1 := hide hw; clear hw H1)
      | (go_at_call 5; refine (H2 _).out.mono ?_; rintro e w2 ⟨rfl, hw⟩; have B2 := hide (B1.out.trans (hw.mono B1.out.size)); clear hw H2 B1)
      | (go_at_call 6; refine (A _).out.mono ?_; rintro e w3 ⟨rfl, hw⟩; have x3 := (hw.cell (p := ⟨w2.heap.size, 3, none⟩) (by show w2.heap.size < _; simp <;> omega)).trans (two_rows _ _ 3 _ rfl); have y3 := (hw.cell (p := ⟨w2.heap.size + 1, 3, none⟩) (by show w2.heap.size + 1 < _; simp <;> omega)).trans (two_rows' _ _ 3 _ rfl); have x4 := (hw.cell (p := ⟨w2.heap.size, 4, none⟩) (by show w2.heap.size < _; simp <;> omega)).trans (two_rows _ _ 4 _ rfl); have y4 := (hw.cell (p := ⟨w2.heap.size + 1, 4, none⟩) (by show w2.heap.size + 1 < _; simp <;> omega)).trans (two_rows' _ _ 4 _ rfl); have x5 := (hw.cell (p := ⟨w2.heap.size, 5, none⟩) (by show w2.heap.size < _; simp <;> omega)).trans (two_rows _ _ 5 _ rfl); have y5 := (hw.cell (p := ⟨w2.heap.size + 1, 5, none⟩) (by show w2.heap.size + 1 < _; simp <;> omega)).trans (two_rows' _ _ 5 _ rfl); have B3 := hide ((B2.out.alloc B2.out.size _).alloc (by have := B2.out.size; simp; omega) _ |>.trans (hw.mono (by have := B2.out.size; simp; omega))); clear hw A B2))
    all_goals go_ret
    all_goals exact ⟨by simp, B3.out⟩
  · have hq : ¬ (1 : Int) = d + 1 := by omega
    go_enter Try.func4, Try.ntmps4
    go_wp2_with (first
      | (go_at_call 5; refine (H1 _).out.mono ?_; rintro e w1 ⟨rfl, hw⟩; have B1 := hide hw; clear hw H1)
      | (go_at_call 5; refine (H2 _).out.mono ?_; rintro e w2 ⟨rfl, hw⟩; have B2 := hide (B1.out.trans (hw.mono B1.out.size)); clear hw H2 B1)
      | (go_at_call 6; refine (A _).out.mono ?_; rintro e w3 ⟨rfl, hw⟩; have x3 := (hw.cell (p := ⟨w2.heap.size, 3, none⟩) (by show w2.heap.size < _; simp <;> omega)).trans (two_rows _ _ 3 _ rfl); have y3 := (hw.cell (p := ⟨w2.heap.size + 1, 3, none⟩) (by show w2.heap.size + 1 < _; simp <;> omega)).trans (two_rows' _ _ 3 _ rfl); have x4 := (hw.cell (p := ⟨w2.heap.size, 4, none⟩) (by show w2.heap.size < _; simp <;> omega)).trans (two_rows _ _ 4 _ rfl); have y4 := (hw.cell (p := ⟨w2.heap.size + 1, 4, none⟩) (by show w2.heap.size + 1 < _; simp <;> omega)).trans (two_rows' _ _ 4 _ rfl); have x5 := (hw.cell (p := ⟨w2.heap.size, 5, none⟩) (by show w2.heap.size < _; simp <;> omega)).trans (two_rows _ _ 5 _ rfl); have y5 := (hw.cell (p := ⟨w2.heap.size + 1, 5, none⟩) (by show w2.heap.size + 1 < _; simp <;> omega)).trans (two_rows' _ _ 5 _ rfl); have B3 := hide ((B2.out.alloc B2.out.size _).alloc (by have := B2.out.size; simp; omega) _ |>.trans (hw.mono (by have := B2.out.size; simp; omega))); clear hw A B2))
    all_goals go_ret
    all_goals exact ⟨by simp, B3.out⟩
theorem timesDaily_walk (t : Int) (W : World) (ht : -9223372036854775808 ≤ t ∧ t ≤ 9223372036854775807) : Calls Try.prog 4 #[.int .i64 t] W fun e w' => e = .returned (.bool true) ∧ Below W.heap.size W w' := by
  rcases (by omega : t ≤ 9000000000000000000 ∨ 9000000000000000000 < t) with h | h
  · exact timesDaily_in t W ⟨ht.1, h⟩
  · exact timesDaily_late t W h
end Go.Proofs.Ythhajodedmaefab.T
