/- The program's ToDate: contract. -/
import Derived.Test.YthhajodedmaefabPDod
import Derived.Test.YthhajodedmaefabPNum
namespace Go.Proofs.Ythhajodedmaefab.T
set_option maxRecDepth 100000
open Go Go.RowKit
set_option linter.unusedVariables false
theorem dateOfDay_v {day Y M d : Int} (w : World) (h1 : -107015 ≤ day) (h2 : day < 107016) (hd : IsDay day Y M d) : Calls Try.prog 10 #[.int .i64 day] w fun e w' => e = .returned (.agg #[.int .i64 Y, .int .i64 M, .int .i64 d, .int .i64 0, .int .i64 0, .int .i64 0]) ∧ Below w.heap.size w w' :=
  (dateOfDay_c day w h1 h2).mono fun e w' ⟨Y', M', d', he, hi, hb⟩ => by
    obtain ⟨rfl, rfl, rfl⟩ := hd.one hi
    exact ⟨he, hb⟩
theorem wpList_store6 {P : Program} {ops : Array Oper} {rest : List Oper} {op : Oper} {a : Act} {w : World} {Q : Exit → Act → World → Prop} (hgd : op.guard = none) (ty : TypeId) (x y : Operand) (ho : op.op = .store ty x y)
    (g : Nat) (cells : Array Value) (hx : a.eval x = .pointer (some ⟨g, 0, none⟩)) (hy : a.eval y = .agg cells) (old : Array Value) (t : TypeId) (hg : w.heap[g]? = some (.cells old t (0, 0)))
    (hi : (P.info? ty).map (·.size) = some cells.size) (hs : old.size = cells.size) (h1 : cells.all (·.oneCell') = true)
    (h : ∀ w2, Hid (w2.heap[g]? = some (.cells cells t (0, 0))) → Hid (Kept (fun k => k = g) w w2) → wpList P ops Q rest (a.put op.dst undef) w2) : wpList P ops Q (op :: rest) a w :=
  wpList_plain hgd fun _ hK => wp_store6 ty x y ho g cells hx hy old t hg hi hs h1 fun w2 h2 h3 => hK _ _ (h w2 h2 h3)
set_option maxHeartbeats 4000000 in
theorem toDate_c {t Y M d h mi se : Int} (w : World) (ht : -9223372036854775808 ≤ t) (ht2 : t ≤ 9223372036854775807) (hd : IsDt (t / 1000000000) Y M d h mi se) : Calls Try.prog 5 #[.int .i64 t] w fun e w' => e = .returned (.agg #[.int .i64 Y, .int .i64 M, .int .i64 d, .int .i64 h, .int .i64 mi, .int .i64 se]) ∧ Below w.heap.size w w' := by
  have HU := fun W => hide (toUnix_c t W ht ht2)
  have hsb : -9223372037 ≤ t / 1000000000 ∧ t / 1000000000 ≤ 9223372036 := by omega
  generalize t / 1000000000 = s at *
  have HQ := fun W => hide (quotient_c s 86400 W (by omega) (by omega) (by omega) (by omega))
  obtain ⟨a1, a2, a3, a4, a5⟩ := hd
  have hqb : -106752 ≤ s / 86400 ∧ s / 86400 ≤ 106751 := by omega
  have HD := fun W => hide (dateOfDay_v W (by omega) (by omega) a1)
  have hr : s - s / 86400 * 86400 = h * 3600 + mi * 60 + se := by omega
  generalize s / 86400 = q at *
  have r0 : 0 ≤ h * 3600 + mi * 60 + se := by omega
  have r1 : (h * 3600 + mi * 60 + se) / 3600 = h := by omega
  have r2 : (h * 3600 + mi * 60 + se) % 3600 / 60 = mi := by omega
  have r3 : (h * 3600 + mi * 60 + se) % 60 = se := by omega
  have r4 : h * 3600 + mi * 60 + se ≤ 86400 := by omega
  generalize h * 3600 + mi * 60 + se = r at *
  clear a1 a2 a3 a4 a5 ht ht2
  have HW := hide (heap_new w (.cells #[.int .i64 0, .int .i64 0, .int .i64 0, .int .i64 0, .int .i64 0, .int .i64 0] 23))
  have HBL := hide ((Below.refl w.heap.size w).alloc (Nat.le_refl _) (.cells #[.int .i64 0, .int .i64 0, .int .i64 0, .int .i64 0, .int .i64 0, .int .i64 0] 23))
  go_enter Try.func5, Try.ntmps5
  go_upto_region 6 with (first
    | (go_at_call 8; refine (HU _).out.mono ?_; rintro e w1 ⟨rfl, hw⟩; obtain rfl := hw.symm; clear HU)
    | (go_at_call 9; refine (HQ _).out.mono ?_; rintro e w1 ⟨rfl, hw⟩; obtain rfl := hw.symm; clear HQ)
    | (go_at_call 10; refine (HD _).out.mono ?_; rintro e w2 ⟨rfl, hw⟩; have B2 := hide hw; clear hw HD))
  have HZ : Hid ((w2.alloc (.cells #[.int .i64 Y, .int .i64 M, .int .i64 d, .int .i64 h, .int .i64 mi, .int .i64 se] 23)).heap[w.heap.size]? = some (.cells #[.int .i64 0, .int .i64 0, .int .i64 0, .int .i64 0, .int .i64 0, .int .i64 0] 23 (0, 0))) := hide (by
    have q := (B2.out.block _ (by simp)).trans HW.out
    rw [Below.heap_alloc _ _ _ (by have := lt_of_block q; omega)]
    exact q)
  have HB5 : Hid (Below w.heap.size w (w2.alloc (.cells #[.int .i64 Y, .int .i64 M, .int .i64 d, .int .i64 h, .int .i64 mi, .int .i64 se] 23))) := hide ((HBL.out.trans (B2.out.mono HBL.out.size)).alloc (Nat.le_trans HBL.out.size B2.out.size) _)
  clear HW HBL B2
  go_wp2_with (first
    | (refine wpList_store6 rfl 23 (.tmp 2) (.tmp 26) rfl w.heap.size #[.int .i64 Y, .int .i64 M, .int .i64 d, .int .i64 h, .int .i64 mi, .int .i64 se] rfl rfl #[.int .i64 0, .int .i64 0, .int .i64 0, .int .i64 0, .int .i64 0, .int .i64 0] 23 HZ.out info6 rfl (by simp [Value.oneCell']) ?_; intro w6 h6 k6))
  exact bodyPost_ret (results_cell_row rfl _ _ w.heap.size 23 _ (0, 0) _ (by rfl) h6.out Try.underlying23 rfl info6) rfl ⟨rfl, HB5.out.trans (k6.out.below HB5.out.size (fun i hi q => by omega))⟩
end Go.Proofs.Ythhajodedmaefab.T
