/- The program's dateOfDay: contract. -/
import Derived.Test.YthhajodedmaefabPClo
import Derived.Test.YthhajodedmaefabPLast
import Derived.Laws.EntriesVeiled
namespace Go.Proofs.Ythhajodedmaefab.T
set_option maxRecDepth 100000
open Go Go.RowKit
set_option linter.unusedVariables false
/-- The date that is told. -/
def DoOk (day : Int) (w : World) (e : Ending) (w' : World) : Prop := ∃ Y M d : Int, e = .returned (.agg #[.int .i64 Y, .int .i64 M, .int .i64 d, .int .i64 0, .int .i64 0, .int .i64 0]) ∧ IsDay day Y M d ∧ Below w.heap.size w w'
def pY (day : Int) (i : Nat) : Bool := decide (day < yn (1678 + (i : Int)))
def pM (Y day : Int) (i : Nat) : Bool := decide (day < yn Y + mn Y ((i : Int) + 2))
theorem year_at {day : Int} {c : Nat} (h1 : -107015 ≤ day) (h2 : day < 107016) (hc : c ≤ 585) (a : c = 0 ∨ pY day (c - 1) = false) (b : c = 585 ∨ pY day c = true) : yn (1677 + (c : Int)) ≤ day ∧ day < yn (1677 + (c : Int)) + yd (1677 + (c : Int)) := by
  rw [← yn_succ]
  constructor
  · rcases a with rfl | a
    · rw [show (1677 : Int) + ((0 : Nat) : Int) = 1677 from rfl, show yn 1677 = -107015 by decide]; exact h1
    · rcases Nat.eq_zero_or_pos c with rfl | q
      · rw [show (1677 : Int) + ((0 : Nat) : Int) = 1677 from rfl, show yn 1677 = -107015 by decide]; exact h1
      · have := of_decide_eq_false a
        rw [show (1678 : Int) + ((c - 1 : Nat) : Int) = 1677 + (c : Int) by omega] at this
        omega
  · rcases b with rfl | b
    · rw [show (1677 : Int) + ((585 : Nat) : Int) + 1 = 2263 from rfl, show yn 2263 = 107016 by decide]; exact h2
    · have := of_decide_eq_true b
      rw [show (1677 : Int) + (c : Int) + 1 = 1678 + (c : Int) by omega]
      exact this
theorem month_at {Y day : Int} {c : Nat} (h1 : yn Y ≤ day) (h2 : day < yn Y + yd Y) (hc : c ≤ 11) (a : c = 0 ∨ pM Y day (c - 1) = false) (b : c = 11 ∨ pM Y day c = true) : yn Y + mn Y (1 + (c : Int)) ≤ day ∧ day < yn Y + mn Y (1 + (c : Int)) + md Y (1 + (c : Int)) := by
  have hs := mn_succ Y (show 1 ≤ 1 + (c : Int) by omega) (by omega)
  constructor
  · rcases a with rfl | a
    · rw [show (1 : Int) + ((0 : Nat) : Int) = 1 from rfl, mn_1]; omega
    · rcases Nat.eq_zero_or_pos c with rfl | q
      · rw [show (1 : Int) + ((0 : Nat) : Int) = 1 from rfl, mn_1]; omega
      · have := of_decide_eq_false a
        rw [show ((c - 1 : Nat) : Int) + 2 = 1 + (c : Int) by omega] at this
        omega
  · rcases b with rfl | b
    · rw [show (1 : Int) + ((11 : Nat) : Int) + 1 = 13 from rfl, mn_13] at hs
      omega
    · have := of_decide_eq_true b
      rw [show ((c : Nat) : Int) + 2 = 1 + (c : Int) + 1 by omega] at this
      omega
theorem enters2 : ∀ args w, (callFunc 17 args).run Try.prog w = .ok (.enter 17 args) w := enters_of Try.func17 (by kernel_rfl) rfl
theorem enters3 : ∀ args w, (callFunc 18 args).run Try.prog w = .ok (.enter 18 args) w := enters_of Try.func18 (by kernel_rfl) rfl
theorem heap_new1' (w : World) (o p : Obj) : ((w.alloc o).alloc p).heap[w.heap.size + 1]? = some p := by
  have := heap_new (w.alloc o) p
  simpa using this
set_option maxHeartbeats 8000000 in
theorem dateOfDay_c (day : Int) (w : World) (h1 : -107015 ≤ day) (h2 : day < 107016) : Calls Try.prog 10 #[.int .i64 day] w (DoOk day w) := by
  have HDO : Hid (∀ (Y M d : Int) (w' : World), IsDay day Y M d → Below w.heap.size w w' → DoOk day w (.returned (.agg #[.int .i64 Y, .int .i64 M, .int .i64 d, .int .i64 0, .int .i64 0, .int .i64 0])) w') := hide fun Y M d w' a b => ⟨Y, M, d, rfl, a, b⟩
  have HB := hide (And.intro h1 h2)
  clear h1 h2
  go_enter Try.func10, Try.ntmps10
  go_upto_region 2 with fail
  have HDa : (((w.alloc (.cells #[.int .i64 day] 3)).alloc (.cells #[.int .i64 0, .int .i64 0, .int .i64 0, .int .i64 0, .int .i64 0, .int .i64 0] 23)).alloc (.cells #[.func (.func 14) #[] #[.pointer (some ⟨w.heap.size, 0, none⟩)]] 41)).cell? ⟨w.heap.size, 0, none⟩ = some (.int .i64 day) := by
    rw [cells_of (cs := #[.int .i64 day]) (t := 3) (by rw [Below.heap_alloc _ _ _ (by simp; omega), Below.heap_alloc _ _ _ (by simp)]; exact heap_new w _)]
    rfl
  have HRa : (((w.alloc (.cells #[.int .i64 day] 3)).alloc (.cells #[.int .i64 0, .int .i64 0, .int .i64 0, .int .i64 0, .int .i64 0, .int .i64 0] 23)).alloc (.cells #[.func (.func 14) #[] #[.pointer (some ⟨w.heap.size, 0, none⟩)]] 41)).heap[w.heap.size + 1]? = some (.cells #[.int .i64 0, .int .i64 0, .int .i64 0, .int .i64 0, .int .i64 0, .int .i64 0] 23 (0, 0)) := by
    rw [Below.heap_alloc _ _ _ (by simp)]
    exact heap_new1' w _ _
  have HCa : (((w.alloc (.cells #[.int .i64 day] 3)).alloc (.cells #[.int .i64 0, .int .i64 0, .int .i64 0, .int .i64 0, .int .i64 0, .int .i64 0] 23)).alloc (.cells #[.func (.func 14) #[] #[.pointer (some ⟨w.heap.size, 0, none⟩)]] 41)).cell? ⟨w.heap.size + 1 + 1, 0, none⟩ = some (.func (.func 14) #[] #[.pointer (some ⟨w.heap.size, 0, none⟩)]) := by
    rw [cells_of (cs := #[.func (.func 14) #[] #[.pointer (some ⟨w.heap.size, 0, none⟩)]]) (t := 41) (by have := heap_new ((w.alloc (.cells #[.int .i64 day] 3)).alloc (.cells #[.int .i64 0, .int .i64 0, .int .i64 0, .int .i64 0, .int .i64 0, .int .i64 0] 23)) (.cells #[.func (.func 14) #[] #[.pointer (some ⟨w.heap.size, 0, none⟩)]] 41); simpa using this)]
    rfl
  have HBa : Below w.heap.size w (((w.alloc (.cells #[.int .i64 day] 3)).alloc (.cells #[.int .i64 0, .int .i64 0, .int .i64 0, .int .i64 0, .int .i64 0, .int .i64 0] 23)).alloc (.cells #[.func (.func 14) #[] #[.pointer (some ⟨w.heap.size, 0, none⟩)]] 41)) := (((Below.refl _ w).alloc (Nat.le_refl _) _).alloc (by simp) _).alloc (by simp; omega) _
  have HZa : w.heap.size + 3 ≤ (((w.alloc (.cells #[.int .i64 day] 3)).alloc (.cells #[.int .i64 0, .int .i64 0, .int .i64 0, .int .i64 0, .int .i64 0, .int .i64 0] 23)).alloc (.cells #[.func (.func 14) #[] #[.pointer (some ⟨w.heap.size, 0, none⟩)]] 41)).heap.size := by simp
  generalize (((w.alloc (.cells #[.int .i64 day] 3)).alloc (.cells #[.int .i64 0, .int .i64 0, .int .i64 0, .int .i64 0, .int .i64 0, .int .i64 0] 23)).alloc (.cells #[.func (.func 14) #[] #[.pointer (some ⟨w.heap.size, 0, none⟩)]] 41)) = Wa at *
  have XD := hide HDa
  have XR := hide HRa
  have XC := hide HCa
  have XB := hide HBa
  have XZ := hide HZa
  clear HDa HRa HCa HBa HZa
  have HS1 := hide (search_c 17 #[.pointer (some ⟨w.heap.size + 1 + 1, 0, none⟩)] 585 (pY day) Wa enters2 (by omega) (fun W hW i hi => clo2_c i day w.heap.size (w.heap.size + 1 + 1) W ((hW.cell (lt_of_cell XD.out)).trans XD.out) ((hW.cell (lt_of_cell XC.out)).trans XC.out) (by omega)))
  rw [show ((585 : Nat) : Int) = 585 from rfl] at HS1
  go_upto_region 3 with (go_at_call 16; refine HS1.out.mono ?_; rintro e w1 ⟨c, rfl, hc1, hc2, hc3, hw⟩; have B1 := hide hw; have HC := hide (And.intro hc2 hc3); clear hw hc2 hc3 HS1)
  obtain ⟨Y, hY⟩ : ∃ Y : Nat, Y = 1677 + c := ⟨_, rfl⟩
  have HY := hide (year_at HB.out.1 HB.out.2 hc1 HC.out.1 HC.out.2)
  rw [show (1677 : Int) + (c : Int) = (Y : Int) by omega] at HY ⊢
  have hYb : 1677 ≤ Y ∧ Y ≤ 2262 := by omega
  clear hY HC hc1 HB
  have HDb : (w1.alloc (.cells #[.int .i64 (Y : Int)] 3)).cell? ⟨w.heap.size, 0, none⟩ = some (.int .i64 day) := by
    have q := (B1.out.cell (lt_of_cell XD.out)).trans XD.out
    rw [World.cell?_alloc_lt _ _ _ (lt_of_cell q)]
    exact q
  have HCb : (w1.alloc (.cells #[.int .i64 (Y : Int)] 3)).cell? ⟨w.heap.size + 1 + 1, 0, none⟩ = some (.func (.func 14) #[] #[.pointer (some ⟨w.heap.size, 0, none⟩)]) := by
    have q := (B1.out.cell (lt_of_cell XC.out)).trans XC.out
    rw [World.cell?_alloc_lt _ _ _ (lt_of_cell q)]
    exact q
  have HRb : (w1.alloc (.cells #[.int .i64 (Y : Int)] 3)).heap[w.heap.size + 1]? = some (.cells #[.int .i64 0, .int .i64 0, .int .i64 0, .int .i64 0, .int .i64 0, .int .i64 0] 23 (0, 0)) := by
    have q := (B1.out.block _ (by have := XZ.out; omega)).trans XR.out
    rw [Below.heap_alloc _ _ _ (by have := lt_of_block q; omega)]
    exact q
  have HYb : (w1.alloc (.cells #[.int .i64 (Y : Int)] 3)).cell? ⟨w1.heap.size, 0, none⟩ = some (.int .i64 (Y : Int)) := cells_new w1 _ _ 0 _ rfl
  have HBb : Below w.heap.size w (w1.alloc (.cells #[.int .i64 (Y : Int)] 3)) := (XB.out.trans (B1.out.mono XB.out.size)).alloc (by have := B1.out.size; have := XZ.out; omega) _
  have HNE : w1.heap.size ≠ w.heap.size + 1 := by have := B1.out.size; have := XZ.out; omega
  generalize w1.alloc (.cells #[.int .i64 (Y : Int)] 3) = Wb at *
  generalize w1.heap.size = b at *
  clear XD XR XC XB XZ B1
  have XD := hide HDb
  have XR := hide HRb
  have XC := hide HCb
  have XB := hide HBb
  have XY := hide HYb
  have XN := hide HNE
  clear HDb HRb HCb HBb HYb HNE
  have HS2 := hide (search_c 18 #[.pointer (some ⟨w.heap.size + 1 + 1, 0, none⟩), .pointer (some ⟨b, 0, none⟩)] 11 (pM Y day) Wb enters3 (by omega) (fun W hW i hi => clo3_c Y i day w.heap.size (w.heap.size + 1 + 1) b W ((hW.cell (lt_of_cell XD.out)).trans XD.out) ((hW.cell (lt_of_cell XC.out)).trans XC.out) ((hW.cell (lt_of_cell XY.out)).trans XY.out) (by omega) (by omega) (by omega)))
  rw [show ((11 : Nat) : Int) = 11 from rfl] at HS2
  go_upto_region 4 with (go_at_call 16; refine HS2.out.mono ?_; rintro e w2 ⟨c2, rfl, hc1, hc2, hc3, hw⟩; have B2 := hide hw; have HC := hide (And.intro hc2 hc3); clear hw hc2 hc3 HS2)
  have HM := hide (month_at HY.out.1 HY.out.2 hc1 HC.out.1 HC.out.2)
  obtain ⟨M, hM⟩ : ∃ M : Nat, M = 1 + c2 := ⟨_, rfl⟩
  rw [show (1 : Int) + (c2 : Int) = (M : Int) by omega] at HM ⊢
  have hMb : 1 ≤ M ∧ M ≤ 12 := by omega
  clear hM HC hc1
  have HF := fun W => hide (firstDay_c Y M W (by omega) (by omega) (by omega) (by omega))
  have HYn : -200000 ≤ yn (Y : Int) + mn (Y : Int) (M : Int) ∧ yn (Y : Int) + mn (Y : Int) (M : Int) ≤ 200000 := by
    have h1 : -107015 ≤ yn (Y : Int) ∧ yn (Y : Int) ≤ 106651 := by unfold yn; omega
    have h2 := mn_bd (Y : Int) (m := M) (by omega) (by omega)
    omega
  have HDN := hide HM.out
  have HIS : Hid (IsDay day (Y : Int) (M : Int) (1 + day - (yn (Y : Int) + mn (Y : Int) (M : Int)))) := hide ⟨by omega, by have := HM.out; omega, by unfold dn; omega⟩
  generalize yn (Y : Int) + mn (Y : Int) (M : Int) = E at *
  have HEb := hide HYn
  have HMX := hide (md_le (Y : Int) (M : Int))
  generalize md (Y : Int) (M : Int) = L at *
  clear HYn HY hYb hMb
  have HCY : w2.cell? ⟨b, 0, none⟩ = some (.int .i64 (Y : Int)) := (B2.out.cell (lt_of_cell XY.out)).trans XY.out
  have HCD : w2.cell? ⟨w.heap.size, 0, none⟩ = some (.int .i64 day) := (B2.out.cell (lt_of_cell XD.out)).trans XD.out
  have HRR : w2.heap[w.heap.size + 1]? = some (.cells #[.int .i64 0, .int .i64 0, .int .i64 0, .int .i64 0, .int .i64 0, .int .i64 0] 23 (0, 0)) := (B2.out.block _ (lt_of_block XR.out)).trans XR.out
  have XR2 := hide HRR
  have XB2 := hide (XB.out.trans (B2.out.mono XB.out.size))
  clear HRR XD XR XC XB XY B2
  have k0 := by_cell HCY
  have k1 := by_cell HCD
  refine wp_region_last (n := 9) (by kernel_rfl) rfl rfl rfl (by kernel_rfl) (by kernel_rfl) ?_
  simp only [List.set, nop]
  repeat (refine WQ.step (fun K hK => ?_); go_simp; first | (refine hK _ ?_; clear hK K) | (apply Exists.intro; refine ⟨fun _ => ?_, hK _ ?_⟩; (first | (go_at_call 15; exact below_of (v := .int .i64 E) (HF _).out)); clear hK K))
  refine WQ.nil ?_
  rintro w3 ⟨⟨_, hw3⟩, rfl⟩
  have eW : IntKind.i64.wrap (IntKind.i64.wrap (1 + day) - E) = 1 + day - E := by
    have := HM.out
    have := HMX.out
    have := HEb.out
    rw [iw (x := 1 + day) (by omega) (by omega), iw (by omega) (by omega)]
  rw [eW]
  clear eW k0 k1 HCY HCD
  refine wp_store6 23 (.tmp 2) (.tmp 21) rfl (w.heap.size + 1) #[.int .i64 (Y : Int), .int .i64 (M : Int), .int .i64 (1 + day - E), .int .i64 0, .int .i64 0, .int .i64 0] rfl rfl #[.int .i64 0, .int .i64 0, .int .i64 0, .int .i64 0, .int .i64 0, .int .i64 0] 23 ((hw3.block _ (lt_of_block XR2.out)).trans XR2.out) info6 rfl (by simp [Value.oneCell']) ?_
  intro w4 hw4 hk4
  have B4 : Hid (Below w.heap.size w w4) := hide ((XB2.out.trans (hw3.mono XB2.out.size)).trans (hk4.below (Nat.le_trans XB2.out.size hw3.size) (fun i hi q => by omega)))
  have H4 := hide hw4
  clear hw4 hk4 hw3
  go_wp2_with fail
  exact bodyPost_ret (results_cell_row rfl _ _ (w.heap.size + 1) 23 _ (0, 0) _ (by rfl) H4.out Try.underlying23 rfl info6) rfl (HDO.out _ _ _ _ HIS.out B4.out)
end Go.Proofs.Ythhajodedmaefab.T
