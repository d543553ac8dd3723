/- The law TimesOrder: its walk. -/
import Derived.Test.YthhajodedmaefabPAlive
namespace Go.Proofs.Ythhajodedmaefab.T
set_option maxRecDepth 100000
open Go Go.RowKit
set_option linter.unusedVariables false
def fld (a b c d e f : Int) : Nat → Int
  | 0 => a
  | 1 => b
  | 2 => c
  | 3 => d
  | 4 => e
  | _ => f
theorem below6 {p : Nat → Prop} {k : Nat} (hk : k ≤ 6) (h0 : 0 < k → p 0) (h1 : 1 < k → p 1) (h2 : 2 < k → p 2) (h3 : 3 < k → p 3) (h4 : 4 < k → p 4) (h5 : 5 < k → p 5) : ∀ j, j < k → p j := by
  intro j hj
  have : j = 0 ∨ j = 1 ∨ j = 2 ∨ j = 3 ∨ j = 4 ∨ j = 5 := by omega
  rcases this with rfl | rfl | rfl | rfl | rfl | rfl
  · exact h0 hj
  · exact h1 hj
  · exact h2 hj
  · exact h3 hj
  · exact h4 hj
  · exact h5 hj
/-- Where two dates differ first. -/
theorem ord_k {s t y m d h mi se y' m' d' h' mi' se' : Int} (a : IsDt s y m d h mi se) (b : IsDt t y' m' d' h' mi' se') (hle : s ≤ t) :
    ∃ k, k ≤ 6 ∧ (∀ j, j < k → fld y m d h mi se j = fld y' m' d' h' mi' se' j) ∧ (k < 6 → fld y m d h mi se k < fld y' m' d' h' mi' se' k ∧ s < t) ∧ (k = 6 → s = t) := by
  have hne : ∀ k, k < 6 → fld y m d h mi se k < fld y' m' d' h' mi' se' k → s < t := fun k hk hlt => by
    rcases (by omega : s < t ∨ s = t) with q | rfl
    · exact q
    · obtain ⟨⟨rfl, rfl, rfl⟩, rfl, rfl, rfl⟩ := a.one b
      omega
  rcases a.order b hle with q | ⟨rfl, q | ⟨rfl, q | ⟨rfl, q | ⟨rfl, q | ⟨rfl, q | ⟨rfl, q⟩⟩⟩⟩⟩⟩
  · exact ⟨0, by omega, fun j hj => by omega, fun _ => ⟨q, hne 0 (by omega) q⟩, fun e => by omega⟩
  · exact ⟨1, by omega, below6 (by omega) (fun _ => rfl) (fun e => by omega) (fun e => by omega) (fun e => by omega) (fun e => by omega) (fun e => by omega), fun _ => ⟨q, hne 1 (by omega) q⟩, fun e => by omega⟩
  · exact ⟨2, by omega, below6 (by omega) (fun _ => rfl) (fun _ => rfl) (fun e => by omega) (fun e => by omega) (fun e => by omega) (fun e => by omega), fun _ => ⟨q, hne 2 (by omega) q⟩, fun e => by omega⟩
  · exact ⟨3, by omega, below6 (by omega) (fun _ => rfl) (fun _ => rfl) (fun _ => rfl) (fun e => by omega) (fun e => by omega) (fun e => by omega), fun _ => ⟨q, hne 3 (by omega) q⟩, fun e => by omega⟩
  · exact ⟨4, by omega, below6 (by omega) (fun _ => rfl) (fun _ => rfl) (fun _ => rfl) (fun _ => rfl) (fun e => by omega) (fun e => by omega), fun _ => ⟨q, hne 4 (by omega) q⟩, fun e => by omega⟩
  · exact ⟨5, by omega, below6 (by omega) (fun _ => rfl) (fun _ => rfl) (fun _ => rfl) (fun _ => rfl) (fun _ => rfl) (fun e => by omega), fun _ => ⟨q, hne 5 (by omega) q⟩, fun e => by omega⟩
  · exact ⟨6, by omega, below6 (by omega) (fun _ => rfl) (fun _ => rfl) (fun _ => rfl) (fun _ => rfl) (fun _ => rfl) (fun _ => rfl), fun e => by omega, fun _ => q⟩
theorem row_cells {w : World} {t : TypeId} (a b c d e f a' b' c' d' e' f' : Int) : ∀ j, j < 6 →
    (w.alloc (.cells #[.int .i64 a, .int .i64 a', .int .i64 b, .int .i64 b', .int .i64 c, .int .i64 c', .int .i64 d, .int .i64 d', .int .i64 e, .int .i64 e', .int .i64 f, .int .i64 f'] t)).cell? ⟨w.heap.size, 2 * j, none⟩ = some (.int .i64 (fld a b c d e f j)) ∧
    (w.alloc (.cells #[.int .i64 a, .int .i64 a', .int .i64 b, .int .i64 b', .int .i64 c, .int .i64 c', .int .i64 d, .int .i64 d', .int .i64 e, .int .i64 e', .int .i64 f, .int .i64 f'] t)).cell? ⟨w.heap.size, 2 * j + 1, none⟩ = some (.int .i64 (fld a' b' c' d' e' f' j)) :=
  below6 (Nat.le_refl 6) (fun _ => ⟨cells_new w _ t 0 _ rfl, cells_new w _ t 1 _ rfl⟩) (fun _ => ⟨cells_new w _ t 2 _ rfl, cells_new w _ t 3 _ rfl⟩) (fun _ => ⟨cells_new w _ t 4 _ rfl, cells_new w _ t 5 _ rfl⟩)
    (fun _ => ⟨cells_new w _ t 6 _ rfl, cells_new w _ t 7 _ rfl⟩) (fun _ => ⟨cells_new w _ t 8 _ rfl, cells_new w _ t 9 _ rfl⟩) (fun _ => ⟨cells_new w _ t 10 _ rfl, cells_new w _ t 11 _ rfl⟩)
def HasNt (t n : Int) : Prop := (-9223372036854775808 ≤ t ∧ t ≤ 9223372036854775807) ∧ t / 100 + 116444736000000000 = n
def HasUn (t n : Int) : Prop := (-9223372036854775808 ≤ t ∧ t ≤ 9223372036854775807) ∧ t / 1000000000 = n
theorem nt_v {t n : Int} {W : World} {p : BelowBy W} (h : HasNt t n) : Calls Try.prog 7 #[.int .i64 t] p.w fun e w'' => e = .returned (.int .u64 n) ∧ ∃ q : BelowBy W, w'' = q.w := by
  obtain ⟨ht, rfl⟩ := h
  exact below_of_same (toNt_c t p.w ht.1 ht.2)
theorem un_v {t n : Int} {W : World} {p : BelowBy W} (h : HasUn t n) : Calls Try.prog 8 #[.int .i64 t] p.w fun e w'' => e = .returned (.int .i64 n) ∧ ∃ q : BelowBy W, w'' = q.w := by
  obtain ⟨ht, rfl⟩ := h
  exact below_of_same (toUnix_c t p.w ht.1 ht.2)
set_option maxHeartbeats 8000000 in
theorem timesOrder_up (t u : Int) (W : World) (ht : -9223372036854775808 ≤ t ∧ t ≤ 9223372036854775807) (hu : -9223372036854775808 ≤ u ∧ u ≤ 9223372036854775807) (hle : t ≤ u) : Calls Try.prog 3 #[.int .i64 t, .int .i64 u] W fun e w' => e = .returned (.bool true) ∧ Below W.heap.size W w' := by
  obtain ⟨Y, M, d, hd⟩ := dt_of (t / 1000000000)
  obtain ⟨Y', M', d', hd'⟩ := dt_of (u / 1000000000)
  generalize t / 1000000000 % 86400 / 3600 = h at *
  generalize t / 1000000000 % 86400 % 3600 / 60 = mi at *
  generalize t / 1000000000 % 86400 % 60 = se at *
  generalize u / 1000000000 % 86400 / 3600 = h' at *
  generalize u / 1000000000 % 86400 % 3600 / 60 = mi' at *
  generalize u / 1000000000 % 86400 % 60 = se' at *
  have H1 := fun w => hide (toDate_c w ht.1 ht.2 hd)
  have H2 := fun w => hide (toDate_c w hu.1 hu.2 hd')
  obtain ⟨k, hk, K1, K2, K3⟩ := ord_k hd hd' (by omega)
  have HK := hide (And.intro hk (And.intro K1 (And.intro K2 K3)))
  have A := fun w => hide (alive_c w)
  have N1 := fun w => hide (toNt_c t w ht.1 ht.2)
  have N2 := fun w => hide (toNt_c u w hu.1 hu.2)
  have S1 := fun w => hide (toUnix_c t w ht.1 ht.2)
  have S2 := fun w => hide (toUnix_c u w hu.1 hu.2)
  have V1 : Hid (HasNt t (t / 100 + 116444736000000000)) := hide ⟨ht, rfl⟩
  have V2 : Hid (HasNt u (u / 100 + 116444736000000000)) := hide ⟨hu, rfl⟩
  have V3 : Hid (HasUn t (t / 1000000000)) := hide ⟨ht, rfl⟩
  have V4 : Hid (HasUn u (u / 1000000000)) := hide ⟨hu, rfl⟩
  have hn : t / 100 + 116444736000000000 ≤ u / 100 + 116444736000000000 := by omega
  generalize t / 100 + 116444736000000000 = n1 at *
  generalize u / 100 + 116444736000000000 = n2 at *
  generalize t / 1000000000 = s1 at *
  generalize u / 1000000000 = s2 at *
  have HN := hide hn
  have hng : ¬ u < t := by omega
  clear hk K1 K2 K3 hd hd' hn
  go_enter Try.func3, Try.ntmps3
  go_upto_region 5 with (first
    | (go_at_call 5; refine (H1 _).out.mono ?_; rintro e w1 ⟨rfl, hw⟩; have B1 := hide hw; clear hw H1)
    | (go_at_call 5; refine (H2 _).out.mono ?_; rintro e w2 ⟨rfl, hw⟩; have B2 := hide (B1.out.trans (hw.mono B1.out.size)); clear hw H2 B1))
  obtain ⟨Wx, hWx⟩ : ∃ Wx, Wx = (w2.alloc (.cells #[.int .i64 Y, .int .i64 M, .int .i64 d, .int .i64 h, .int .i64 mi, .int .i64 se] 23)).alloc (.cells #[.int .i64 Y', .int .i64 M', .int .i64 d', .int .i64 h', .int .i64 mi', .int .i64 se'] 23) := ⟨_, rfl⟩
  have hz : w2.heap.size + 1 + 1 = Wx.heap.size := by rw [hWx]; simp
  have BWx := hide (show Below W.heap.size W Wx by rw [hWx]; exact (B2.out.alloc B2.out.size _).alloc (by have := B2.out.size; simp; omega) _)
  rw [← hWx, hz]
  clear hWx hz B2
  have HC := hide (row_cells (w := Wx) (t := 25) Y M d h mi se Y' M' d' h' mi' se')
  have BW4 := hide (BWx.out.alloc BWx.out.size (.cells #[.int .i64 Y, .int .i64 Y', .int .i64 M, .int .i64 M', .int .i64 d, .int .i64 d', .int .i64 h, .int .i64 h', .int .i64 mi, .int .i64 mi', .int .i64 se, .int .i64 se'] 25))
  generalize Wx.alloc (.cells #[.int .i64 Y, .int .i64 Y', .int .i64 M, .int .i64 M', .int .i64 d, .int .i64 d', .int .i64 h, .int .i64 h', .int .i64 mi, .int .i64 mi', .int .i64 se, .int .i64 se'] 25) = W4 at *
  clear BWx
  generalize fld Y M d h mi se = f at *
  generalize fld Y' M' d' h' mi' se' = g at *
  generalize Wx.heap.size = b at *
  go_wp2_with fail
  go_loopg [8] k (fun gk u8 wx => ∃ j : Nat, j + gk = k ∧ u8 = .int .i64 ((2 * j : Nat) : Int) ∧ Hid (Below W4.heap.size W4 wx))
  case atStart => exact ⟨0, by omega, rfl, hide (Below.refl _ _)⟩
  case round =>
    obtain ⟨j, hjg, rfl, BX⟩ := hrel
    cases gk with
    | zero =>
      obtain rfl : j = k := by omega
      clear hjg
      by_cases h6 : j < 6
      · obtain ⟨hlt, hs⟩ := HK.out.2.2.1 h6
        have e1 := (BX.out.cell (lt_of_cell (HC.out j h6).1)).trans (HC.out j h6).1
        have e2 := (BX.out.cell (lt_of_cell (HC.out j h6).2)).trans (HC.out j h6).2
        obtain ⟨i, hi⟩ : ∃ i : Nat, i = 2 * j := ⟨_, rfl⟩
        have hi12 : (i : Int) < 12 := by omega
        have hiw : IntKind.i64.wrap ((i : Int) + 1) = (i : Int) + 1 := iw (by omega) (by omega)
        have hiI : (i : Int) + 1 < 12 := by omega
        have hi0 : (0 : Int) ≤ (i : Int) + 1 := by omega
        rw [← hi] at e1 e2 ⊢
        have hne : ¬ f j = g j := by omega
        generalize f j = x at *
        generalize g j = y at *
        clear hi h6 HK
        have hn := HN.out
        have k1 := by_cell e1
        have k2 := by_cell e2
        go_upto_region 8 with fail
        refine wp_region_below (by kernel_rfl) (by kernel_rfl) ?_
        repeat (refine WQ.step (fun K hK => ?_); go_simp; first | (refine hK _ ?_; clear hK K))
        refine WQ.nil ?_
        rintro w3 ⟨⟨_, hw3⟩, rfl⟩
        have l1 : ∀ p : BelowBy w3, p.w.cell? ⟨b, i, none⟩ = some (.int .i64 x) := by_cell (k1 ⟨w3, hw3⟩)
        have l2 : ∀ p : BelowBy w3, p.w.cell? ⟨b, i + 1, none⟩ = some (.int .i64 y) := by_cell (k2 ⟨w3, hw3⟩)
        have B3 := hide (BW4.out.trans ((BX.out.mono (Nat.le_refl _)).trans (hw3.mono BX.out.size) |>.mono BW4.out.size))
        clear e1 e2 k1 k2 hw3
        go_upto_region 9 with fail
        refine wp_region_below (by kernel_rfl) (by kernel_rfl) ?_
        repeat (refine WQ.step (fun K hK => ?_); go_simp; first | (refine hK _ ?_; clear hK K) | (apply Exists.intro; refine ⟨fun _ => ?_, hK _ ?_⟩; (first | (go_at_call 6; exact below_of (v := .bool true) (A _).out) | (go_at_call 7; apply nt_v; first | exact V1.out | exact V2.out) | (go_at_call 8; apply un_v; first | exact V3.out | exact V4.out)); clear hK K))
        refine WQ.nil ?_
        rintro w4 ⟨⟨_, hw4⟩, rfl⟩
        go_wp2_with fail
        go_ret
        exact ⟨by simp, B3.out.trans (hw4.mono B3.out.size)⟩
      · obtain rfl : j = 6 := by have := HK.out.1; omega
        have hs := HK.out.2.2.2 rfl
        have hn := HN.out
        clear h6 HK
        go_wp2_with (first
          | (go_at_call 6; refine (A _).out.mono ?_; rintro e w3 ⟨rfl, hw⟩; have B3 := hide (BX.out.trans (hw.mono BX.out.size)); clear hw A)
          | (go_at_call 7; refine (N1 _).out.mono ?_; rintro e w4 ⟨rfl, hw⟩; obtain rfl := hw.symm; clear N1)
          | (go_at_call 7; refine (N2 _).out.mono ?_; rintro e w4 ⟨rfl, hw⟩; obtain rfl := hw.symm; clear N2)
          | (go_at_call 8; refine (S1 _).out.mono ?_; rintro e w4 ⟨rfl, hw⟩; obtain rfl := hw.symm; clear S1)
          | (go_at_call 8; refine (S2 _).out.mono ?_; rintro e w4 ⟨rfl, hw⟩; obtain rfl := hw.symm; clear S2))
        go_ret
        exact ⟨by simp, BW4.out.trans (B3.out.mono BW4.out.size)⟩
    | succ g1 =>
      have h6 : j < 6 := by have := HK.out.1; omega
      have e1 := (BX.out.cell (lt_of_cell (HC.out j h6).1)).trans (HC.out j h6).1
      have e2 := (BX.out.cell (lt_of_cell (HC.out j h6).2)).trans (HC.out j h6).2
      rw [← HK.out.2.1 j (by omega)] at e2
      obtain ⟨i, hi⟩ : ∃ i : Nat, i = 2 * j := ⟨_, rfl⟩
      have hi12 : (i : Int) < 12 := by omega
      have hiw : IntKind.i64.wrap ((i : Int) + 1) = (i : Int) + 1 := iw (by omega) (by omega)
      have hiI : (i : Int) + 1 < 12 := by omega
      have hi0 : (0 : Int) ≤ (i : Int) + 1 := by omega
      rw [← hi] at e1 e2 ⊢
      generalize f j = x at *
      have k1 := by_cell e1
      have k2 := by_cell e2
      have JG := hide (And.intro hjg (And.intro hi h6))
      clear hjg hi h6
      go_upto_region 8 with fail
      refine wp_region_below (by kernel_rfl) (by kernel_rfl) ?_
      repeat (refine WQ.step (fun K hK => ?_); go_simp; first | (refine hK _ ?_; clear hK K))
      refine WQ.nil ?_
      rintro w3 ⟨⟨_, hw3⟩, rfl⟩
      have BX3 := hide (BX.out.trans (hw3.mono BX.out.size))
      clear e1 e2 k1 k2 hw3
      go_wp2_with fail
      go_roundg g1
      case measure => omega
      case rel => exact ⟨j + 1, by have := JG.out; omega, by have := JG.out; first | rfl | (congr 1; omega) | go_num, BX3⟩
set_option maxHeartbeats 8000000 in
theorem timesOrder_dn (t u : Int) (W : World) (ht : -9223372036854775808 ≤ t ∧ t ≤ 9223372036854775807) (hu : -9223372036854775808 ≤ u ∧ u ≤ 9223372036854775807) (hle0 : t < u) : Calls Try.prog 3 #[.int .i64 u, .int .i64 t] W fun e w' => e = .returned (.bool true) ∧ Below W.heap.size W w' := by
  have hle : t ≤ u := by omega
  obtain ⟨Y, M, d, hd⟩ := dt_of (t / 1000000000)
  obtain ⟨Y', M', d', hd'⟩ := dt_of (u / 1000000000)
  generalize t / 1000000000 % 86400 / 3600 = h at *
  generalize t / 1000000000 % 86400 % 3600 / 60 = mi at *
  generalize t / 1000000000 % 86400 % 60 = se at *
  generalize u / 1000000000 % 86400 / 3600 = h' at *
  generalize u / 1000000000 % 86400 % 3600 / 60 = mi' at *
  generalize u / 1000000000 % 86400 % 60 = se' at *
  have H1 := fun w => hide (toDate_c w ht.1 ht.2 hd)
  have H2 := fun w => hide (toDate_c w hu.1 hu.2 hd')
  obtain ⟨k, hk, K1, K2, K3⟩ := ord_k hd hd' (by omega)
  have HK := hide (And.intro hk (And.intro K1 (And.intro K2 K3)))
  have A := fun w => hide (alive_c w)
  have N1 := fun w => hide (toNt_c t w ht.1 ht.2)
  have N2 := fun w => hide (toNt_c u w hu.1 hu.2)
  have S1 := fun w => hide (toUnix_c t w ht.1 ht.2)
  have S2 := fun w => hide (toUnix_c u w hu.1 hu.2)
  have V1 : Hid (HasNt t (t / 100 + 116444736000000000)) := hide ⟨ht, rfl⟩
  have V2 : Hid (HasNt u (u / 100 + 116444736000000000)) := hide ⟨hu, rfl⟩
  have V3 : Hid (HasUn t (t / 1000000000)) := hide ⟨ht, rfl⟩
  have V4 : Hid (HasUn u (u / 1000000000)) := hide ⟨hu, rfl⟩
  have hn : t / 100 + 116444736000000000 ≤ u / 100 + 116444736000000000 := by omega
  generalize t / 100 + 116444736000000000 = n1 at *
  generalize u / 100 + 116444736000000000 = n2 at *
  generalize t / 1000000000 = s1 at *
  generalize u / 1000000000 = s2 at *
  have HN := hide hn
  have hng : t < u := hle0
  clear hle hle0
  clear hk K1 K2 K3 hd hd' hn
  go_enter Try.func3, Try.ntmps3
  go_upto_region 5 with (first
    | (go_at_call 5; refine (H1 _).out.mono ?_; rintro e w1 ⟨rfl, hw⟩; have B1 := hide hw; clear hw H1)
    | (go_at_call 5; refine (H2 _).out.mono ?_; rintro e w2 ⟨rfl, hw⟩; have B2 := hide (B1.out.trans (hw.mono B1.out.size)); clear hw H2 B1))
  obtain ⟨Wx, hWx⟩ : ∃ Wx, Wx = (w2.alloc (.cells #[.int .i64 Y, .int .i64 M, .int .i64 d, .int .i64 h, .int .i64 mi, .int .i64 se] 23)).alloc (.cells #[.int .i64 Y', .int .i64 M', .int .i64 d', .int .i64 h', .int .i64 mi', .int .i64 se'] 23) := ⟨_, rfl⟩
  have hz : w2.heap.size + 1 + 1 = Wx.heap.size := by rw [hWx]; simp
  have BWx := hide (show Below W.heap.size W Wx by rw [hWx]; exact (B2.out.alloc B2.out.size _).alloc (by have := B2.out.size; simp; omega) _)
  rw [← hWx, hz]
  clear hWx hz B2
  have HC := hide (row_cells (w := Wx) (t := 25) Y M d h mi se Y' M' d' h' mi' se')
  have BW4 := hide (BWx.out.alloc BWx.out.size (.cells #[.int .i64 Y, .int .i64 Y', .int .i64 M, .int .i64 M', .int .i64 d, .int .i64 d', .int .i64 h, .int .i64 h', .int .i64 mi, .int .i64 mi', .int .i64 se, .int .i64 se'] 25))
  generalize Wx.alloc (.cells #[.int .i64 Y, .int .i64 Y', .int .i64 M, .int .i64 M', .int .i64 d, .int .i64 d', .int .i64 h, .int .i64 h', .int .i64 mi, .int .i64 mi', .int .i64 se, .int .i64 se'] 25) = W4 at *
  clear BWx
  generalize fld Y M d h mi se = f at *
  generalize fld Y' M' d' h' mi' se' = g at *
  generalize Wx.heap.size = b at *
  go_wp2_with fail
  go_loopg [8] k (fun gk u8 wx => ∃ j : Nat, j + gk = k ∧ u8 = .int .i64 ((2 * j : Nat) : Int) ∧ Hid (Below W4.heap.size W4 wx))
  case atStart => exact ⟨0, by omega, rfl, hide (Below.refl _ _)⟩
  case round =>
    obtain ⟨j, hjg, rfl, BX⟩ := hrel
    cases gk with
    | zero =>
      obtain rfl : j = k := by omega
      clear hjg
      by_cases h6 : j < 6
      · obtain ⟨hlt, hs⟩ := HK.out.2.2.1 h6
        have e1 := (BX.out.cell (lt_of_cell (HC.out j h6).1)).trans (HC.out j h6).1
        have e2 := (BX.out.cell (lt_of_cell (HC.out j h6).2)).trans (HC.out j h6).2
        obtain ⟨i, hi⟩ : ∃ i : Nat, i = 2 * j := ⟨_, rfl⟩
        have hi12 : (i : Int) < 12 := by omega
        have hiw : IntKind.i64.wrap ((i : Int) + 1) = (i : Int) + 1 := iw (by omega) (by omega)
        have hiI : (i : Int) + 1 < 12 := by omega
        have hi0 : (0 : Int) ≤ (i : Int) + 1 := by omega
        rw [← hi] at e1 e2 ⊢
        have hne : ¬ f j = g j := by omega
        generalize f j = x at *
        generalize g j = y at *
        clear hi h6 HK
        have hn := HN.out
        have k1 := by_cell e1
        have k2 := by_cell e2
        go_upto_region 8 with fail
        refine wp_region_below (by kernel_rfl) (by kernel_rfl) ?_
        repeat (refine WQ.step (fun K hK => ?_); go_simp; first | (refine hK _ ?_; clear hK K))
        refine WQ.nil ?_
        rintro w3 ⟨⟨_, hw3⟩, rfl⟩
        have l1 : ∀ p : BelowBy w3, p.w.cell? ⟨b, i, none⟩ = some (.int .i64 x) := by_cell (k1 ⟨w3, hw3⟩)
        have l2 : ∀ p : BelowBy w3, p.w.cell? ⟨b, i + 1, none⟩ = some (.int .i64 y) := by_cell (k2 ⟨w3, hw3⟩)
        have B3 := hide (BW4.out.trans ((BX.out.mono (Nat.le_refl _)).trans (hw3.mono BX.out.size) |>.mono BW4.out.size))
        clear e1 e2 k1 k2 hw3
        go_upto_region 9 with fail
        refine wp_region_below (by kernel_rfl) (by kernel_rfl) ?_
        repeat (refine WQ.step (fun K hK => ?_); go_simp; first | (refine hK _ ?_; clear hK K) | (apply Exists.intro; refine ⟨fun _ => ?_, hK _ ?_⟩; (first | (go_at_call 6; exact below_of (v := .bool true) (A _).out) | (go_at_call 7; apply nt_v; first | exact V1.out | exact V2.out) | (go_at_call 8; apply un_v; first | exact V3.out | exact V4.out)); clear hK K))
        refine WQ.nil ?_
        rintro w4 ⟨⟨_, hw4⟩, rfl⟩
        go_wp2_with fail
        go_ret
        exact ⟨by simp, B3.out.trans (hw4.mono B3.out.size)⟩
      · obtain rfl : j = 6 := by have := HK.out.1; omega
        have hs := HK.out.2.2.2 rfl
        have hn := HN.out
        clear h6 HK
        go_wp2_with (first
          | (go_at_call 6; refine (A _).out.mono ?_; rintro e w3 ⟨rfl, hw⟩; have B3 := hide (BX.out.trans (hw.mono BX.out.size)); clear hw A)
          | (go_at_call 7; refine (N1 _).out.mono ?_; rintro e w4 ⟨rfl, hw⟩; obtain rfl := hw.symm; clear N1)
          | (go_at_call 7; refine (N2 _).out.mono ?_; rintro e w4 ⟨rfl, hw⟩; obtain rfl := hw.symm; clear N2)
          | (go_at_call 8; refine (S1 _).out.mono ?_; rintro e w4 ⟨rfl, hw⟩; obtain rfl := hw.symm; clear S1)
          | (go_at_call 8; refine (S2 _).out.mono ?_; rintro e w4 ⟨rfl, hw⟩; obtain rfl := hw.symm; clear S2))
        go_ret
        exact ⟨by simp, BW4.out.trans (B3.out.mono BW4.out.size)⟩
    | succ g1 =>
      have h6 : j < 6 := by have := HK.out.1; omega
      have e1 := (BX.out.cell (lt_of_cell (HC.out j h6).1)).trans (HC.out j h6).1
      have e2 := (BX.out.cell (lt_of_cell (HC.out j h6).2)).trans (HC.out j h6).2
      rw [← HK.out.2.1 j (by omega)] at e2
      obtain ⟨i, hi⟩ : ∃ i : Nat, i = 2 * j := ⟨_, rfl⟩
      have hi12 : (i : Int) < 12 := by omega
      have hiw : IntKind.i64.wrap ((i : Int) + 1) = (i : Int) + 1 := iw (by omega) (by omega)
      have hiI : (i : Int) + 1 < 12 := by omega
      have hi0 : (0 : Int) ≤ (i : Int) + 1 := by omega
      rw [← hi] at e1 e2 ⊢
      generalize f j = x at *
      have k1 := by_cell e1
      have k2 := by_cell e2
      have JG := hide (And.intro hjg (And.intro hi h6))
      clear hjg hi h6
      go_upto_region 8 with fail
      refine wp_region_below (by kernel_rfl) (by kernel_rfl) ?_
      repeat (refine WQ.step (fun K hK => ?_); go_simp; first | (refine hK _ ?_; clear hK K))
      refine WQ.nil ?_
      rintro w3 ⟨⟨_, hw3⟩, rfl⟩
      have BX3 := hide (BX.out.trans (hw3.mono BX.out.size))
      clear e1 e2 k1 k2 hw3
      go_wp2_with fail
      go_roundg g1
      case measure => omega
      case rel => exact ⟨j + 1, by have := JG.out; omega, by have := JG.out; first | rfl | (congr 1; omega) | go_num, BX3⟩
theorem timesOrder_walk (t u : Int) (W : World) (ht : -9223372036854775808 ≤ t ∧ t ≤ 9223372036854775807) (hu : -9223372036854775808 ≤ u ∧ u ≤ 9223372036854775807) : Calls Try.prog 3 #[.int .i64 t, .int .i64 u] W fun e w' => e = .returned (.bool true) ∧ Below W.heap.size W w' := by
  rcases (by omega : t ≤ u ∨ u < t) with h | h
  · exact timesOrder_up t u W ht hu h
  · exact timesOrder_dn u t W hu ht h
end Go.Proofs.Ythhajodedmaefab.T
