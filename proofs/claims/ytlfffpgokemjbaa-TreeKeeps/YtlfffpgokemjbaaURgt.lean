/- The reference's right: contract. -/
import Derived.Test.YtlfffpgokemjbaaURef
import Derived.Test.YtlfffpgokemjbaaERef
namespace Go.Proofs.Ytlfffpgokemjbaa.U
set_option maxRecDepth 100000
open Go Go.RowKit
set_option linter.unusedVariables false
/-- An entry may be, by itself. -/
def Right (m : En) : Prop := E.cln m.path.data.toList = some m.path.data.toList ∧ (0 ≤ m.mode ∧ m.mode ≤ 4095) ∧
  ((m.kind = 1 ∧ m.target.toList = []) ∨ (m.kind = 2 ∧ m.data.toList = [] ∧ m.target.toList = []) ∨
    (m.kind = 3 ∧ m.data.toList = [] ∧ m.target.toList ≠ [] ∧ m.target.size ≤ 200 ∧ (∀ i (h : i < m.target.size), (m.target[i]'h).toNat ≠ 0) ∧ E.vld m.target.data.toList = true))
def RtOk (m : En) (w : World) (e : Ending) (w' : World) : Prop := ∃ b : Bool, e = .returned (.bool b) ∧ (b = true ↔ Right m) ∧ Below w.heap.size w w'
theorem tx_list (s : ByteArray) : E.tx s.data.toList = s := by cases s; rfl
set_option maxHeartbeats 4000000 in
theorem rright_clean (m : En) (w : World) (hp : m.path.size ≤ 2000000) (hno : ¬ (E.cln m.path.data.toList = some m.path.data.toList ∧ 0 ≤ m.mode ∧ m.mode ≤ 4095)) : Calls Try.prog 26 #[.agg m.cells] w (RtOk m w) := by
  have HF : Hid (∀ w', Below w.heap.size w w' → RtOk m w (.returned (.bool false)) w') := hide fun w' q => ⟨false, rfl, ⟨fun s => (by cases s), fun s => absurd ⟨s.1, s.2.1.1, s.2.1.2⟩ hno⟩, q⟩
  have HC := fun W => hide (E.rclean_c m.path hp W)
  have HB : ∀ o, Hid (Below w.heap.size w (w.alloc o)) := fun o => hide ((Below.refl _ w).alloc (Nat.le_refl _) _)
  obtain ⟨k, p, tg, md, tm, dt⟩ := m
  simp only at hno HC hp
  unfold En.cells
  simp only
  cases hc : E.cln p.data.toList with
  | none =>
    have HC2 : ∀ W, Hid (Calls Try.prog 43 #[.string p] W fun e w' => e = .returned (.tuple #[.string (E.tx []), .int .i64 140]) ∧ Below W.heap.size W w') := fun W => hide ((HC W).out.mono fun e w' h => by unfold E.ClnOk at h; rw [hc] at h; exact h)
    clear HC hc hno hp
    go_enter Try.func26, Try.ntmps26
    go_wp2_with (go_at_call 43; refine (HC2 _).out.mono ?_; rintro e w1 ⟨rfl, hw⟩; have B1 := hide ((HB _).out.trans (hw.mono (HB _).out.size)); clear hw HC2)
    all_goals go_ret
    all_goals exact HF.out _ B1.out
  | some q =>
    have HC2 : ∀ W, Hid (Calls Try.prog 43 #[.string p] W fun e w' => e = .returned (.tuple #[.string (E.tx q), .int .i64 0]) ∧ Below W.heap.size W w') := fun W => hide ((HC W).out.mono fun e w' h => by unfold E.ClnOk at h; rw [hc] at h; exact h)
    have HX : ∀ W, Below (w.alloc (.cells #[.int .i64 k, .string p, .string tg, .int .i64 md, .int .i64 tm, .string dt] 30)).heap.size (w.alloc (.cells #[.int .i64 k, .string p, .string tg, .int .i64 md, .int .i64 tm, .string dt] 30)) W → W.cell? ⟨w.heap.size, 1, none⟩ = some (.string p) ∧ W.cell? ⟨w.heap.size, 3, none⟩ = some (.int .i64 md) := fun W hW =>
      ⟨(hW.cell (by simp)).trans (cells_new w _ _ 1 _ rfl), (hW.cell (by simp)).trans (cells_new w _ _ 3 _ rfl)⟩
    have HXH := hide HX
    clear HC hp HX
    by_cases hq : q = p.data.toList
    · subst hq
      rw [tx_list] at HC2
      have hm : md < 0 ∨ (¬ md < 0 ∧ 4095 < md) := by
        apply Classical.byContradiction
        intro g
        exact hno ⟨hc, by omega, by omega⟩
      clear hno hc
      rcases hm with h1 | ⟨h1, h2⟩
      all_goals
        go_enter Try.func26, Try.ntmps26
        go_wp2_with (go_at_call 43; refine (HC2 _).out.mono ?_; rintro e w1 ⟨rfl, hw⟩; have B1 := hide ((HB _).out.trans (hw.mono (HB _).out.size)); obtain ⟨x1, x3⟩ := HXH.out _ hw; clear hw HC2)
        all_goals go_ret
        all_goals exact HF.out _ B1.out
    · have hne : ¬ (E.tx q).toList = p.toList := fun g => hq (by
        rw [ByteArray.toList_eq, ByteArray.toList_eq] at g
        simpa [E.tx] using g)
      clear hno hc hq
      generalize E.tx q = z at *
      go_enter Try.func26, Try.ntmps26
      go_wp2_with (go_at_call 43; refine (HC2 _).out.mono ?_; rintro e w1 ⟨rfl, hw⟩; have B1 := hide ((HB _).out.trans (hw.mono (HB _).out.size)); obtain ⟨x1, x3⟩ := HXH.out _ hw; clear hw HC2)
      all_goals go_ret
      all_goals exact HF.out _ B1.out
set_option maxHeartbeats 4000000 in
theorem rright_kind (m : En) (w : World) (hp : m.path.size ≤ 2000000) (hc : E.cln m.path.data.toList = some m.path.data.toList) (hm0 : 0 ≤ m.mode) (hm1 : m.mode ≤ 4095)
    (hk : m.kind = 1 ∨ m.kind = 2 ∨ (m.kind ≠ 1 ∧ m.kind ≠ 2 ∧ ¬ (m.kind = 3 ∧ m.data.toList = [] ∧ m.target.toList ≠ [] ∧ m.target.size ≤ 200))) : Calls Try.prog 26 #[.agg m.cells] w (RtOk m w) := by
  have HF : ¬ Right m → Hid (∀ w', Below w.heap.size w w' → RtOk m w (.returned (.bool false)) w') := fun g => hide fun w' q => ⟨false, rfl, ⟨fun s => (by cases s), fun s => absurd s g⟩, q⟩
  have HT : Right m → Hid (∀ w', Below w.heap.size w w' → RtOk m w (.returned (.bool true)) w') := fun g => hide fun w' q => ⟨true, rfl, ⟨fun _ => g, fun _ => rfl⟩, q⟩
  have HC := fun W => hide (E.rclean_c m.path hp W)
  have HB : ∀ o, Hid (Below w.heap.size w (w.alloc o)) := fun o => hide ((Below.refl _ w).alloc (Nat.le_refl _) _)
  obtain ⟨k, p, tg, md, tm, dt⟩ := m
  simp only at hc hm0 hm1 HC hp
  unfold En.cells
  simp only
  have HC2 : ∀ W, Hid (Calls Try.prog 43 #[.string p] W fun e w' => e = .returned (.tuple #[.string p, .int .i64 0]) ∧ Below W.heap.size W w') := fun W => hide ((HC W).out.mono fun e w' h => by unfold E.ClnOk at h; rw [hc] at h; have h2 := h.1; simp only [Option.getD_some, Option.isSome_some, if_true, tx_list] at h2; exact ⟨h2, h.2⟩)
  have HX : ∀ W, Below (w.alloc (.cells #[.int .i64 k, .string p, .string tg, .int .i64 md, .int .i64 tm, .string dt] 30)).heap.size (w.alloc (.cells #[.int .i64 k, .string p, .string tg, .int .i64 md, .int .i64 tm, .string dt] 30)) W → W.cell? ⟨w.heap.size, 0, none⟩ = some (.int .i64 k) ∧ W.cell? ⟨w.heap.size, 1, none⟩ = some (.string p) ∧ W.cell? ⟨w.heap.size, 2, none⟩ = some (.string tg) ∧ W.cell? ⟨w.heap.size, 3, none⟩ = some (.int .i64 md) ∧ W.cell? ⟨w.heap.size, 5, none⟩ = some (.string dt) := fun W hW => ⟨(hW.cell (by simp)).trans (cells_new w _ _ 0 _ rfl), (hW.cell (by simp)).trans (cells_new w _ _ 1 _ rfl), (hW.cell (by simp)).trans (cells_new w _ _ 2 _ rfl), (hW.cell (by simp)).trans (cells_new w _ _ 3 _ rfl), (hW.cell (by simp)).trans (cells_new w _ _ 5 _ rfl)⟩
  have HXH := hide HX
  clear HC hp HX
  unfold Right at HF HT
  simp only at HF HT hk
  have hg0 : ¬ md < 0 := by omega
  have hg1 : ¬ 4095 < md := by omega
  rcases hk with rfl | rfl | ⟨h1, h2, h3⟩
  · by_cases ht : tg.toList = []
    · have QT := HT ⟨hc, ⟨hm0, hm1⟩, .inl ⟨rfl, ht⟩⟩
      clear HF HT hc hm0 hm1
      go_enter Try.func26, Try.ntmps26
      go_wp2_with (go_at_call 43; refine (HC2 _).out.mono ?_; rintro e w1 ⟨rfl, hw⟩; have B1 := hide ((HB _).out.trans (hw.mono (HB _).out.size)); obtain ⟨x0, x1, x2, x3, x5⟩ := HXH.out _ hw; clear hw HC2)
      all_goals go_ret
      all_goals exact QT.out _ B1.out
    · have he : tg.toList.isEmpty = false := by simpa using ht
      have QF := HF (fun q => by rcases q.2.2 with g | g | g; exact ht g.2; exact absurd g.1 (by decide); exact absurd g.1 (by decide))
      clear HF HT hc hm0 hm1
      go_enter Try.func26, Try.ntmps26
      go_wp2_with (go_at_call 43; refine (HC2 _).out.mono ?_; rintro e w1 ⟨rfl, hw⟩; have B1 := hide ((HB _).out.trans (hw.mono (HB _).out.size)); obtain ⟨x0, x1, x2, x3, x5⟩ := HXH.out _ hw; clear hw HC2)
      all_goals go_ret
      all_goals exact QF.out _ B1.out
  · by_cases ht : dt.toList = []
    · by_cases hu : tg.toList = []
      · have QT := HT ⟨hc, ⟨hm0, hm1⟩, .inr (.inl ⟨rfl, ht, hu⟩)⟩
        clear HF HT hc hm0 hm1
        go_enter Try.func26, Try.ntmps26
        go_wp2_with (go_at_call 43; refine (HC2 _).out.mono ?_; rintro e w1 ⟨rfl, hw⟩; have B1 := hide ((HB _).out.trans (hw.mono (HB _).out.size)); obtain ⟨x0, x1, x2, x3, x5⟩ := HXH.out _ hw; clear hw HC2)
        all_goals go_ret
        all_goals exact QT.out _ B1.out
      · have he : tg.toList.isEmpty = false := by simpa using hu
        have QF := HF (fun q => by rcases q.2.2 with g | g | g; exact absurd g.1 (by decide); exact hu g.2.2; exact absurd g.1 (by decide))
        clear HF HT hc hm0 hm1
        go_enter Try.func26, Try.ntmps26
        go_wp2_with (go_at_call 43; refine (HC2 _).out.mono ?_; rintro e w1 ⟨rfl, hw⟩; have B1 := hide ((HB _).out.trans (hw.mono (HB _).out.size)); obtain ⟨x0, x1, x2, x3, x5⟩ := HXH.out _ hw; clear hw HC2)
        all_goals go_ret
        all_goals exact QF.out _ B1.out
    · have he : dt.toList.isEmpty = false := by simpa using ht
      have QF := HF (fun q => by rcases q.2.2 with g | g | g; exact absurd g.1 (by decide); exact ht g.2.1; exact absurd g.1 (by decide))
      clear HF HT hc hm0 hm1
      go_enter Try.func26, Try.ntmps26
      go_wp2_with (go_at_call 43; refine (HC2 _).out.mono ?_; rintro e w1 ⟨rfl, hw⟩; have B1 := hide ((HB _).out.trans (hw.mono (HB _).out.size)); obtain ⟨x0, x1, x2, x3, x5⟩ := HXH.out _ hw; clear hw HC2)
      all_goals go_ret
      all_goals exact QF.out _ B1.out
  · have QF := HF (fun q => by rcases q.2.2 with g | g | g; exact h1 g.1; exact h2 g.1; exact h3 ⟨g.1, g.2.1, g.2.2.1, g.2.2.2.1⟩)
    clear HF HT hc hm0 hm1
    by_cases hk3 : k = 3
    · subst hk3
      by_cases ht : dt.toList = []
      · by_cases hu : tg.toList = []
        · clear h1 h2 h3
          go_enter Try.func26, Try.ntmps26
          go_wp2_with (go_at_call 43; refine (HC2 _).out.mono ?_; rintro e w1 ⟨rfl, hw⟩; have B1 := hide ((HB _).out.trans (hw.mono (HB _).out.size)); obtain ⟨x0, x1, x2, x3, x5⟩ := HXH.out _ hw; clear hw HC2)
          all_goals go_ret
          all_goals exact QF.out _ B1.out
        · have he : tg.toList.isEmpty = false := by simpa using hu
          have hs : (200 : Int) < (tg.size : Int) := by
            apply Classical.byContradiction
            intro g
            exact h3 ⟨rfl, ht, hu, by omega⟩
          clear h1 h2 h3
          go_enter Try.func26, Try.ntmps26
          go_wp2_with (go_at_call 43; refine (HC2 _).out.mono ?_; rintro e w1 ⟨rfl, hw⟩; have B1 := hide ((HB _).out.trans (hw.mono (HB _).out.size)); obtain ⟨x0, x1, x2, x3, x5⟩ := HXH.out _ hw; clear hw HC2)
          all_goals go_ret
          all_goals exact QF.out _ B1.out
      · have he : dt.toList.isEmpty = false := by simpa using ht
        clear h1 h2 h3
        go_enter Try.func26, Try.ntmps26
        go_wp2_with (go_at_call 43; refine (HC2 _).out.mono ?_; rintro e w1 ⟨rfl, hw⟩; have B1 := hide ((HB _).out.trans (hw.mono (HB _).out.size)); obtain ⟨x0, x1, x2, x3, x5⟩ := HXH.out _ hw; clear hw HC2)
        all_goals go_ret
        all_goals exact QF.out _ B1.out
    · clear h3
      go_enter Try.func26, Try.ntmps26
      go_wp2_with (go_at_call 43; refine (HC2 _).out.mono ?_; rintro e w1 ⟨rfl, hw⟩; have B1 := hide ((HB _).out.trans (hw.mono (HB _).out.size)); obtain ⟨x0, x1, x2, x3, x5⟩ := HXH.out _ hw; clear hw HC2)
      all_goals go_ret
      all_goals exact QF.out _ B1.out
set_option maxHeartbeats 4000000 in
theorem rright_link (m : En) (w : World) (hp : m.path.size ≤ 2000000) (hc : E.cln m.path.data.toList = some m.path.data.toList) (hm0 : 0 ≤ m.mode) (hm1 : m.mode ≤ 4095)
    (hk : m.kind = 3) (hdt : m.data.toList = []) (htg : m.target.toList ≠ []) (hts : m.target.size ≤ 200) : Calls Try.prog 26 #[.agg m.cells] w (RtOk m w) := by
  have HF : ¬ Right m → Hid (∀ w', Below w.heap.size w w' → RtOk m w (.returned (.bool false)) w') := fun g => hide fun w' q => ⟨false, rfl, ⟨fun s => (by cases s), fun s => absurd s g⟩, q⟩
  have HT : Right m → Hid (∀ w', Below w.heap.size w w' → RtOk m w (.returned (.bool true)) w') := fun g => hide fun w' q => ⟨true, rfl, ⟨fun _ => g, fun _ => rfl⟩, q⟩
  have HC := fun W => hide (E.rclean_c m.path hp W)
  have HB : ∀ o, Hid (Below w.heap.size w (w.alloc o)) := fun o => hide ((Below.refl _ w).alloc (Nat.le_refl _) _)
  obtain ⟨k, p, tg, md, tm, dt⟩ := m
  simp only at hc hm0 hm1 HC hp
  unfold En.cells
  simp only
  have HC2 : ∀ W, Hid (Calls Try.prog 43 #[.string p] W fun e w' => e = .returned (.tuple #[.string p, .int .i64 0]) ∧ Below W.heap.size W w') := fun W => hide ((HC W).out.mono fun e w' h => by unfold E.ClnOk at h; rw [hc] at h; have h2 := h.1; simp only [Option.getD_some, Option.isSome_some, if_true, tx_list] at h2; exact ⟨h2, h.2⟩)
  have HX : ∀ W, Below (w.alloc (.cells #[.int .i64 k, .string p, .string tg, .int .i64 md, .int .i64 tm, .string dt] 30)).heap.size (w.alloc (.cells #[.int .i64 k, .string p, .string tg, .int .i64 md, .int .i64 tm, .string dt] 30)) W → W.cell? ⟨w.heap.size, 0, none⟩ = some (.int .i64 k) ∧ W.cell? ⟨w.heap.size, 1, none⟩ = some (.string p) ∧ W.cell? ⟨w.heap.size, 2, none⟩ = some (.string tg) ∧ W.cell? ⟨w.heap.size, 3, none⟩ = some (.int .i64 md) ∧ W.cell? ⟨w.heap.size, 5, none⟩ = some (.string dt) := fun W hW => ⟨(hW.cell (by simp)).trans (cells_new w _ _ 0 _ rfl), (hW.cell (by simp)).trans (cells_new w _ _ 1 _ rfl), (hW.cell (by simp)).trans (cells_new w _ _ 2 _ rfl), (hW.cell (by simp)).trans (cells_new w _ _ 3 _ rfl), (hW.cell (by simp)).trans (cells_new w _ _ 5 _ rfl)⟩
  have HXH := hide HX
  clear HC hp HX
  simp only at hk hdt htg hts
  subst hk
  have he : tg.toList.isEmpty = false := by simpa using htg
  have hg0 : ¬ md < 0 := by omega
  have hg1 : ¬ 4095 < md := by omega
  have hg2 : ¬ (200 : Int) < (tg.size : Int) := by omega
  have QF := hide (fun (i : Nat) (h : i < tg.size) (h0 : (tg[i]'h).toNat = 0) => (HF (fun q => by rcases q.2.2 with g | g | g; exact absurd g.1 (show ¬ (3 : Int) = 1 by decide); exact absurd g.1 (show ¬ (3 : Int) = 2 by decide); exact g.2.2.2.2.1 i h h0)).out)
  have QV := hide (fun (h0 : ¬ E.vld tg.data.toList = true) => (HF (fun q => by rcases q.2.2 with g | g | g; exact absurd g.1 (show ¬ (3 : Int) = 1 by decide); exact absurd g.1 (show ¬ (3 : Int) = 2 by decide); exact h0 g.2.2.2.2.2)).out)
  have QT := hide (fun (h0 : ∀ i (h : i < tg.size), (tg[i]'h).toNat ≠ 0) (h1 : E.vld tg.data.toList = true) => (HT ⟨hc, ⟨hm0, hm1⟩, .inr (.inr ⟨rfl, hdt, htg, hts, h0, h1⟩)⟩).out)
  have HVL := fun W => hide (E.rvalid_c tg (by omega) W)
  obtain ⟨n, hn⟩ : ∃ n, n = tg.size := ⟨_, rfl⟩
  have HN := hide hn
  have HTS := hide hts
  clear HF HT hc hm0 hm1 htg hts hn
  go_enter Try.func26, Try.ntmps26
  go_wp2_with (go_at_call 43; refine (HC2 _).out.mono ?_; rintro e w1 ⟨rfl, hw⟩; have B1 := hide ((HB _).out.trans (hw.mono (HB _).out.size)); obtain ⟨x0, x1, x2, x3, x5⟩ := HXH.out _ hw; clear hw HC2)
  clear x0 x1 x3 x5 he hg0 hg1 hg2 hdt
  go_loopg [5] n (fun gk u5 wx => ∃ i : Nat, i + gk = n ∧ u5 = .int .i64 (i : Int) ∧ Hid (∀ j (h : j < tg.size), j < i → (tg[j]'h).toNat ≠ 0) ∧ wx = w1)
  case atStart => exact ⟨0, by omega, rfl, hide fun j h q => by omega, rfl⟩
  case round =>
    obtain ⟨i, hig, rfl, HJ, hwx⟩ := hrel
    obtain rfl := hwx.symm
    cases gk with
    | zero =>
      have hge : ¬ (i : Int) < (tg.size : Int) := by have := HN.out; omega
      have HA := hide (fun j (h : j < tg.size) => HJ.out j h (by have := HN.out; omega))
      have IG := hide hig
      clear hig
      by_cases hv : E.vld tg.data.toList = true
      · rw [hv] at HVL
        have Q := hide (QT.out HA.out hv)
        clear hv QF QT QV
        go_wp2_with (go_at_call 44; refine (HVL _).out.mono ?_; rintro e w2 ⟨rfl, hw⟩; obtain rfl := hw.symm; clear HVL)
        go_ret
        exact Q.out _ B1.out
      · have Q := hide (QV.out hv)
        rw [Bool.not_eq_true] at hv
        rw [hv] at HVL
        clear hv QF QT QV
        go_wp2_with (go_at_call 44; refine (HVL _).out.mono ?_; rintro e w2 ⟨rfl, hw⟩; obtain rfl := hw.symm; clear HVL)
        go_ret
        exact Q.out _ B1.out
    | succ g1 =>
      have h : i < tg.size := by have := HN.out; omega
      have hlt : (i : Int) < (tg.size : Int) := by omega
      have hpi : (0 : Int) ≤ (i : Int) ∧ (i : Int) ≤ (tg.size : Int) := by omega
      have hiI : (i : Int) ≤ 200 := by have := HTS.out; omega
      have IG := hide hig
      clear hig
      by_cases h0 : (tg[i]'h).toNat = 0
      · have Q := hide (QF.out i h h0)
        clear QF QT QV HVL
        go_wp2_with fail
        go_ret
        exact Q.out _ B1.out
      · have HJ2 := hide (show ∀ j (h : j < tg.size), j < i + 1 → (tg[j]'h).toNat ≠ 0 from fun j hj q => by
          rcases Nat.lt_or_ge j i with g | g
          · exact HJ.out j hj g
          · obtain rfl : j = i := by omega
            exact h0)
        obtain ⟨v, hv⟩ : ∃ v, v = (tg[i]'h).toNat := ⟨_, rfl⟩
        have hix : (tg[i]'h).toNat = v := hv.symm
        rw [← hv] at h0
        have hv1 : ¬ (v : Int) = 0 := by omega
        have hvb : ((v : Int) == 0) = false := by simpa using hv1
        clear hv h0 QF QT QV HVL
        go_wp2_with fail
        go_roundg g1
        case measure => omega
        case rel => exact ⟨i + 1, by have := IG.out; omega, by go_num, HJ2, rfl⟩
/-- The reference's right, of any entry whose path is not too long. -/
theorem rright_c (m : En) (w : World) (hp : m.path.size ≤ 2000000) : Calls Try.prog 26 #[.agg m.cells] w (RtOk m w) := by
  by_cases h1 : E.cln m.path.data.toList = some m.path.data.toList ∧ 0 ≤ m.mode ∧ m.mode ≤ 4095
  · by_cases h2 : m.kind = 1 ∨ m.kind = 2 ∨ (m.kind ≠ 1 ∧ m.kind ≠ 2 ∧ ¬ (m.kind = 3 ∧ m.data.toList = [] ∧ m.target.toList ≠ [] ∧ m.target.size ≤ 200))
    · exact rright_kind m w hp h1.1 h1.2.1 h1.2.2 h2
    · have h3 : m.kind ≠ 1 := fun q => h2 (.inl q)
      have h4 : m.kind ≠ 2 := fun q => h2 (.inr (.inl q))
      have h5 : m.kind = 3 ∧ m.data.toList = [] ∧ m.target.toList ≠ [] ∧ m.target.size ≤ 200 := Classical.byContradiction fun q => h2 (.inr (.inr ⟨h3, h4, q⟩))
      exact rright_link m w hp h1.1 h1.2.1 h1.2.2 h5.1 h5.2.1 h5.2.2.1 h5.2.2.2
  · exact rright_clean m w hp h1
end Go.Proofs.Ytlfffpgokemjbaa.U
