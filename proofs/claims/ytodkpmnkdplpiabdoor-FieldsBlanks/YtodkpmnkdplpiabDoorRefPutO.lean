/- PROVED: the contract of the reference's PutOctal. -/
import Derived.Test.YtodkpmnkdplpiabDoorRefPut
import Derived.Deep.DeepFit
import Derived.Deep.DeepCutAuto
namespace Go.Proofs.YtodkpmnkdplpiabDoor
open Go Go.RowKit
set_option linter.unusedVariables false

/-- The first k of Y, then X's. -/
def mix (X Y : List UInt8) (k : Nat) : List UInt8 := Y.take k ++ X.drop k
theorem mix_len {X Y : List UInt8} {k : Nat} (h : X.length = Y.length) (hk : k ≤ X.length) : (mix X Y k).length = X.length := by simp [mix]; omega
theorem mix_at {X Y : List UInt8} {k : Nat} (h : X.length = Y.length) (hk : k < X.length) : (mix X Y k).getD k 0 = X.getD k 0 := by
  unfold mix
  simp only [List.getD_eq_getElem?_getD]
  rw [List.getElem?_append_right (by simp; omega), List.getElem?_drop]
  simp only [List.length_take]
  rw [show k + (k - min k Y.length) = k by omega]
theorem mix_set {X Y : List UInt8} {k : Nat} (h : X.length = Y.length) (hk : k < X.length) : (asB (mix X Y k)).toArray.setIfInBounds k (.int .u8 ((Y.getD k 0).toNat : Nat)) = (asB (mix X Y (k + 1))).toArray := by
  apply Array.ext_getElem?
  intro i
  have l1 := mix_len h (Nat.le_of_lt hk)
  have l2 := mix_len (k := k + 1) h hk
  rw [Array.getElem?_setIfInBounds]
  by_cases hi : k = i
  · subst hi
    rw [if_pos rfl, if_pos (by simp [asB_len]; omega), List.getElem?_toArray, asB_at _ _ (by omega)]
    congr 4
    unfold mix
    simp only [List.getD_eq_getElem?_getD]
    rw [List.getElem?_append_left (by simp; omega), List.getElem?_take_of_lt (by omega)]
  · rw [if_neg hi]
    by_cases hl : i < X.length
    · rw [List.getElem?_toArray, List.getElem?_toArray, asB_at _ _ (by omega), asB_at _ _ (by omega)]
      congr 4
      unfold mix
      simp only [List.getD_eq_getElem?_getD]
      by_cases hik : i < k
      · rw [List.getElem?_append_left (by simp; omega), List.getElem?_append_left (by simp; omega), List.getElem?_take_of_lt (by omega), List.getElem?_take_of_lt (by omega)]
      · rw [List.getElem?_append_right (by simp; omega), List.getElem?_append_right (by simp; omega), List.getElem?_drop, List.getElem?_drop]
        simp only [List.length_take]
        congr 2
        omega
    · rw [Array.getElem?_eq_none (by simp [asB_len]; omega), Array.getElem?_eq_none (by simp [asB_len]; omega)]

theorem putR_bad {v n : Int} (h : v < 0 ∨ 4611686018427387904 < v ∨ n < 2 ∨ 64 < n) : putR v n = none := if_pos h
theorem wri8_lt (v m : Nat) : ∀ c ∈ wri 8 v m, c.toNat < 8 := by
  induction m generalizing v with
  | zero => simp [wri]
  | succ m ih =>
    intro c hc
    simp only [wri, List.mem_append, List.mem_singleton] at hc
    rcases hc with hc | rfl
    · exact ih _ c hc
    · rw [byte_lt (by omega)]; omega

set_option maxRecDepth 100000 in
theorem refPut_bad (v n : Int) (h : v < 0 ∨ 4611686018427387904 < v ∨ n < 2 ∨ 64 < n) (w : World) :
    Calls Tryd.prog 5 #[.int .i64 v, .int .i64 n] w fun e w' => e = .returned (.tuple #[.slice none 0 0, .bool false]) ∧ w' = w := by
  by_cases h1 : v < 0
  · clear h
    go_enter Tryd.func5, Tryd.ntmps5
    go_wp2_with fail
    go_ret2
    exact ⟨rfl, rfl⟩
  · by_cases h2 : 4611686018427387904 < v
    · clear h
      go_enter Tryd.func5, Tryd.ntmps5
      go_wp2_with fail
      go_ret2
      exact ⟨rfl, rfl⟩
    · by_cases h3 : n < 2
      · clear h
        go_enter Tryd.func5, Tryd.ntmps5
        go_wp2_with fail
        go_ret2
        exact ⟨rfl, rfl⟩
      · have h4 : 64 < n := by omega
        clear h
        go_enter Tryd.func5, Tryd.ntmps5
        go_wp2_with fail
        go_ret2
        exact ⟨rfl, rfl⟩

set_option maxRecDepth 100000 in
theorem refPut_fits (v m : Nat) (hv : v ≤ 4611686018427387904) (hm : 1 ≤ m ∧ m ≤ 63) (hf : v / 8 ^ m = 0) (w : World) :
    Calls Tryd.prog 5 #[.int .i64 (v : Int), .int .i64 ((m : Int) + 1)] w fun e w' => ∃ s, e = .returned (.tuple #[s, .bool true]) ∧ Own w' s w.heap.size ((wri 8 v m).map (· + 48) ++ [0]) ∧ Below w.heap.size w w' := by
  have hW := written8 v m hv hm
  rw [decide_eq_true hf] at hW
  obtain ⟨X, hX⟩ : ∃ X, X = wri 8 v m := ⟨_, rfl⟩
  obtain ⟨Y, hY⟩ : ∃ Y, Y = X.map (· + 48) := ⟨_, rfl⟩
  have lX : X.length = m := by rw [hX, wri_length]
  have lY : Y.length = m := by rw [hY]; simp [lX]
  have HW8 : ∀ c ∈ X, c.toNat < 8 := by rw [hX]; exact wri8_lt v m
  have HX : Hid (∀ k, k < m → (X.getD k 0).toNat < 8 ∧ (Y.getD k 0).toNat = (X.getD k 0).toNat + 48) := by
    intro k hk
    have h8 : (X.getD k 0).toNat < 8 := by
      rw [List.getD_eq_getElem?_getD, List.getElem?_eq_getElem (by omega)]
      exact HW8 _ (List.getElem_mem _)
    refine ⟨h8, ?_⟩
    have : Y.getD k 0 = X.getD k 0 + 48 := by
      rw [hY]
      simp only [List.getD_eq_getElem?_getD, List.getElem?_map]
      rw [List.getElem?_eq_getElem (by omega)]
      rfl
    rw [this, UInt8.toNat_add]
    show ((X.getD k 0).toNat + 48) % 256 = _
    omega
  rw [← hX, ← hY]
  rw [← hX] at hW
  have HL : Hid (X.length = m ∧ Y.length = m) := ⟨lX, lY⟩
  have hm1 : (m : Int) + 1 - 1 = m := by omega
  obtain ⟨i5, hi5, hz5, hs5, hb5⟩ := info5
  have HI5 : Hid (_ ∧ _ ∧ _ ∧ _) := ⟨hi5, hz5, hs5, hb5⟩
  clear hX hY lX lY hf HW8 hi5 hz5 hs5 hb5
  go_enter Tryd.func5, Tryd.ntmps5
  go_wp2_with (go_at_call 11; refine (hW _).mono ?_; rintro e w2 ⟨rfl, h2, b2⟩; have H2 : Hid (w2.heap[w.heap.size]? = some (.cells (asB X).toArray 5 (0, 0))) := h2; have B2 : Hid (Below w.heap.size w w2) := b2; clear h2 b2)
  clear hW
  go_loopg [8] m (fun g y wx => ∃ k : Nat, k + g = m ∧ y = .int .i64 k ∧ wx.heap[w.heap.size]? = some (.cells (asB (mix X Y k)).toArray 5 (0, 0)) ∧ Below w.heap.size w wx)
  case atStart => exact ⟨0, by omega, rfl, by unfold mix; simpa using H2.out, B2.out⟩
  case round =>
    obtain ⟨k, hkg, rfl, hb, b0⟩ := hrel
    have B0 : Hid (Below w.heap.size w wr) := b0
    clear b0 H2 B2
    cases gk with
    | zero =>
      have hkm : k = m := by omega
      have HB : Hid (Own wr (.slice (some ⟨w.heap.size, 0, none⟩) m m) w.heap.size Y) := by
        have := own_new (X := Y) (c := m) (Nat.le_refl _) HL.out.2 (by unfold maxLen; omega) (by rw [hkm, mix, List.take_of_length_le (by rw [HL.out.2]; omega), List.drop_of_length_le (by rw [HL.out.1]; omega), List.append_nil] at hb; exact hb)
        rw [HL.out.2] at this
        exact this
      have HB2 : Hid (wr.ownsRow w.heap.size 5 1 (.slice (some ⟨w.heap.size, 0, none⟩) m m) m (asB Y)) := by
        have := HB.out
        unfold Own at this
        rw [HL.out.2] at this
        exact this
      have hsz := B0.out.size
      clear hb HB
      obtain rfl := hkm
      go_wp2_with (at_builtin; refine wpList_append_own _ rfl _ _ 23 rfl w.heap.size 5 i5 (.int .u8 0) 1 1 Tryd.underlying23 HI5.out.1 HI5.out.2.1 HI5.out.2.2.1 HI5.out.2.2.2 rfl (by decide) _ k (asB Y) rfl (World.ownsRow.alloc HB2.out _) ⟨wr.heap.size, 0, none⟩ 1 1 [.int .u8 0] rfl rfl (one_byte wr _) (by intro u hu; simp at hu; subst hu; rfl) (by unfold maxLen; omega) (by omega) (by simp; omega) ?_; intro v' w1 hown' hgrow hnil)
      go_ret2
      exact ⟨_, rfl, own_push HL.out.2.symm hown', (B0.out.alloc hsz _).grown hgrow (by simp; omega) (fun g e => ownsRow_lt HB2.out e)⟩
    | succ g =>
      have hkm : k < m := by omega
      have hcell := cells_of hb k
      rw [List.getElem?_toArray, asB_at _ k (by rw [mix_len (by rw [HL.out.1, HL.out.2]) (by rw [HL.out.1]; omega), HL.out.1]; exact hkm), mix_at (by rw [HL.out.1, HL.out.2]) (by rw [HL.out.1]; exact hkm)] at hcell
      have hfree := free_of hb k
      obtain ⟨h8, hy⟩ := HX.out k hkm
      obtain ⟨q, hq⟩ : ∃ q, (X.getD k 0).toNat = q := ⟨_, rfl⟩
      rw [hq] at hcell h8 hy
      have HS : Hid ((wr.setCell ⟨w.heap.size, k, none⟩ (.int .u8 ((q : Int) + 48))).heap[w.heap.size]? = some (.cells (asB (mix X Y (k + 1))).toArray 5 (0, 0))) := by
        rw [set_of hb, ← mix_set (by rw [HL.out.1, HL.out.2]) (by rw [HL.out.1]; exact hkm), hy]
        exact rfl
      have BS : Hid (Below w.heap.size w (wr.setCell ⟨w.heap.size, k, none⟩ (.int .u8 ((q : Int) + 48)))) := B0.out.setCell (p := ⟨w.heap.size, k, none⟩) (Nat.le_refl _) _
      clear hq hb hy
      go_wp2_with fail
      go_roundg g
      case measure => omega
      case rel => exact ⟨k + 1, by omega, rfl, HS.out, BS.out⟩

theorem heap_old {w : World} {o : Obj} {b : Nat} {p : Obj} (h : w.heap[b]? = some p) : (w.alloc o).heap[b]? = some p := by
  rw [Below.heap_alloc _ _ _ (lt_of_block' h)]; exact h
theorem src_of {w : World} {g : Nat} {X : List UInt8} {t : TypeId} {fr : Nat × Nat} (h : w.heap[g]? = some (.cells (asB X).toArray t fr)) : ∀ j u, (asB X)[j]? = some u → w.cell? ((⟨g, 0, none⟩ : Addr).add j) = some u := fun j u hu => World.news_of_block h j u (by simpa using hu)
theorem own_one (w : World) (x : UInt8) (B : Nat) (h : B ≤ w.heap.size) : (w.alloc (.cells #[.int .u8 ((x.toNat : Nat) : Int)] 5)).ownsRow B 5 1 (.slice (some ⟨w.heap.size, 0, none⟩) 1 1) 1 (asB [x]) :=
  ⟨rfl, Or.inr ⟨w.heap.size, 1, _, rfl, h, heap_new _ _, Nat.le_refl _, by unfold maxLen; omega, rfl, rfl⟩⟩

set_option maxRecDepth 100000 in
theorem refPut_more (v m : Nat) (hv : v ≤ 4611686018427387904) (hm : 1 ≤ m ∧ m ≤ 63) (hf : ¬ v / 8 ^ m = 0) (w : World) :
    Calls Tryd.prog 5 #[.int .i64 (v : Int), .int .i64 ((m : Int) + 1)] w fun e w' => ∃ s, e = .returned (.tuple #[s, .bool (decide (v / 256 ^ m = 0))]) ∧ (if v / 256 ^ m = 0 then Own w' s w.heap.size (128 :: wri 256 v m) else s = .slice none 0 0) ∧ Below w.heap.size w w' := by
  have hW := written8 v m hv hm
  rw [decide_eq_false hf] at hW
  have hV := written256 v m hv hm
  obtain ⟨X, hX⟩ : ∃ X, X = wri 256 v m := ⟨_, rfl⟩
  have HL : Hid (X.length = m) := by rw [hX, wri_length]; exact rfl
  rw [← hX] at hV ⊢
  generalize asB (wri 8 v m) = Z at hW
  have hm1 : (m : Int) + 1 - 1 = m := by omega
  obtain ⟨i5, hi5, hz5, hs5, hb5⟩ := info5
  have HI5 : Hid (_ ∧ _ ∧ _ ∧ _) := ⟨hi5, hz5, hs5, hb5⟩
  clear hX hf hi5 hz5 hs5 hb5
  by_cases hq : v / 256 ^ m = 0
  · rw [decide_eq_true hq] at hV ⊢
    simp only [if_pos hq]
    clear hq
    go_enter Tryd.func5, Tryd.ntmps5
    go_wp2_with (first
      | (go_at_call 11; first
        | (go_fit (hW _); rintro e w2 ⟨rfl, _, b2⟩; have B2 : Hid (Below w.heap.size w w2) := b2; have S2 := b2.size; clear b2)
        | (go_fit (hV _); rintro e w3 ⟨rfl, h3, b3⟩; have H3 : Hid (w3.heap[w2.heap.size]? = some (.cells (asB X).toArray 5 (0, 0))) := h3; have B3 : Hid (Below w.heap.size w w3) := B2.out.trans (b3.mono S2); have S3 := b3.size; clear h3 b3))
      | (at_builtin; refine wpList_append_own _ rfl _ _ 23 rfl w.heap.size 5 i5 (.int .u8 0) 1 1 Tryd.underlying23 HI5.out.1 HI5.out.2.1 HI5.out.2.2.1 HI5.out.2.2.2 rfl (by decide) _ 1 (asB [128]) rfl (own_one w3 128 _ (by omega)) ⟨w2.heap.size, 0, none⟩ m m (asB X) rfl (by rw [asB_len, HL.out, Nat.mul_one]) (src_of (heap_old H3.out)) (asB_one X) (by unfold maxLen; omega) (by omega) (by simp; omega) ?_; intro v' w1 hown' hgrow hnil))
    go_ret2
    refine ⟨_, rfl, ?_, ?_⟩
    · unfold Own
      rw [show (128 :: X) = [128] ++ X from rfl, ← asB_app, List.length_append, HL.out]
      exact hown'
    · exact (B3.out.alloc (by omega) _).grown hgrow (by simp; omega) (fun g e => ownsRow_lt (own_one w3 128 _ (by omega)) e)
  · rw [decide_eq_false hq] at hV ⊢
    simp only [if_neg hq]
    clear hq
    go_enter Tryd.func5, Tryd.ntmps5
    go_wp2_with (first
      | (go_at_call 11; first
        | (go_fit (hW _); rintro e w2 ⟨rfl, _, b2⟩; have B2 : Hid (Below w.heap.size w w2) := b2; have S2 := b2.size; clear b2)
        | (go_fit (hV _); rintro e w3 ⟨rfl, _, b3⟩; have B3 : Hid (Below w.heap.size w w3) := B2.out.trans (b3.mono S2); clear b3)))
    go_ret2
    exact ⟨_, rfl, rfl, B3.out⟩

/-- What the reference's PutOctal answers. -/
theorem refPut_c (v n : Int) (hv : -9223372036854775808 ≤ v ∧ v ≤ 9223372036854775807) (hn : -9223372036854775808 ≤ n ∧ n ≤ 9223372036854775807) (w : World) :
    Calls Tryd.prog 5 #[.int .i64 v, .int .i64 n] w fun e w' => ∃ s, e = .returned (.tuple #[s, .bool (putR v n).isSome]) ∧ Bs w' s ((putR v n).getD []) ∧ Below w.heap.size w w' := by
  by_cases h : v < 0 ∨ 4611686018427387904 < v ∨ n < 2 ∨ 64 < n
  · rw [putR_bad h]
    exact (refPut_bad v n h w).mono fun e w' ⟨he, hw⟩ => ⟨_, he, Or.inl ⟨rfl, _, _, rfl⟩, by rw [hw]; exact Below.refl _ _⟩
  · unfold putR
    rw [if_neg h]
    obtain ⟨V, rfl⟩ : ∃ V : Nat, v = V := ⟨v.toNat, by omega⟩
    obtain ⟨m, rfl⟩ : ∃ m : Nat, n = (m : Int) + 1 := ⟨n.toNat - 1, by omega⟩
    rw [Int.toNat_natCast, show ((m : Int) + 1).toNat - 1 = m by omega]
    by_cases hf : V / 8 ^ m = 0
    · rw [if_pos hf]
      exact (refPut_fits V m (by omega) (by omega) hf w).mono fun e w' ⟨s, he, ho, hb⟩ => ⟨s, he, own_bs ho, hb⟩
    · rw [if_neg hf]
      refine (refPut_more V m (by omega) (by omega) hf w).mono fun e w' ⟨s, he, ho, hb⟩ => ?_
      by_cases hq : V / 256 ^ m = 0
      · rw [if_pos hq] at ho ⊢
        rw [decide_eq_true hq] at he
        exact ⟨s, he, own_bs ho, hb⟩
      · rw [if_neg hq] at ho ⊢
        rw [decide_eq_false hq] at he
        subst ho
        exact ⟨_, he, Or.inl ⟨rfl, _, _, rfl⟩, hb⟩
end Go.Proofs.YtodkpmnkdplpiabDoor
