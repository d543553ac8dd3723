/-
  PROVED: 'wainloadlaw03.FieldsBlanks' answers true: blanks ahead of digits, and blanks and bytes 0 behind them, do not count. The card: the library's tables are what the program's text lays.
-/
import Derived.Test.YtodkpmnkdplpiabDoorLaidTab
namespace Go.Proofs.YtodkpmnkdplpiabDoor.fieldsBlanks
open Go.ChangeShapes Go.WideShapes Go.ChangeAt Go.RowKit
set_option linter.unusedVariables false

theorem heap_keep {w w' : World} {B g : Nat} {o : Obj} (h : Below B w w') (hg : g < B) (ho : w.heap[g]? = some o) : w'.heap[g]? = some o := (h.block g hg).trans ho
theorem own_app {w : World} {v : Value} {B n m : Nat} {R X : List UInt8} (h : w.ownsRow B 5 1 v (n + m) (asB R ++ asB X)) (hn : R.length = n) (hm : X.length = m) : Own w v B (R ++ X) := by
  subst hn
  subst hm
  show w.ownsRow _ _ _ _ (R ++ X).length _
  rw [List.length_append, ← asB_app]
  exact h
/-- The bytes that are laid behind. -/
def tl (k : Nat) : List UInt8 := (List.range k).map fun i => UInt8.ofNat (32 * (i % 2))
theorem tl_succ (k : Nat) : tl (k + 1) = tl k ++ [UInt8.ofNat (32 * (k % 2))] := by
  unfold tl
  rw [List.range_succ, List.map_append]
  rfl
theorem tl_blank (k : Nat) : ∀ c ∈ ([0] ++ tl k : List UInt8), isB c = true := by
  intro c hc
  rcases List.mem_append.1 hc with hc | hc
  · rw [List.mem_singleton.1 hc]; rfl
  · obtain ⟨i, _, rfl⟩ := List.mem_map.1 hc
    have : i % 2 = 0 ∨ i % 2 = 1 := by omega
    rcases this with h | h <;> rw [h] <;> rfl
theorem tl_len (k : Nat) : (tl k).length = k := by simp [tl]
theorem walk_bad (v a b : Int) (h : v < 0 ∨ 4611686018427387904 < v ∨ a < 0 ∨ 100 < a ∨ b < 0 ∨ 100 < b) (w : World) (hT : Tabs w) :
    Calls Tryd.prog 3 #[.int .i64 v, .int .i64 a, .int .i64 b] w fun e w' => e = .returned (.bool true) ∧ Below w.heap.size w w' := by
  have hA := alive_c w hT
  by_cases c0 : v < 0
  · clear h
    go_enter Tryd.func3, Tryd.ntmps3
    go_wp2_with (go_at_call 4; go_fit hA; rintro e w2 ⟨rfl, b2⟩)
    go_ret
    exact ⟨rfl, b2⟩
  · have u : True := trivial
    by_cases c1 : 4611686018427387904 < v
    · clear h
      go_enter Tryd.func3, Tryd.ntmps3
      go_wp2_with (go_at_call 4; go_fit hA; rintro e w2 ⟨rfl, b2⟩)
      go_ret
      exact ⟨rfl, b2⟩
    · have u : True := trivial
      by_cases c2 : a < 0
      · clear h
        go_enter Tryd.func3, Tryd.ntmps3
        go_wp2_with (go_at_call 4; go_fit hA; rintro e w2 ⟨rfl, b2⟩)
        go_ret
        exact ⟨rfl, b2⟩
      · have u : True := trivial
        by_cases c3 : 100 < a
        · clear h
          go_enter Tryd.func3, Tryd.ntmps3
          go_wp2_with (go_at_call 4; go_fit hA; rintro e w2 ⟨rfl, b2⟩)
          go_ret
          exact ⟨rfl, b2⟩
        · have u : True := trivial
          by_cases c4 : b < 0
          · clear h
            go_enter Tryd.func3, Tryd.ntmps3
            go_wp2_with (go_at_call 4; go_fit hA; rintro e w2 ⟨rfl, b2⟩)
            go_ret
            exact ⟨rfl, b2⟩
          · have u : True := trivial
            have c5 : 100 < b := by omega
            clear h
            go_enter Tryd.func3, Tryd.ntmps3
            go_wp2_with (go_at_call 4; go_fit hA; rintro e w2 ⟨rfl, b2⟩)
            go_ret
            exact ⟨rfl, b2⟩

set_option maxHeartbeats 1000000 in
set_option maxRecDepth 100000 in
theorem walk_good (v a b : Nat) (hv : v ≤ 4611686018427387904) (ha : a ≤ 100) (hb : b ≤ 100) (w : World) (hT : Tabs w) :
    Calls Tryd.prog 3 #[.int .i64 (v : Int), .int .i64 (a : Int), .int .i64 (b : Int)] w fun e w' => e = .returned (.bool true) ∧ Below w.heap.size w w' := by
  have HT : Hid (Tabs w) := hT
  have h8 : v / 8 ^ 23 = 0 := Nat.div_eq_of_lt (Nat.lt_of_le_of_lt hv (by decide))
  have h1 : Calls Tryd.prog 5 #[.int .i64 (v : Int), .int .i64 24] w fun e w' => ∃ s, e = .returned (.tuple #[s, .bool true]) ∧ Own w' s w.heap.size ((wri 8 v 23).map (· + 48) ++ [0]) ∧ Below w.heap.size w w' := refPut_fits v 23 hv (by omega) h8 w
  have hO := oct_blank a v 23 ([0] ++ tl b) hv (by omega) h8 (tl_blank b)
  obtain ⟨X, hX⟩ : ∃ X, (wri 8 v 23).map (· + 48) ++ [0] = X := ⟨_, rfl⟩
  have hXl : X.length = 24 := by rw [← hX]; simp [wri_length]
  rw [← List.append_assoc ((wri 8 v 23).map (· + 48)), hX] at hO
  rw [hX] at h1
  have h4 : Hid (∀ W s, Bs W s (List.replicate a 32 ++ X ++ tl b) → Calls Tryd.prog 6 #[s] W fun e w' => e = .returned (.tuple #[.int .i64 (v : Int), .int .i64 0]) ∧ Below W.heap.size W w') := fun W s h => by
    have := oct_c s _ (by simp [tl_len, hXl]; omega) W h
    rw [oct_eq, List.append_assoc, hO] at this
    exact this
  clear hO hX h8 hT
  have HX : Hid (X.length = 24) := hXl
  obtain ⟨R, hR⟩ : ∃ R, List.replicate a (32 : UInt8) = R := ⟨_, rfl⟩
  have HR : Hid (R.length = a ∧ ∀ k, k < a → (R.getD k 0).toNat = 32) := by
    rw [← hR]
    refine ⟨by simp, fun k hk => ?_⟩
    rw [List.getD_eq_getElem?_getD, List.getElem?_replicate, if_pos hk]
    rfl
  rw [hR] at h4
  clear hR hXl
  have hmk := made_full a (by omega)
  obtain ⟨i5, hi5, hz5, hs5, hb5⟩ := info5
  have HI5 : Hid (_ ∧ _ ∧ _ ∧ _) := ⟨hi5, hz5, hs5, hb5⟩
  clear hi5 hz5 hs5 hb5
  go_enter Tryd.func3, Tryd.ntmps3
  go_wp2_with (go_at_call 5; go_fit h1; rintro e w2 ⟨s2, rfl, o2, b2⟩; have O2 : Hid (Own w2 s2 w.heap.size X) := o2; have B2 : Hid (Below w.heap.size w w2) := b2; clear o2 b2)
  have hform : ∃ g cap, s2 = .slice (some ⟨g, 0, none⟩) 24 cap := by
    obtain ⟨q1, q2⟩ := O2.out
    rcases q2 with ⟨q3, q4⟩ | ⟨g, cap, cur, q3, _⟩
    · rw [HX.out] at q4; cases q4
    · exact ⟨g, cap, by rw [q3, HX.out]⟩
  obtain ⟨g2, cap2, rfl⟩ := hform
  clear h1 hmk
  go_loopg [46] a (fun g y wx => ∃ k : Nat, k + g = a ∧ y = .int .i64 k ∧ wx.heap[w2.heap.size]? = some (.cells (fil R 0 k) 5 (0, 0)) ∧ Below w2.heap.size w2 wx)
  case atStart => exact ⟨0, by omega, rfl, by rw [fil_zero, HR.out.1]; exact heap_new _ _, (Below.refl _ w2).alloc (Nat.le_refl _) _⟩
  case round =>
    obtain ⟨k, hkg, rfl, hbk, b0⟩ := hrel
    have B0 : Hid (Below w2.heap.size w2 wr) := b0
    clear b0
    cases gk with
    | succ g =>
      have hkm : k < a := by omega
      have hkx : k < R.length := by rw [HR.out.1]; exact hkm
      have hcell := cells_of hbk k
      rw [fil_not hkx (by omega)] at hcell
      have hfree := free_of hbk k
      have HS : Hid ((wr.setCell ⟨w2.heap.size, k, none⟩ (.int .u8 32)).heap[w2.heap.size]? = some (.cells (fil R 0 (k + 1)) 5 (0, 0))) := by
        have hx := HR.out.2 k hkm
        rw [set_of hbk, ← fil_set (lo := 0) (hi := k) (lo2 := 0) (hi2 := k + 1) hkx (by omega), hx]
        exact rfl
      have BS : Hid (Below w2.heap.size w2 (wr.setCell ⟨w2.heap.size, k, none⟩ (.int .u8 32))) := B0.out.setCell (p := ⟨w2.heap.size, k, none⟩) (Nat.le_refl _) _
      clear hkx hbk
      go_wp2_with fail
      go_roundg g
      case measure => omega
      case rel => exact ⟨k + 1, by omega, rfl, HS.out, BS.out⟩
    | zero =>
      obtain rfl : k = a := by omega
      have HO : Hid (wr.ownsRow w.heap.size 5 1 (.slice (some ⟨w2.heap.size, 0, none⟩) k k) k (asB R)) := by
        have hh : wr.heap[w2.heap.size]? = some (.cells (asB R).toArray 5 (0, 0)) := by rw [← fil_full, HR.out.1]; exact hbk
        have := own_new (B := w.heap.size) B2.out.size HR.out.1 (by unfold maxLen; omega) hh
        unfold Own at this
        rw [HR.out.1] at this
        exact this
      have HB : Hid (Below w.heap.size w wr) := B2.out.trans (B0.out.mono B2.out.size)
      have HSrc : Hid (∀ j u, (asB X)[j]? = some u → wr.cell? ((⟨g2, 0, none⟩ : Addr).add j) = some u) := by
        have hbs := bs_keep B0.out (own_bs O2.out) (Nat.le_refl _)
        intro j u hj
        have hjl : j < X.length := by
          rcases Nat.lt_or_ge j X.length with h' | h'
          · exact h'
          · rw [List.getElem?_eq_none (by rw [asB_len]; exact h')] at hj; cases hj
        rcases hbs with ⟨q, _⟩ | ⟨b', o', c', q, _, q2⟩
        · rw [q] at hjl; simp at hjl
        · have q3 : g2 = b' ∧ 0 = o' := by
            have := (Value.slice.inj q).1
            have := Option.some.inj this
            exact ⟨congrArg Addr.block this, congrArg Addr.off this⟩
          obtain ⟨rfl, rfl⟩ := q3
          rw [Lib.add_plain, q2 j hjl, ← hj, asB_at X j hjl]
      have hsz := HB.out.size
      clear hbk B0 O2 B2 hkg
      go_wp2_with (at_builtin; refine wpList_append_own _ rfl _ _ 23 rfl w.heap.size 5 i5 (.int .u8 0) 1 1 Tryd.underlying23 HI5.out.1 HI5.out.2.1 HI5.out.2.2.1 HI5.out.2.2.2 rfl (by decide) _ k (asB R) rfl HO.out ⟨g2, 0, none⟩ 24 cap2 (asB X) rfl (by rw [asB_len, HX.out]) HSrc.out (asB_one X) (by unfold maxLen; omega) (by omega) (by omega) ?_; intro s3 w3 hown hgrow hnil; have O3 : Hid (Own w3 s3 w.heap.size (R ++ X)) := own_app hown HR.out.1 HX.out; have B3 : Hid (Below w.heap.size w w3) := HB.out.grown hgrow hsz (fun g e => ownsRow_lt HO.out e); clear hown hgrow hnil)
      clear HO HSrc HB hsz
      go_loopg [9, 57] b (fun g s y wx => ∃ j : Nat, j + g = b ∧ y = .int .i64 j ∧ Hid (Own wx s w.heap.size (R ++ X ++ tl j)) ∧ Hid (Below w.heap.size w wx))
      case atStart => exact ⟨0, by omega, rfl, by rw [show tl 0 = [] from rfl, List.append_nil]; exact O3.out, B3⟩
      case round =>
        clear O3 B3
        obtain ⟨j, hjg, rfl, HO, HB⟩ := hrel
        cases gk with
        | zero =>
          obtain rfl : j = b := by omega
          have hbs := own_bs HO.out
          have h5 := h4.out _ _ hbs
          clear hbs
          go_wp2_with (first
            | (go_at_call 6; go_fit h5; rintro e w4 ⟨rfl, b4⟩; have B4 : Hid (Below w.heap.size w w4) := HB.out.trans (b4.mono HB.out.size); clear b4)
            | (go_at_call 4; go_fit (alive_c _ (tabs_keep HT.out B4.out (Nat.le_refl _))); rintro e w9 ⟨rfl, b9⟩; have B9 : Hid (Below w.heap.size w w9) := B4.out.trans (b9.mono B4.out.size); clear b9))
          go_ret
          exact ⟨rfl, B9.out⟩
        | succ g =>
          have hjb : j < b := by omega
          have HT2 : Hid (tl (j + 1) = tl j ++ [UInt8.ofNat (32 * (j % 2))]) := tl_succ j
          have hL : (R ++ X ++ tl j).length = k + 24 + j := by rw [List.length_append, List.length_append, HR.out.1, HX.out, tl_len]
          have HO2 : Hid (wr.ownsRow w.heap.size 5 1 u9 (k + 24 + j) (asB (R ++ X ++ tl j))) := by
            have := HO.out
            unfold Own at this
            rw [hL] at this
            exact this
          have HL : Hid ((R ++ X ++ tl j).length = k + 24 + j) := hL
          have hsz := HB.out.size
          have HQ : Hid (((UInt8.ofNat (32 * (j % 2))).toNat : Nat) = 32 * (j % 2)) := by
            show _ = _
            exact byte_lt (by omega)
          clear HO hL
          go_wp2_with (at_builtin; refine wpList_append_own _ rfl _ _ 23 rfl w.heap.size 5 i5 (.int .u8 0) 1 1 Tryd.underlying23 HI5.out.1 HI5.out.2.1 HI5.out.2.2.1 HI5.out.2.2.2 rfl (by decide) _ (k + 24 + j) (asB (R ++ X ++ tl j)) rfl (World.ownsRow.alloc HO2.out _) ⟨wr.heap.size, 0, none⟩ 1 1 [.int .u8 (32 * ((j : Int) % 2))] rfl rfl (one_byte wr _) (by intro u hu; simp at hu; subst hu; rfl) (by unfold maxLen; omega) (by omega) (by simp; omega) ?_; intro s5 w5 hown hgrow hnil)
          go_roundg g
          case measure => omega
          case rel =>
            refine ⟨j + 1, by omega, rfl, ?_, (HB.out.alloc hsz _).grown hgrow (by simp; omega) (fun g e => ownsRow_lt HO2.out e)⟩
            rw [HT2.out, ← List.append_assoc]
            refine own_push HL.out.symm ?_
            rw [HQ.out]
            exact hown

theorem walk (v a b : Int) (w : World) (hT : Tabs w) :
    Calls Tryd.prog 3 #[.int .i64 v, .int .i64 a, .int .i64 b] w fun e w' => e = .returned (.bool true) ∧ Below w.heap.size w w' := by
  by_cases h : v < 0 ∨ 4611686018427387904 < v ∨ a < 0 ∨ 100 < a ∨ b < 0 ∨ 100 < b
  · exact walk_bad v a b h w hT
  · obtain ⟨V, rfl⟩ : ∃ V : Nat, v = V := ⟨v.toNat, by omega⟩
    obtain ⟨A, rfl⟩ : ∃ A : Nat, a = A := ⟨a.toNat, by omega⟩
    obtain ⟨B, rfl⟩ : ∃ B : Nat, b = B := ⟨b.toNat, by omega⟩
    exact walk_good V A B (by omega) (by omega) (by omega) w hT

set_option maxRecDepth 100000 in
theorem lifted (os : Os) (started : os.Started) (H : Type) (enc : TypeId × Value → H) :
    ReturnsInHanded {} Tryd.checked os 3 .any (fun w args => (Rows.fieldsBlanksSpec.pre enc Tryd.prog Tryd.f3 Rows.fieldsBlanksRow.domain false w args ∧ laidMetH Tryd.prog Rows.fieldsBlanksRow.laid w) ∧ sizedMet enc Tryd.prog Tryd.f3 (OpenSpec.ofChange Rows.fieldsBlanksSpec) false w args)
      (Rows.fieldsBlanksSpec.post enc Tryd.prog Tryd.f3 false true false false) := by
  refine returnsInHanded_of_change_and (C := Tryd.checked) (X := fun w _ => laidMetH Tryd.prog Rows.fieldsBlanksRow.laid w) (fun _ _ _ hh h => h.of_heap hh) own started (by kernel_rfl) Tryd.func3
    (ChangeSpec.witness_shaped (enc := enc) (C := Tryd.checked) (os := os) (X := fun w _ => laidMetH Tryd.prog Rows.fieldsBlanksRow.laid w) false (World.laidAll Tryd.prog os Rows.fieldsBlanksRow.laid) #[.int .i64 0, .int .i64 0, .int .i64 0] 8 (World.laidAll_os _ _ _)
      (World.shaped_of_ZipB (by kernel_rfl) (by kernel_rfl)) (by kernel_rfl) (by kernel_rfl) (by kernel_rfl) (wit_met os _)) ?_
  intro W base args ds gs before hval0 hW _ _ hL _
  have hval : ∀ (j : Nat) t v, Tryd.f3.params[j]? = some t → args[j]? = some v → Value.okWide Tryd.prog W .any base t v := hval0
  have hW' := hW
  obtain ⟨p, q, hA0, hV, rfl, hfz, hnd⟩ := hW
  have hA : DataW.TrodAll enc Tryd.prog W 0 (fun _ => true) true Tryd.f3.params.toList args.toList ds p := hA0
  rw [Tryd.params3] at hA hval
  obtain ⟨v0, vs0, d0, ds0, p0, q0, hargs, rfl, rfl, h0, r0⟩ := trodAll_cons hA
  obtain ⟨v1, vs1, d1, ds1, p1, q1, rfl, rfl, rfl, h1, r1⟩ := trodAll_cons r0
  obtain ⟨v2, vs2, d2, ds2, p2, q2, rfl, rfl, rfl, h2, r2⟩ := trodAll_cons r1
  obtain ⟨rfl, rfl, rfl⟩ := trodAll_nil r2
  obtain rfl : args = #[v0, v1, v2] := by cases args; simp_all
  obtain ⟨rfl, rfl⟩ := trodVars_none hV
  obtain ⟨a0, rfl, rfl, rfl, w0⟩ := open_int Tryd.underlying3 (hval 0 3 v0 rfl rfl) h0
  have bd0 := bounds_i64 w0
  obtain ⟨a1, rfl, rfl, rfl, w1⟩ := open_int Tryd.underlying3 (hval 1 3 v1 rfl rfl) h1
  have bd1 := bounds_i64 w1
  obtain ⟨a2, rfl, rfl, rfl, w2⟩ := open_int Tryd.underlying3 (hval 2 3 v2 rfl rfl) h2
  have bd2 := bounds_i64 w2
  clear hA0 hval0
  refine (walk a0 a1 a2 W (tabs_of_laid hL)).mono fun e W' ⟨he, bel⟩ => ?_
  subst he
  exact ⟨_, rfl, _, _, _, [], _, [], hW', trodAll_mk1 (shut_bool Tryd.underlying4 _), (trodAll_cons_mk (shut_int Tryd.underlying3 w0) (trodAll_cons_mk (shut_int Tryd.underlying3 w1) (trodAll_cons_mk (shut_int Tryd.underlying3 w2) trodAll_mk0))), rfl, bel.frame _, fun h => by cases h⟩

theorem over : Rows.FieldsBlanksSaid :=
  OpenClaim.holds_of_wide 3 Tryd.f3 rfl rfl rfl rfl rfl rfl rfl ⟨rfl, rfl, rfl, rfl, rfl⟩ rfl rfl rfl rfl rfl (by kernel_rfl) Tryd.func3 (by kernel_rfl)
    (of_decide_eq_true (by kernel_rfl)) (by unfold Func.isWrapper; first | (rw [if_pos (by decide +kernel)]; kernel_rfl) | (rw [if_neg (by decide +kernel)]; exact ⟨rfl, rfl⟩))
    (fun os started H enc _ => lifted os started H enc)
end Go.Proofs.YtodkpmnkdplpiabDoor.fieldsBlanks
namespace Go.Proofs.YtodkpmnkdplpiabDoor
theorem fieldsBlanks_holds : Rows.FieldsBlanksCardSaid :=
  Claim7.holds_tied_plain_at .later [] [.data, .data, .data, .data, .pinned] true Rows.fieldsBlanksCard.stood.harness false
    fieldsBlanks.over (fun _ h => by cases h) (by kernel_rfl) (fun _ h => by cases h) fieldsBlanks_row_tie rfl ⟨rfl, rfl⟩ (by kernel_rfl) rfl
    (fun f fn hf hfn => by
      obtain rfl : f = 3 := Option.some.inj ((show Tryd.prog.funcNamed Rows.fieldsBlanksRow.func = some 3 by kernel_rfl).symm.trans hf) |>.symm
      obtain rfl : fn = Tryd.f3 := (Option.some.inj (Tryd.func3.symm.trans hfn)).symm
      exact ⟨by kernel_rfl, fun j t ht => by
        rw [Tryd.params3] at ht
        have hm : t ∈ [3, 3, 3] := by simpa using Array.mem_of_getElem? ht
        have hall : ([3, 3, 3].all fun u => !Tryd.prog.wantsStandIn u) = true := by kernel_rfl
        exact (show Tryd.prog.wantsStandIn t = false by simpa using List.all_eq_true.1 hall t hm)⟩)
    (by kernel_rfl)
#print axioms fieldsBlanks_holds
end Go.Proofs.YtodkpmnkdplpiabDoor
