/- The law on the last ten bytes: walked. -/
import Derived.Test.YtgamfpgejkhbcaaDoorNG3
namespace Go.Proofs.YtgamfpgejkhbcaaDoor.S
set_option maxRecDepth 100000
open Go Go.RowKit

theorem own_row {w : World} {base : Nat} {v : Value} {zs : List Nat} (h : OwnsB w base v zs) (h1 : 1 ≤ zs.length) : ∃ g c cur, v = .slice (some ⟨g, 0, none⟩) zs.length c ∧ base ≤ g ∧ g < w.heap.size ∧ w.heap[g]? = some (.cells cur 5 (0, 0)) ∧ Bs w g 0 zs ∧ zs.length ≤ c ∧ c ≤ 9223372036854775807 ∧ cur.size = c := by
  rcases h.2 with ⟨rfl, h2⟩ | ⟨g, cap, cur, rfl, hb, hh, h3, h4, h5, _⟩
  · omega
  · rcases OwnsB.bs h with h0 | ⟨g', e, _, hl, hs⟩
    · omega
    · cases e
      exact ⟨g, cap, cur, rfl, hb, hl, hh, hs, h3, by unfold maxLen at h4; omega, by omega⟩
theorem set_bs {w : World} {g : Nat} {cur : Array Value} {pre tg : List Nat} {i v : Nat} (hh : w.heap[g]? = some (.cells cur 5 (0, 0))) (hs : Bs w g 0 (pre ++ tg)) (hi : i < tg.length) (hc : (pre ++ tg).length ≤ cur.size) :
    Bs (w.setCell ⟨g, pre.length + i, none⟩ (.int .u8 (v : Int))) g 0 (pre ++ tg.set i v) := by
  intro k hk
  have hkl : k < (pre ++ tg).length := by simpa using hk
  have h0 := hs k hkl
  rw [Nat.zero_add, cells_of hh] at h0
  rw [Nat.zero_add, cells_of (set_of hh _ _), Array.getElem?_setIfInBounds]
  by_cases e : pre.length + i = k
  · subst e
    rw [if_pos rfl, if_pos (by omega)]
    congr 2
    simp [List.getD, hi]
  · rw [if_neg e, h0]
    congr 3
    by_cases hp : k < pre.length
    · simp [List.getD, List.getElem?_append_left hp]
    · have hp' : pre.length ≤ k := by omega
      simp only [List.getD, List.getElem?_append_right hp']
      rw [List.getElem?_set_ne (by omega)]
theorem set_ne {tg : List Nat} {i y : Nat} (hi : i < tg.length) (hy : ¬ y = 0) : ¬ tg.set i (tg.getD i 0 ^^^ y) = tg := fun e => by
  have := congrArg (fun l => l.getD i 0) e
  simp [List.getD, hi] at this
  have h2 := congrArg (fun z => tg[i] ^^^ z) this
  simp only [← Nat.xor_assoc, Nat.xor_self, Nat.zero_xor] at h2
  exact hy h2

set_option maxHeartbeats 4000000 in
theorem counterTags_walk (cs : Array Value) (s : Int) (a1 : Option Addr) (c1 : Nat) (y1 : List Nat) (a2 : Option Addr) (c2 : Nat) (y2 : List Nat) (a3 : Option Addr) (c3 : Nat) (y3 : List Nat) (x : Int) (y : Nat) (w : World) (h : CaseIn w cs s a1 c1 y1 a2 c2 y2 a3 c3 y3) (hy : y < 256) (hT : K.Tab w) :
    Calls Tryd.prog 8 #[.agg cs, .int .i64 x, .int .u8 (y : Int)] w (Yes w) := by
  obtain ⟨rfl, t1, t2, t3, l1, l2, l3⟩ := h
  have BA := hide ((Below.refl _ w).alloc (Nat.le_refl _) (.cells #[.int .i64 s, .slice a1 y1.length c1, .slice a2 y2.length c2, .slice a3 y3.length c3] 29) : Below w.heap.size w _)
  have R0 := heap_new w (.cells #[.int .i64 s, .slice a1 y1.length c1, .slice a2 y2.length c2, .slice a3 y3.length c3] 29)
  have q0 := cells_of R0 0
  have q1 := cells_of R0 1
  have q2 := cells_of R0 2
  have q3 := cells_of R0 3
  simp only [List.getElem?_toArray, List.getElem?_cons_zero, List.getElem?_cons_succ] at q0 q1 q2 q3
  have hT0 := hT.stay BA.out
  have T1 := t1.below BA.out
  have T2 := t2.below BA.out
  have T3 := t3.below BA.out
  have hlt : w.heap.size < (w.alloc (.cells #[.int .i64 s, .slice a1 y1.length c1, .slice a2 y2.length c2, .slice a3 y3.length c3] 29)).heap.size := by simp
  by_cases hk : kbs s = 0 ∨ 2 * y2.length ≠ kbs s
  · have HS := hide (seal_no s a1 a2 a3 y1.length c1 y2.length c2 y3.length c3 (w.alloc (.cells #[.int .i64 s, .slice a1 y1.length c1, .slice a2 y2.length c2, .slice a3 y3.length c3] 29)) hk)
    have HT0 := hide hT0
    generalize y1.length = N1 at *
    generalize y2.length = N2 at *
    generalize y3.length = N3 at *
    clear hk hT hT0 R0 T1 T2 T3 t1 t2 t3 l1 l2 l3 hy
    go_enter Tryd.func8, Tryd.ntmps8
    go_wp2_with (first
      | (go_at_call 13; refine HS.out.mono ?_; rintro e w1 ⟨rfl, hw⟩; obtain rfl := hw.symm; clear HS)
      | (go_at_call 10; refine (alive_c _ HT0.out).mono ?_; rintro e w3 ⟨rfl, b3⟩; have B3 := hide (BA.out.trans (b3.mono BA.out.size)); clear b3))
    go_ret
    exact ⟨rfl, B3.out⟩
  · obtain ⟨n, hn, hkn⟩ : ∃ n, (n = 4 ∨ n = 6 ∨ n = 8) ∧ kbs s = 4 * n := by
      rcases kbs_cases s with h0 | h0
      · exact absurd (.inl h0) hk
      · exact h0
    have hsl : y2.length = 2 * n := by omega
    have HS := hide (seal_c s n a1 a2 a3 c1 c2 c3 y1 y2 y3 (w.alloc (.cells #[.int .i64 s, .slice a1 y1.length c1, .slice a2 y2.length c2, .slice a3 y3.length c3] 29)) hn hkn T1.by_ T1.text T1.cap_ T1.most (by omega) T2.by_ T2.text T2.nil hsl T3.by_ T3.text (by omega) hT0)
    have HT0 := hide hT0
    have HZ := hide (sealL_long (kyL y1 y2 (4 * n)) y2 n y3)
    have HZ2 : Hid ((sealL (kyL y1 y2 (4 * n)) y2 n y3).length ≤ 140737488352000) := by
      have e := lkL_length (ks := kyL y1 y2 (4 * n)) (n := n) (kyL_length _ _ _)
      show (sealL (kyL y1 y2 (4 * n)) y2 n y3).length ≤ _
      simp only [sealL, List.length_append, e, insL_length, tagL_length]
      omega
    have HZB := hide (sealL_by (n := n) (kyL_by y1 y2 (4 * n)) (by omega) T2.by_ T3.by_)
    by_cases hgo : 0 ≤ x ∧ x ≤ 9 ∧ ¬ y = 0
    · obtain ⟨hx0, hx9, hy0⟩ := hgo
      obtain ⟨j, rfl⟩ := Int.eq_ofNat_of_zero_le hx0
      have hj : j ≤ 9 := by omega
      have HO : Hid (∀ (W : World) g c, Below (w.alloc (.cells #[.int .i64 s, .slice a1 y1.length c1, .slice a2 y2.length c2, .slice a3 y3.length c3] 29)).heap.size (w.alloc (.cells #[.int .i64 s, .slice a1 y1.length c1, .slice a2 y2.length c2, .slice a3 y3.length c3] 29)) W → g < W.heap.size → (∃ W0 cur, W = W0.setCell ⟨g, (sealL (kyL y1 y2 (4 * n)) y2 n y3).length - 1 - j, none⟩ (.int .u8 (((sealL (kyL y1 y2 (4 * n)) y2 n y3).getD ((sealL (kyL y1 y2 (4 * n)) y2 n y3).length - 1 - j) 0 ^^^ y : Nat) : Int)) ∧ W0.heap[g]? = some (.cells cur 5 (0, 0)) ∧ Bs W0 g 0 (sealL (kyL y1 y2 (4 * n)) y2 n y3) ∧ cur.size = c) → (sealL (kyL y1 y2 (4 * n)) y2 n y3).length ≤ c → c ≤ 9223372036854775807 → Calls Tryd.prog 15 #[.int .i64 s, .slice a1 y1.length c1, .slice (some ⟨g, 0, none⟩) (sealL (kyL y1 y2 (4 * n)) y2 n y3).length c] W (fun e w' => e = .returned (.tuple #[.slice none 0 0, .int .i64 132]) ∧ Below W.heap.size W w')) := by
        intro W g c hbw hg hW hc hcm
        obtain ⟨W0, cur, rfl, hh, hbs, hcs⟩ := hW
        have htl := tagL_length (sk2 (kyL y1 y2 (4 * n)) n) (insL (kyL y1 y2 (4 * n)) n y3)
        have hty := tagL_by (sk2 (kyL y1 y2 (4 * n)) n) (insL (kyL y1 y2 (4 * n)) n y3)
        have hll := lkL_length (ks := kyL y1 y2 (4 * n)) (n := n) (kyL_length _ _ _)
        have hzy := sealL_by (n := n) (kyL_by y1 y2 (4 * n)) (by omega) T2.by_ T3.by_
        have hil := insL_length (kyL y1 y2 (4 * n)) n y3
        unfold sealL at *
        generalize htg : tagL (sk2 (kyL y1 y2 (4 * n)) n) (insL (kyL y1 y2 (4 * n)) n y3) = tg at *
        have hpl : (y2 ++ lkL (kyL y1 y2 (4 * n)) n ++ insL (kyL y1 y2 (4 * n)) n y3 ++ tg).length - 1 - j = (y2 ++ lkL (kyL y1 y2 (4 * n)) n ++ insL (kyL y1 y2 (4 * n)) n y3).length + (9 - j) := by simp only [List.length_append, htl]; omega
        have hgd : (y2 ++ lkL (kyL y1 y2 (4 * n)) n ++ insL (kyL y1 y2 (4 * n)) n y3 ++ tg).getD ((y2 ++ lkL (kyL y1 y2 (4 * n)) n ++ insL (kyL y1 y2 (4 * n)) n y3).length + (9 - j)) 0 = tg.getD (9 - j) 0 := by
          simp only [List.getD]
          rw [List.getElem?_append_right (by omega), Nat.add_sub_cancel_left]
        rw [hpl, hgd] at hbw ⊢
        have hb2 := set_bs (v := tg.getD (9 - j) 0 ^^^ y) hh hbs (show 9 - j < tg.length by omega) (by omega)
        have hlen : (y2 ++ lkL (kyL y1 y2 (4 * n)) n ++ insL (kyL y1 y2 (4 * n)) n y3 ++ tg).length = (y2 ++ lkL (kyL y1 y2 (4 * n)) n ++ insL (kyL y1 y2 (4 * n)) n y3 ++ tg.set (9 - j) (tg.getD (9 - j) 0 ^^^ y)).length := by simp
        rw [hlen] at hc ⊢
        have hby : By (y2 ++ lkL (kyL y1 y2 (4 * n)) n ++ insL (kyL y1 y2 (4 * n)) n y3 ++ tg.set (9 - j) (tg.getD (9 - j) 0 ^^^ y)) := fun z hz => by
          rcases List.mem_append.1 hz with hz | hz
          · exact hzy z (List.mem_append_left _ hz)
          · rcases List.mem_or_eq_of_mem_set hz with hz | rfl
            · exact hty z hz
            · exact xor8_lt (hty.getD _) hy
        rw [hpl, hgd] at hg
        refine (open_at s n a1 c1 g 0 c y1 y2 _ _ _ _ hn hkn T1.by_ (T1.text.below hbw) T1.cap_ T1.most (by omega) hby hg hb2 hsl hll (by simp [htl]) (by rw [hil]; omega) hc hcm (hT0.stay hbw)).mono ?_
        rintro e w' ⟨hbw', h⟩
        rw [if_pos rfl, htg, if_neg (set_ne (by omega) hy0)] at h
        exact ⟨h, hbw'⟩
      generalize sealL (kyL y1 y2 (4 * n)) y2 n y3 = zs at HS HO HZ HZ2 HZB
      generalize y1.length = N1 at *
      generalize y2.length = N2 at *
      generalize y3.length = N3 at *
      have hyb : ((y : Int) == 0) = false := by simpa using hy0
      have hx1 : ¬ (j : Int) < 0 := by omega
      have hx2 : ¬ (9 : Int) < (j : Int) := by omega
      clear hk hT hT0 R0 T1 T2 T3 t1 t2 t3 l1 l2 l3 hn hkn hsl hx0 hx9 hy0
      go_enter Tryd.func8, Tryd.ntmps8
      go_upto_region 2 with (go_at_call 13; refine HS.out.mono ?_; rintro e w1 ⟨v, rfl, o1, b1⟩; have O1 := hide o1; have B1 := hide b1; clear b1 o1)
      obtain ⟨g, c, cur, rfl, hgb, hg, hh, hbs, hc, hcm, hcs⟩ := own_row O1.out (Nat.le_trans (by decide) HZ.out)
      have z1 := HZ.out
      have z2 := HZ2.out
      obtain ⟨Z, hZ⟩ : ∃ Z, Z = zs.length := ⟨_, rfl⟩
      obtain ⟨I, hI⟩ : ∃ I, I = Z - 1 - j := ⟨_, rfl⟩
      rw [← hZ, ← hI] at HO
      rw [← hZ] at hc z1 z2 ⊢
      have hII : (Z : Int) - 1 - (j : Int) = (I : Int) := by omega
      have hIZ : (I : Int) < (Z : Int) := by omega
      have hI0 : (0 : Int) ≤ (I : Int) := by omega
      have hIl : I < zs.length := by omega
      have cI : w1.cell? ⟨g, I, none⟩ = some (.int .u8 (zs.getD I 0 : Nat)) := by have := hbs I hIl; rwa [Nat.zero_add] at this
      have fI := free_of hh I
      have hzb : zs.getD I 0 < 256 := HZB.out.getD I
      have hxr := xor8 (zs.getD I 0) y hzb hy
      have hZ10 : ¬ (Z : Int) < 10 := by omega
      have K1 : Kept (fun k => k = g) w1 (w1.setCell ⟨g, I, none⟩ (.int .u8 ((zs.getD I 0 ^^^ y : Nat) : Int))) := (Kept.refl (fun k => k = g) w1).setCell (p := ⟨g, I, none⟩) (fun _ => rfl) _
      have B2 := hide (B1.out.trans (K1.below B1.out.size (fun i hi e => by omega)))
      have HO1 := hide (HO.out _ g c B2.out (Nat.lt_of_lt_of_le hg K1.size) ⟨w1, cur, rfl, hh, hbs, hcs⟩ hc hcm)
      have hlt1 : w.heap.size < w1.heap.size := Nat.lt_of_lt_of_le hlt B1.out.size
      have hgn : ¬ w.heap.size = g := by omega
      have d0 := (B2.out.cell (p := ⟨w.heap.size, 0, none⟩) hlt).trans q0
      have d1 := (B2.out.cell (p := ⟨w.heap.size, 1, none⟩) hlt).trans q1
      have HT2 := hide (HT0.out.stay B2.out)
      have BB2 := hide (BA.out.trans (B2.out.mono BA.out.size))
      generalize zs.getD I 0 ^^^ y = X2 at *
      generalize zs.getD I 0 = X at *
      clear HS HO O1 hbs HZ HZ2 HZB q0 q1 q2 q3 HT0 BA B1 hcm hcs hh hgb K1 hZ hI hIl
      go_upto_region 7 with fail
      generalize w1.setCell ⟨g, I, none⟩ (.int .u8 (X2 : Int)) = w2 at *
      go_wp2_with (first
        | (go_at_call 15; refine HO1.out.mono ?_; rintro e w3 ⟨rfl, b3⟩; have HT3 := hide (HT2.out.stay b3); have BB3 := hide (BB2.out.trans (b3.mono BB2.out.size)); clear b3 HO1)
        | (go_at_call 10; refine (alive_c _ HT3.out).mono ?_; rintro e w4 ⟨rfl, b4⟩; have B4 := hide (BB3.out.trans (b4.mono BB3.out.size)); clear b4))
      go_ret
      exact ⟨rfl, B4.out⟩
    · generalize sealL (kyL y1 y2 (4 * n)) y2 n y3 = zs at HS HZ HZ2 HZB
      generalize y1.length = N1 at *
      generalize y2.length = N2 at *
      generalize y3.length = N3 at *
      clear hk hT hT0 R0 T1 T2 T3 t1 t2 t3 l1 l2 l3 hn hkn hsl HZ HZ2 HZB hlt
      have fin : Hid (∀ w1, Below (w.alloc (.cells #[.int .i64 s, .slice a1 N1 c1, .slice a2 N2 c2, .slice a3 N3 c3] 29)).heap.size (w.alloc (.cells #[.int .i64 s, .slice a1 N1 c1, .slice a2 N2 c2, .slice a3 N3 c3] 29)) w1 → Calls Tryd.prog 10 #[] w1 (fun e w' => e = .returned (.bool true) ∧ Below w.heap.size w w')) := fun w1 hb => (alive_c w1 (HT0.out.stay hb)).mono fun e w' ⟨he, b⟩ => ⟨he, (BA.out.trans (hb.mono BA.out.size)).trans (b.mono (Nat.le_trans BA.out.size hb.size))⟩
      by_cases p1 : x < 0
      · clear hgo
        go_enter Tryd.func8, Tryd.ntmps8
        go_wp2_with (first
          | (go_at_call 13; refine HS.out.mono ?_; rintro e w1 ⟨v, rfl, o1, b1⟩; have HA := hide (fin.out w1 b1); clear b1 o1)
          | (go_at_call 10; refine HA.out.mono ?_; rintro e w4 ⟨rfl, b4⟩; have B4 := hide b4; clear b4))
        go_ret
        exact ⟨rfl, B4.out⟩
      · by_cases p2 : 9 < x
        · clear hgo
          go_enter Tryd.func8, Tryd.ntmps8
          go_wp2_with (first
            | (go_at_call 13; refine HS.out.mono ?_; rintro e w1 ⟨v, rfl, o1, b1⟩; have HA := hide (fin.out w1 b1); clear b1 o1)
            | (go_at_call 10; refine HA.out.mono ?_; rintro e w4 ⟨rfl, b4⟩; have B4 := hide b4; clear b4))
          go_ret
          exact ⟨rfl, B4.out⟩
        · have p3 : y = 0 := by omega
          have p4 : ((y : Int) == 0) = true := by rw [p3]; rfl
          clear hgo p3
          go_enter Tryd.func8, Tryd.ntmps8
          go_wp2_with (first
            | (go_at_call 13; refine HS.out.mono ?_; rintro e w1 ⟨v, rfl, o1, b1⟩; have HA := hide (fin.out w1 b1); clear b1 o1)
            | (go_at_call 10; refine HA.out.mono ?_; rintro e w4 ⟨rfl, b4⟩; have B4 := hide b4; clear b4))
          go_ret
          exact ⟨rfl, B4.out⟩
end Go.Proofs.YtgamfpgejkhbcaaDoor.S
