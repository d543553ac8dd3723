/- The reference's Least: the tallies of tokens, and the least cost of each. -/
import Derived.Test.YtlakgbckopjelaaGreatDoorDFewQ
import Derived.Test.YtlakgbckopjelaaGreatDoorLQLeast
namespace Go.Proofs.YtlakgbckopjelaaGreatDoor
set_option maxRecDepth 100000
open Go Go.RowKit

/-- The marks so far, the end's first. -/
def mst (ts : List M.Tk) (i : Nat) : List (Bool × Mk) := [(false, (256, 0, 0))] ++ tms (ts.take i)
theorem mst_succ {ts : List M.Tk} {i : Nat} (h : i < ts.length) : mst ts (i + 1) = mst ts i ++ tmk (M.tk ts i) := by
  unfold mst; rw [tms_take h, List.append_assoc]
theorem tly_comm (b : Bool) (n : Nat) (x y : List (Bool × Mk)) : tly b n (x ++ y) = tly b n (y ++ x) := by
  unfold tly
  apply List.map_congr_left
  intro s _
  rw [List.countP_append, List.countP_append, Nat.add_comm]
theorem mst_all (b : Bool) (n : Nat) (ts : List M.Tk) : tly b n (mst ts ts.length) = tly b n (emk ts) := by
  unfold mst emk
  rw [List.take_length, tly_comm]
theorem mst_len (ts : List M.Tk) (i : Nat) : (mst ts i).length ≤ 2 * ts.length + 1 := by
  have h := tms_len (ts.take i)
  have h2 : (ts.take i).length ≤ ts.length := by rw [List.length_take]; omega
  unfold mst
  rw [List.length_append, List.length_singleton]
  omega
/-- Two rows of numbers, the first two blocks of a call's own. -/
structure LSt (w wx : World) (A B : List Int) : Prop where
  a : wx.heap[w.heap.size]? = some (.cells (valA A) 3 (0, 0))
  b : wx.heap[w.heap.size + 1]? = some (.cells (valA B) 3 (0, 0))
  bel : Below w.heap.size w wx
theorem LSt.drew {w wx : World} {A B : List Int} (h : LSt w wx A B) : LSt w wx.drew A B := ⟨h.a, h.b, h.bel.drew⟩
theorem LSt.setA {w wx : World} {A B : List Int} (h : LSt w wx A B) (v : Nat) (x : Int) : LSt w (wx.setCell ⟨w.heap.size, v, none⟩ (.int .i64 x)) (A.set v x) B := by
  have k := Kept.setCell (M := fun b => b = w.heap.size) (Kept.refl _ wx) (p := ⟨w.heap.size, v, none⟩) (fun _ => rfl) (.int .i64 x)
  refine ⟨by rw [set_of h.a v, valA_set], k.heap h.b (by omega), h.bel.trans (k.below h.bel.size (fun i hi e => by omega))⟩
theorem LSt.setB {w wx : World} {A B : List Int} (h : LSt w wx A B) (v : Nat) (x : Int) : LSt w (wx.setCell ⟨w.heap.size + 1, v, none⟩ (.int .i64 x)) A (B.set v x) := by
  have k := Kept.setCell (M := fun b => b = w.heap.size + 1) (Kept.refl _ wx) (p := ⟨w.heap.size + 1, v, none⟩) (fun _ => rfl) (.int .i64 x)
  refine ⟨k.heap h.a (by omega), by rw [set_of h.b v, valA_set], h.bel.trans (k.below h.bel.size (fun i hi e => by omega))⟩
theorem LSt.stay {w wx wy : World} {A B : List Int} (h : LSt w wx A B) (k : Below wx.heap.size wx wy) : LSt w wy A B := ⟨(k.block _ (lt_of_block h.a)).trans h.a, (k.block _ (lt_of_block h.b)).trans h.b, h.bel.trans (k.mono h.bel.size)⟩
theorem LSt.new (w : World) (A B : List Int) : LSt w ((w.alloc (.cells (valA A) 3)).alloc (.cells (valA B) 3)) A B := by
  refine ⟨heap_old (heap_new w _), ?_, ((Below.refl _ w).alloc (Nat.le_refl _) _).alloc (by simp) _⟩
  have := heap_new (w.alloc (.cells (valA A) 3)) (.cells (valA B) 3)
  simpa using this
theorem alw_tly (b : Bool) (n : Nat) (ms : List (Bool × Mk)) (h : ms.length ≤ 1000000) (hn : n ≤ 320) : L.Alw (tly b n ms) 15 := ⟨by rw [tly_length]; exact hn, by decide, by decide, fun i _ => by
  have := tly_le b n ms i
  exact ⟨this.1, Int.le_trans this.2 (by omega)⟩⟩
/-- What Least tells of counts for which F are the lengths. -/
def lstV (ls F : List Int) : Int := ((L.cst (L.zOf ls F (L.occ ls ls.length)) : Nat) : Int)
set_option maxHeartbeats 4000000 in
theorem q8Least_c (ta : Option Addr) (ct : Nat) (ts : List M.Tk) (w : World) (hT : M.Toks w ta ts) (hok : TOk ts) (hl : ts.length ≤ 600) (FS FD : List Int) (hS : L.LGoodR (tly false 286 (emk ts)) 15 FS) (hD : L.LGoodR (tly true 30 (emk ts)) 15 FD) :
    Calls Tryz.prog 21 #[.slice ta ts.length ct] w fun e w' => e = .returned (.tuple #[.int .i64 (lstV (tly false 286 (emk ts)) FS), .int .i64 (lstV (tly true 30 (emk ts)) FD)]) ∧ Below w.heap.size w w' := by
  obtain ⟨i0, hi0, hz0, hz1, hz2⟩ := info_parts Tryz.info3
  have hmk : ∀ W : World, (Instr.makeSlice 32 (.int .i64 286) (.int .i64 286)).run Tryz.prog W = .ok (.slice (some ⟨W.heap.size, 0, none⟩) 286 286) (W.alloc (.cells (valA (List.replicate 286 0)) 3)) := made_ints 286 i0 hi0 hz0 hz1 hz2 (by decide)
  have hmk2 : ∀ W : World, (Instr.makeSlice 32 (.int .i64 30) (.int .i64 30)).run Tryz.prog W = .ok (.slice (some ⟨W.heap.size, 0, none⟩) 30 30) (W.alloc (.cells (valA (List.replicate 30 0)) 3)) := made_ints 30 i0 hi0 hz0 hz1 hz2 (by decide)
  have HT := hide hT
  have HOK := hide hok
  have HA1 : Hid (∀ W, LSt w W (tly false 286 (emk ts)) (tly true 30 (emk ts)) → Calls Tryz.prog 43 #[.slice (some ⟨w.heap.size, 0, none⟩) 286 286, .int .i64 15] W fun e w' => e = .returned (.int .i64 (lstV (tly false 286 (emk ts)) FS)) ∧ LSt w w' (tly false 286 (emk ts)) (tly true 30 (emk ts))) := fun W hW => by
    have hml := emk_len ts
    have := L.least_c W.heap.size (some ⟨w.heap.size, 0, none⟩) 286 (tly false 286 (emk ts)) FS 15 W (by rw [tly_length]; omega) (ints_at hW.a |>.wide (Nat.zero_le _) (lt_of_block hW.a)) (alw_tly _ _ _ (by omega) (by omega)) hS
    rw [tly_length] at this
    exact this.mono fun e w' h => ⟨h.1, hW.stay h.2⟩
  have HA2 : Hid (∀ W, LSt w W (tly false 286 (emk ts)) (tly true 30 (emk ts)) → Calls Tryz.prog 43 #[.slice (some ⟨w.heap.size + 1, 0, none⟩) 30 30, .int .i64 15] W fun e w' => e = .returned (.int .i64 (lstV (tly true 30 (emk ts)) FD)) ∧ LSt w w' (tly false 286 (emk ts)) (tly true 30 (emk ts))) := fun W hW => by
    have hml := emk_len ts
    have := L.least_c W.heap.size (some ⟨w.heap.size + 1, 0, none⟩) 30 (tly true 30 (emk ts)) FD 15 W (by rw [tly_length]; omega) (ints_at hW.b |>.wide (Nat.zero_le _) (lt_of_block hW.b)) (alw_tly _ _ _ (by omega) (by omega)) hD
    rw [tly_length] at this
    exact this.mono fun e w' h => ⟨h.1, hW.stay h.2⟩
  have HALL : Hid (tly false 286 (mst ts ts.length) = tly false 286 (emk ts) ∧ tly true 30 (mst ts ts.length) = tly true 30 (emk ts)) := ⟨mst_all _ _ _, mst_all _ _ _⟩
  generalize tly false 286 (emk ts) = EA at HA1 HA2 HALL ⊢
  generalize tly true 30 (emk ts) = EB at HA1 HA2 HALL ⊢
  generalize lstV EA FS = VA at HA1 ⊢
  generalize lstV EB FD = VB at HA2 ⊢
  have HS0 : Hid (LSt w ((w.alloc (.cells ((valA (List.replicate 286 0)).setIfInBounds 256 (.int .i64 1)) 3)).alloc (.cells (valA (List.replicate 30 0)) 3)) (tly false 286 (mst ts 0)) (tly true 30 (mst ts 0))) := hide (by
    have h := LSt.new w ((List.replicate 286 (0 : Int)).set 256 1) (List.replicate 30 0)
    have e1 : tly false 286 (mst ts 0) = (List.replicate 286 (0 : Int)).set 256 1 := by
      have := tly_set false 286 [] (256, 0, 0) (by decide)
      rw [tly_nil] at this
      simpa [mst, tms, ln] using this
    have e2 : tly true 30 (mst ts 0) = List.replicate 30 (0 : Int) := by
      have := tly_other true false 30 [] (256, 0, 0) (by decide)
      rw [tly_nil] at this
      simpa [mst, tms] using this
    rw [e1, e2, valA_set]
    exact h)
  have q0 : ((w.alloc (.cells (valA (List.replicate 286 0)) 3)).alloc (.cells (valA (List.replicate 30 0)) 3)).cell? ⟨w.heap.size, 256, none⟩ = some (.int .i64 0) := by
    rw [cells_of (LSt.new w _ _).a 256, valA_at _ (by simp)]; simp [ln]
  have q1 := free_of (LSt.new w (List.replicate 286 0) (List.replicate 30 0)).a 256
  have q2 : w.heap.size < ((w.alloc (.cells (valA (List.replicate 286 0)) 3)).alloc (.cells (valA (List.replicate 30 0)) 3)).heap.size := by simp; omega
  clear hT hok hS hD
  generalize List.replicate 286 (0 : Int) = R1 at hmk q0 q1 q2 HS0
  generalize List.replicate 30 (0 : Int) = R2 at hmk2 q0 q1 q2 HS0
  go_enter Tryz.func21, Tryz.ntmps21
  go_wp2_with fail
  generalize ((w.alloc (.cells ((valA R1).setIfInBounds 256 (.int .i64 1)) 3)).alloc (.cells (valA R2) 3)) = w0 at HS0 ⊢
  clear q0 q1 q2 hmk hmk2
  go_loopg [6] ts.length (fun gk v6 wx => ∃ i : Nat, i + gk = ts.length ∧ v6 = .int .i64 i ∧ Hid (LSt w wx (tly false 286 (mst ts i)) (tly true 30 (mst ts i))))
  case atStart => exact ⟨0, by omega, rfl, HS0.out⟩
  case round =>
    obtain ⟨i, hig, rfl, HS⟩ := hrel
    clear HS0
    cases gk with
    | zero =>
      have hge : ¬ (i : Int) < (ts.length : Int) := by omega
      obtain rfl : i = ts.length := by omega
      rw [HALL.out.1, HALL.out.2] at HS
      have H1 := hide (HA1.out _ HS.out)
      clear HALL HT HOK
      go_wp2_with (first
        | (go_at_call 43; refine H1.out.mono ?_; rintro e w1 ⟨rfl, s1⟩; have H2 := hide (HA2.out _ s1); clear s1 H1)
        | (go_at_call 43; refine H2.out.mono ?_; rintro e w2 ⟨rfl, s2⟩; have S2 := hide s2; clear s2 H2))
      exact bodyPost_ret (results_tmp2 rfl _ _ _) rfl ⟨rfl, S2.out.bel⟩
    | succ g1 =>
      have hlt : (i : Int) < (ts.length : Int) := by omega
      obtain ⟨b, off, rfl, hbl, c0, c1, c2⟩ := HT.out.three HS.out.bel (i := i) (by omega)
      have hok1 := HOK.out.at (i := i) (by omega)
      have HN : Hid (mst ts (i + 1) = mst ts i ++ tmk (M.tk ts i)) := mst_succ (by omega)
      have HML := hide (mst_len ts i)
      obtain ⟨t, ht⟩ : ∃ t, M.tk ts i = t := ⟨_, rfl⟩
      rw [ht] at c0 c1 c2 hok1 HN
      obtain ⟨Bb, Lg, Bk⟩ := t
      simp only at c0 c1 c2 hok1
      have HTC : Hid (∀ W, Below w.heap.size w W → W.cell? ⟨b, off + i * 3 + 2, none⟩ = some (.int .i64 Bk) ∧ b < W.heap.size) := fun W hW => by
        obtain ⟨b', off', e', hb', _, _, d2⟩ := HT.out.three hW (i := i) (by omega)
        simp only [Option.some.injEq, Addr.mk.injEq, and_true] at e'
        obtain ⟨rfl, rfl⟩ := e'
        rw [ht] at d2
        exact ⟨d2, hb'⟩
      clear ht
      by_cases h0 : Lg = 0
      · subst h0
        obtain ⟨v, rfl⟩ := Int.eq_ofNat_of_zero_le (show 0 ≤ Bb by omega)
        have hv : v < 286 := by omega
        have hN1 : mst ts (i + 1) = mst ts i ++ [(false, (v, 0, 0))] := by rw [HN.out]; simp [tmk]
        have HNA : Hid (tly false 286 (mst ts (i + 1)) = (tly false 286 (mst ts i)).set v (ln (tly false 286 (mst ts i)) v + 1)) := hide (by rw [hN1]; exact tly_set false 286 _ (v, 0, 0) hv)
        have HNB : Hid (tly true 30 (mst ts (i + 1)) = tly true 30 (mst ts i)) := hide (by rw [hN1]; exact tly_other true false 30 _ _ (by decide))
        have hx := tly_le false 286 (mst ts i) v
        have hlA := tly_length false 286 (mst ts i)
        have cA := cells_of HS.out.a v
        rw [valA_at _ (by rw [hlA]; exact hv)] at cA
        have fA := free_of HS.out.a v
        have hgs := lt_of_block HS.out.a
        generalize tly false 286 (mst ts i) = A at HS cA HNA hx hlA
        generalize tly true 30 (mst ts i) = B at HS HNB
        generalize ln A v = X at cA HNA hx
        have hml := HML.out
        have hX0 : 0 ≤ X := hx.1
        have hX1 : X ≤ 10000 := by have := hx.2; omega
        have hw1 : IntKind.i64.wrap (X + 1) = X + 1 := by rw [IntKind.wrap_i64]; omega
        have hw2 : IntKind.i64.wrap (v : Int) = (v : Int) := by rw [IntKind.wrap_i64]; omega
        have hv0 : (0 : Int) ≤ (v : Int) := by omega
        have hv1 : (v : Int) < 286 := by omega
        clear hN1 HN HML hx hlA HT HOK HALL HA1 HA2 hml
        go_upto_region 8 with fail
        go_cut [] (fun wx => LSt w wx (A.set v (X + 1)) B)
        case first =>
          go_region_with (fail)
          all_goals (go_wp2_with fail)
          all_goals go_meet
          all_goals exact (HS.out.setA v _).drew
        case rest =>
          have HS2 := hide hcut
          clear hcut cA fA HS c0 c1 c2
          go_wp2_with fail
          go_roundg g1
          case measure => omega
          case rel => exact ⟨i + 1, by omega, by go_num, by rw [HNA.out, HNB.out]; exact HS2.out⟩
      · have hr := hok1.resolve_left (fun e => h0 e.1)
        obtain ⟨hL3, hL258, hK1, hK2⟩ := hr
        obtain ⟨n, rfl⟩ := Int.eq_ofNat_of_zero_le (show 0 ≤ Lg by omega)
        obtain ⟨d, rfl⟩ := Int.eq_ofNat_of_zero_le (show 0 ≤ Bk by omega)
        have k1 := lmk_ok n (by omega)
        have k2 := bmk_ok d (by omega)
        have HQ1 : Hid (∀ W, Calls Tryz.prog 19 #[.int .i64 (n : Int)] W fun x w' => x = .returned (.int .i64 ((lmk n).1 : Int)) ∧ W = w') := fun W => (q8Long_c n W (by omega) (by omega)).mono fun _ _ h => ⟨h.1, h.2.symm⟩
        have HQ3 : Hid (∀ W, Calls Tryz.prog 20 #[.int .i64 (d : Int)] W fun x w' => x = .returned (.int .i64 ((bmk d).1 : Int)) ∧ W = w') := fun W => (q8Far_c d W (by omega) (by omega)).mono fun _ _ h => ⟨h.1, h.2.symm⟩
        have hs1 : (lmk n).1 < 286 := by omega
        have hq1 : (bmk d).1 < 30 := by omega
        have hN1 : mst ts (i + 1) = (mst ts i ++ [(false, lmk n)]) ++ [(true, bmk d)] := by
          have e : tmk (Bb, (n : Int), (d : Int)) = [(false, lmk n), (true, bmk d)] := by unfold tmk; rw [if_neg h0]; simp only [Int.toNat_natCast]
          rw [HN.out, e, List.append_assoc]; rfl
        have HNA : Hid (tly false 286 (mst ts (i + 1)) = (tly false 286 (mst ts i)).set (lmk n).1 (ln (tly false 286 (mst ts i)) (lmk n).1 + 1)) := hide (by rw [hN1, tly_other false true 286 _ _ (by decide)]; exact tly_set false 286 _ (lmk n) hs1)
        have HNB : Hid (tly true 30 (mst ts (i + 1)) = (tly true 30 (mst ts i)).set (bmk d).1 (ln (tly true 30 (mst ts i)) (bmk d).1 + 1)) := hide (by rw [hN1, tly_set true 30 _ (bmk d) hq1, tly_other true false 30 _ _ (by decide)])
        have hx := tly_le false 286 (mst ts i) (lmk n).1
        have hy := tly_le true 30 (mst ts i) (bmk d).1
        have hlA := tly_length false 286 (mst ts i)
        have hlB := tly_length true 30 (mst ts i)
        have cA := cells_of HS.out.a (lmk n).1
        rw [valA_at _ (by rw [hlA]; exact hs1)] at cA
        have fA := free_of HS.out.a (lmk n).1
        have hgs := lt_of_block HS.out.a
        have hgs2 := lt_of_block HS.out.b
        have hml := HML.out
        generalize tly false 286 (mst ts i) = A at HS cA HNA hx hlA
        generalize tly true 30 (mst ts i) = B at HS HNB hy hlB
        generalize (lmk n).1 = s at cA HNA hx HQ1 hs1 fA
        generalize (bmk d).1 = q at HNB hy HQ3 hq1
        generalize ln A s = X at cA HNA hx
        generalize hYY : ln B q = Y at HNB hy
        have HY := hide hYY
        have hX0 : 0 ≤ X := hx.1
        have hX1 : X ≤ 10000 := by have := hx.2; omega
        have hY0 : 0 ≤ Y := hy.1
        have hY1 : Y ≤ 10000 := by have := hy.2; omega
        have hw1 : IntKind.i64.wrap (X + 1) = X + 1 := by rw [IntKind.wrap_i64]; omega
        have hs0 : (0 : Int) ≤ (s : Int) := by omega
        have hs2 : (s : Int) < 286 := by omega
        have hnb : ((n : Int) == 0) = false := by simp; omega
        clear hN1 HN HML hx hy hlA HT HOK HALL HA1 HA2 hml k1 k2 hYY
        go_upto_region 9 with fail
        go_cut [] (fun wx => LSt w wx (A.set s (X + 1)) B)
        case first =>
          clear HNA HNB HY HQ3 HTC
          go_region_with (go_at_call 19; refine (HQ1.out _).mono ?_; rintro e w5 ⟨rfl, rfl⟩)
          all_goals (go_wp2_with fail)
          all_goals go_meet
          all_goals exact (HS.out.setA s _).drew
        case rest =>
          obtain ⟨t2, hbl2⟩ := HTC.out _ hcut.bel
          have cB := cells_of hcut.b q
          rw [valA_at _ (by rw [hlB]; exact hq1), HY.out] at cB
          have fB := free_of hcut.b q
          have hg1 := lt_of_block hcut.a
          have hg2 := lt_of_block hcut.b
          have hw3 : IntKind.i64.wrap (Y + 1) = Y + 1 := by rw [IntKind.wrap_i64]; omega
          have hq0 : (0 : Int) ≤ (q : Int) := by omega
          have hq2 : (q : Int) < 30 := by omega
          have HS2 := hide hcut
          clear hcut cA fA HS c0 c1 c2 hgs hgs2 HTC HY hlB hw1 hbl
          go_upto_region 10 with fail
          clear HQ1
          go_region_with (go_at_call 20; refine (HQ3.out _).mono ?_; rintro e w5 ⟨rfl, rfl⟩)
          all_goals (go_wp2_with fail)
          all_goals (go_roundg g1; (case measure => omega); (case rel => exact ⟨i + 1, by omega, by go_num, by rw [HNA.out, HNB.out]; exact (HS2.out.setB q _).drew⟩))
end Go.Proofs.YtlakgbckopjelaaGreatDoor
