/- Several texts, laid together: DSplit, DTok, DHead, MTok. -/
import Derived.Test.YtlakgbckopjelaaGreatDoorG08DPut
import Derived.BigQuiet
import Derived.Test.YtlakgbckopjelaaGreatDoorG07MMath
import Derived.Deep.WholeRow
import Derived.Deep.MidRow
import Derived.Laws.ResultCell
import Derived.Deep.LoopGhost
import Derived.BigRegion
import Derived.Laws.AppendOwnNone
import Derived.Deep.DeepCutAuto
import Derived.Deep.RegionWith
import Derived.Deep.RegionLaw
import Derived.Handy
/- split, longMark, backMark: contracts. -/
namespace Go.Proofs.YtlakgbckopjelaaGreatDoor
set_option maxRecDepth 100000
open Go Go.RowKit

/-- The steps of split. -/
theorem infoMk : (Tryz.prog.info? 94).map (·.size) = some 3 := by kernel_rfl
theorem split1_c (n : Nat) (hn : n < 65536) (w : World) :
    Calls Tryz.prog 108 #[.int .i64 (n : Int), .int .i64 1] w fun e w' => e = .returned (mkV (spl 1 n)) ∧ Below w.heap.size w w' := by
  obtain ⟨w0, hw0⟩ : ∃ w0, w0 = w.alloc (.cells #[.int .i64 0, .int .i64 0, .int .i64 0] 94) := ⟨_, rfl⟩
  have HW0 := hide hw0
  have HR : Hid (∀ f X : Nat, f < 20 → n / 2 ^ f = X → X < 4 → (∀ g, g < f → 4 ≤ n / 2 ^ g) → Ending.returned (.agg #[.int .i64 ((f : Int) * 2 + (X : Int)), .int .i64 (bits .and .i64 (n : Int) (wrap64 (wrap64 (2 ^ f) - 1))), .int .i64 (f : Int)]) = .returned (mkV (spl 1 n))) := fun f X h1 h2 h3 h4 => by
    have e := spf_is (k := 4) h1 (by omega) h4
    have hp := pow_pos' f
    have hq := pow_le_62 (n := f) (by omega)
    have e1 : wrap64 (wrap64 (2 ^ f) - 1) = 2 ^ f - 1 := by rw [wrap_pow (by omega)]; exact IntWalk.wrap64_in _ ⟨by omega, by omega⟩
    rw [e1, and_mask _ f (by omega)]
    unfold mkV spl
    rw [show 2 * 2 ^ 1 = 4 from rfl, e, h2]
    simp
  generalize spl 1 n = Y at HR ⊢
  go_enter Tryz.func108, Tryz.ntmps108
  go_upto_region 2 with fail
  go_loopg [5] 20 (fun gk v5 wx => ∃ f q : Nat, f + gk = 20 ∧ v5 = .int .i64 f ∧ Hid (∀ g, g < f → 4 ≤ n / 2 ^ g) ∧ wx = w0.drewN q)
  case atStart => exact ⟨0, 0, by omega, rfl, fun g hg => by omega, hw0.symm⟩
  case round =>
    obtain ⟨f, q, hfg, rfl, HG, rfl⟩ := hrel
    have h0f : (0 : Int) ≤ (f : Int) := by omega
    have hc : (n : Int) / 2 ^ f = ((n / 2 ^ f : Nat) : Int) := by simp
    have hb0 : (w0.drewN q).heap[w.heap.size]? = some (.cells #[.int .i64 0, .int .i64 0, .int .i64 0] 94 (0, 0)) := by rw [hw0]; exact heap_new w _
    have hbel : Below w.heap.size w (w0.drewN q) := by rw [hw0]; exact (Kept.of_below ((Below.refl w.heap.size w).alloc (Nat.le_refl _) _)).drewN q |>.below (Nat.le_refl _) (fun i hi e => by omega)
    have HQ : Hid (∀ nq, (w0.drewN q).drewN nq = w0.drewN (q + nq)) := fun nq => World.drewN_drewN _ _ _
    generalize w0.drewN q = w1 at hb0 hbel HQ ⊢
    have HB := hide hbel
    have HB0 := hide hb0
    clear hw0 hbel hb0
    obtain ⟨X, hX⟩ : ∃ X, n / 2 ^ f = X := ⟨_, rfl⟩
    have HX := hide hX
    rw [hX] at hc
    cases gk with
    | zero =>
      exfalso
      have h20 : f = 20 := by omega
      subst h20
      have := HG.out 19 (by omega)
      omega
    | succ gk =>
    by_cases hlt : X < 4
    · have hd : ¬ (4 : Int) ≤ (n : Int) / 2 ^ f := by omega
      clear hX
      go_upto_region 2 with fail
      go_quiet (fail)
      go_wp2_with fail
      have kb : (w1.drewN nq).heap[w.heap.size]? = some (.cells #[.int .i64 0, .int .i64 0, .int .i64 0] 94 (0, 0)) := HB0.out
      have kB : Below w.heap.size w (w1.drewN nq) := (Kept.of_below HB.out).drewN nq |>.below (Nat.le_refl _) (fun i hi e => by omega)
      generalize w1.drewN nq = w2 at kb kB ⊢
      have c0 := cells_of kb 0
      have c1 := cells_of kb 1
      have c2 := cells_of kb 2
      have f0 := free_of kb 0
      have f1 := free_of kb 1
      have f2 := free_of kb 2
      simp at c0 c1 c2
      have KB := hide kb
      have KL := hide kB
      clear kb kB
      go_region
      go_wp2_with fail
      have hfin := set_of (set_of (set_of KB.out 0 (.int .i64 ((f : Int) * 2 + (X : Int)))) 1 (.int .i64 (bits .and .i64 (n : Int) (wrap64 (wrap64 (2 ^ f) - 1))))) 2 (.int .i64 (f : Int))
      refine bodyPost_ret (results_cell_row rfl _ _ w.heap.size 94 #[.int .i64 ((f : Int) * 2 + (X : Int)), .int .i64 (bits .and .i64 (n : Int) (wrap64 (wrap64 (2 ^ f) - 1))), .int .i64 (f : Int)] (0, 0) _ (by rfl) hfin Tryz.underlying94 rfl infoMk) rfl ⟨?_, ?_⟩
      · exact HR.out f X (by omega) HX.out hlt HG.out
      · exact (((KL.out.setCell (Nat.le_refl _) _).setCell (Nat.le_refl _) _).setCell (Nat.le_refl _) _).drew
    · have hd : (4 : Int) ≤ (n : Int) / 2 ^ f := by omega
      clear hX
      go_upto_region 2 with fail
      go_quiet (fail)
      go_wp2_with fail
      go_roundg gk
      case measure => omega
      case rel =>
        refine ⟨f + 1, q + nq, by omega, by go_num, fun g hg => ?_, HQ.out nq⟩
        by_cases e : g = f
        · subst e; rw [HX.out]; omega
        · exact HG.out g (by omega)

theorem split2_c (n : Nat) (hn : n < 65536) (w : World) :
    Calls Tryz.prog 108 #[.int .i64 (n : Int), .int .i64 2] w fun e w' => e = .returned (mkV (spl 2 n)) ∧ Below w.heap.size w w' := by
  obtain ⟨w0, hw0⟩ : ∃ w0, w0 = w.alloc (.cells #[.int .i64 0, .int .i64 0, .int .i64 0] 94) := ⟨_, rfl⟩
  have HW0 := hide hw0
  have HR : Hid (∀ f X : Nat, f < 20 → n / 2 ^ f = X → X < 8 → (∀ g, g < f → 8 ≤ n / 2 ^ g) → Ending.returned (.agg #[.int .i64 ((f : Int) * 4 + (X : Int)), .int .i64 (bits .and .i64 (n : Int) (wrap64 (wrap64 (2 ^ f) - 1))), .int .i64 (f : Int)]) = .returned (mkV (spl 2 n))) := fun f X h1 h2 h3 h4 => by
    have e := spf_is (k := 8) h1 (by omega) h4
    have hp := pow_pos' f
    have hq := pow_le_62 (n := f) (by omega)
    have e1 : wrap64 (wrap64 (2 ^ f) - 1) = 2 ^ f - 1 := by rw [wrap_pow (by omega)]; exact IntWalk.wrap64_in _ ⟨by omega, by omega⟩
    rw [e1, and_mask _ f (by omega)]
    unfold mkV spl
    rw [show 2 * 2 ^ 2 = 8 from rfl, e, h2]
    simp
  generalize spl 2 n = Y at HR ⊢
  go_enter Tryz.func108, Tryz.ntmps108
  go_upto_region 2 with fail
  go_loopg [5] 20 (fun gk v5 wx => ∃ f q : Nat, f + gk = 20 ∧ v5 = .int .i64 f ∧ Hid (∀ g, g < f → 8 ≤ n / 2 ^ g) ∧ wx = w0.drewN q)
  case atStart => exact ⟨0, 0, by omega, rfl, fun g hg => by omega, hw0.symm⟩
  case round =>
    obtain ⟨f, q, hfg, rfl, HG, rfl⟩ := hrel
    have h0f : (0 : Int) ≤ (f : Int) := by omega
    have hc : (n : Int) / 2 ^ f = ((n / 2 ^ f : Nat) : Int) := by simp
    have hb0 : (w0.drewN q).heap[w.heap.size]? = some (.cells #[.int .i64 0, .int .i64 0, .int .i64 0] 94 (0, 0)) := by rw [hw0]; exact heap_new w _
    have hbel : Below w.heap.size w (w0.drewN q) := by rw [hw0]; exact (Kept.of_below ((Below.refl w.heap.size w).alloc (Nat.le_refl _) _)).drewN q |>.below (Nat.le_refl _) (fun i hi e => by omega)
    have HQ : Hid (∀ nq, (w0.drewN q).drewN nq = w0.drewN (q + nq)) := fun nq => World.drewN_drewN _ _ _
    generalize w0.drewN q = w1 at hb0 hbel HQ ⊢
    have HB := hide hbel
    have HB0 := hide hb0
    clear hw0 hbel hb0
    obtain ⟨X, hX⟩ : ∃ X, n / 2 ^ f = X := ⟨_, rfl⟩
    have HX := hide hX
    rw [hX] at hc
    cases gk with
    | zero =>
      exfalso
      have h20 : f = 20 := by omega
      subst h20
      have := HG.out 19 (by omega)
      omega
    | succ gk =>
    by_cases hlt : X < 8
    · have hd : ¬ (8 : Int) ≤ (n : Int) / 2 ^ f := by omega
      clear hX
      go_upto_region 2 with fail
      go_quiet (fail)
      go_wp2_with fail
      have kb : (w1.drewN nq).heap[w.heap.size]? = some (.cells #[.int .i64 0, .int .i64 0, .int .i64 0] 94 (0, 0)) := HB0.out
      have kB : Below w.heap.size w (w1.drewN nq) := (Kept.of_below HB.out).drewN nq |>.below (Nat.le_refl _) (fun i hi e => by omega)
      generalize w1.drewN nq = w2 at kb kB ⊢
      have c0 := cells_of kb 0
      have c1 := cells_of kb 1
      have c2 := cells_of kb 2
      have f0 := free_of kb 0
      have f1 := free_of kb 1
      have f2 := free_of kb 2
      simp at c0 c1 c2
      have KB := hide kb
      have KL := hide kB
      clear kb kB
      go_region
      go_wp2_with fail
      have hfin := set_of (set_of (set_of KB.out 0 (.int .i64 ((f : Int) * 4 + (X : Int)))) 1 (.int .i64 (bits .and .i64 (n : Int) (wrap64 (wrap64 (2 ^ f) - 1))))) 2 (.int .i64 (f : Int))
      refine bodyPost_ret (results_cell_row rfl _ _ w.heap.size 94 #[.int .i64 ((f : Int) * 4 + (X : Int)), .int .i64 (bits .and .i64 (n : Int) (wrap64 (wrap64 (2 ^ f) - 1))), .int .i64 (f : Int)] (0, 0) _ (by rfl) hfin Tryz.underlying94 rfl infoMk) rfl ⟨?_, ?_⟩
      · exact HR.out f X (by omega) HX.out hlt HG.out
      · exact (((KL.out.setCell (Nat.le_refl _) _).setCell (Nat.le_refl _) _).setCell (Nat.le_refl _) _).drew
    · have hd : (8 : Int) ≤ (n : Int) / 2 ^ f := by omega
      clear hX
      go_upto_region 2 with fail
      go_quiet (fail)
      go_wp2_with fail
      go_roundg gk
      case measure => omega
      case rel =>
        refine ⟨f + 1, q + nq, by omega, by go_num, fun g hg => ?_, HQ.out nq⟩
        by_cases e : g = f
        · subst e; rw [HX.out]; omega
        · exact HG.out g (by omega)

theorem backMark_c (d : Nat) (hd : 1 ≤ d ∧ d ≤ 32768) (w : World) :
    Calls Tryz.prog 94 #[.int .i64 (d : Int)] w fun e w' => e = .returned (mkV (bmk d)) ∧ Below w.heap.size w w' := by
  obtain ⟨n, rfl⟩ : ∃ n, d = n + 1 := ⟨d - 1, by omega⟩
  have he : ((n + 1 : Nat) : Int) - 1 = (n : Int) := by omega
  have HS := fun w => hide (split1_c n (by omega) w)
  have HM : Hid (spl 1 n = bmk (n + 1)) := rfl
  obtain ⟨⟨s, x, f⟩, hm⟩ : ∃ m, spl 1 n = m := ⟨_, rfl⟩
  rw [hm] at HS HM
  unfold mkV at HS
  rw [← HM.out]
  unfold mkV
  have HB0 : Hid (Below w.heap.size w (w.alloc (.cells #[.int .i64 0, .int .i64 0, .int .i64 0] 94))) := (Below.refl _ _).alloc (Nat.le_refl _) _
  have HH0 : Hid ((w.alloc (.cells #[.int .i64 0, .int .i64 0, .int .i64 0] 94)).heap[w.heap.size]? = some (.cells #[.int .i64 0, .int .i64 0, .int .i64 0] 94 (0, 0))) := heap_new w _
  clear hm HM
  go_enter Tryz.func94, Tryz.ntmps94
  go_wp2_with (go_at_call 108; refine (HS _).out.mono ?_; rintro e w1 ⟨rfl, b1⟩; have hb := (b1.block w.heap.size (by simp)).trans HH0.out; have HB := hide hb; have B1 := hide (HB0.out.trans (b1.mono HB0.out.size)); have c0 := cells_of hb 0; have c1 := cells_of hb 1; have c2 := cells_of hb 2; have f0 := free_of hb 0; have f1 := free_of hb 1; have f2 := free_of hb 2; simp at c0 c1 c2; clear hb b1)
  have hfin := set_of (set_of (set_of HB.out 0 (.int .i64 (s : Int))) 1 (.int .i64 (x : Int))) 2 (.int .i64 (f : Int))
  refine bodyPost_ret (results_cell_row rfl _ _ w.heap.size 94 #[.int .i64 (s : Int), .int .i64 (x : Int), .int .i64 (f : Int)] (0, 0) _ (by rfl) hfin Tryz.underlying94 rfl infoMk) rfl ⟨rfl, ?_⟩
  exact ((B1.out.setCell (Nat.le_refl _) _).setCell (Nat.le_refl _) _).setCell (Nat.le_refl _) _

theorem longMark_c (l : Nat) (hl : 3 ≤ l ∧ l ≤ 258) (w : World) :
    Calls Tryz.prog 93 #[.int .i64 (l : Int)] w fun e w' => e = .returned (mkV (lmk l)) ∧ Below w.heap.size w w' := by
  have HB0 : Hid (Below w.heap.size w (w.alloc (.cells #[.int .i64 0, .int .i64 0, .int .i64 0] 94))) := (Below.refl _ _).alloc (Nat.le_refl _) _
  have HH0 : Hid ((w.alloc (.cells #[.int .i64 0, .int .i64 0, .int .i64 0] 94)).heap[w.heap.size]? = some (.cells #[.int .i64 0, .int .i64 0, .int .i64 0] 94 (0, 0))) := heap_new w _
  by_cases h8 : l = 258
  · subst h8
    rw [show lmk 258 = (285, 0, 0) from rfl]
    unfold mkV
    have c0 := cells_of HH0.out 0
    have c1 := cells_of HH0.out 1
    have c2 := cells_of HH0.out 2
    have f0 := free_of HH0.out 0
    have f1 := free_of HH0.out 1
    have f2 := free_of HH0.out 2
    simp at c0 c1 c2
    go_enter Tryz.func93, Tryz.ntmps93
    go_wp2
    refine bodyPost_ret (results_cell_row rfl _ _ w.heap.size 94 #[.int .i64 285, .int .i64 0, .int .i64 0] (0, 0) _ (by rfl) (heap_new w _) Tryz.underlying94 rfl infoMk) rfl ⟨rfl, ?_⟩
    exact (Below.refl _ _).alloc (Nat.le_refl _) _
  · obtain ⟨n, rfl⟩ : ∃ n, l = n + 3 := ⟨l - 3, by omega⟩
    have he : ((n + 3 : Nat) : Int) - 3 = (n : Int) := by omega
    have hne : (((n + 3 : Nat) : Int) == 258) = false := by simp; omega
    have HS := fun w => hide (split2_c n (by omega) w)
    have hlm := lmk_ok (n + 3) hl
    have HM : Hid (lmk (n + 3) = (257 + (spl 2 n).1, (spl 2 n).2)) := if_neg h8
    obtain ⟨⟨s, x, f⟩, hm⟩ : ∃ m, spl 2 n = m := ⟨_, rfl⟩
    rw [HM.out] at hlm
    rw [hm] at HS HM hlm
    unfold mkV at HS
    rw [HM.out]
    unfold mkV
    simp only at hlm
    have hs : s ≤ 28 := by omega
    have hsum : (s : Int) + 257 = ((257 + s : Nat) : Int) := by omega
    clear hm HM hlm
    go_enter Tryz.func93, Tryz.ntmps93
    go_wp2_with (go_at_call 108; refine (HS _).out.mono ?_; rintro e w1 ⟨rfl, b1⟩; have hb := (b1.block w.heap.size (by simp)).trans HH0.out; have HB := hide hb; have B1 := hide (HB0.out.trans (b1.mono HB0.out.size)); have hlt := lt_of_block hb; have c0 := cells_of hb 0; have c1 := cells_of hb 1; have c2 := cells_of hb 2; have f0 := free_of hb 0; have f1 := free_of hb 1; have f2 := free_of hb 2; simp at c0 c1 c2; clear hb b1)
    have h0 := set_of (set_of (set_of HB.out 0 (.int .i64 (257 + (s : Int)))) 1 (.int .i64 (x : Int))) 2 (.int .i64 (f : Int))
    have hfin := (Below.heap_alloc _ (.cells #[.int .i64 (257 + (s : Int)), .int .i64 (x : Int), .int .i64 (f : Int)] 94) _ (lt_of_block h0)).trans h0
    refine bodyPost_ret (results_cell_row rfl _ _ w.heap.size 94 #[.int .i64 (257 + (s : Int)), .int .i64 (x : Int), .int .i64 (f : Int)] (0, 0) _ (by rfl) hfin Tryz.underlying94 rfl infoMk) rfl ⟨by simp, ?_⟩
    have b2 := ((B1.out.setCell (p := ⟨w.heap.size, 0, none⟩) (Nat.le_refl _) (.int .i64 (257 + (s : Int)))).setCell (p := ⟨w.heap.size, 1, none⟩) (Nat.le_refl _) (.int .i64 (x : Int))).setCell (p := ⟨w.heap.size, 2, none⟩) (Nat.le_refl _) (.int .i64 (f : Int))
    exact b2.alloc b2.size _
end Go.Proofs.YtlakgbckopjelaaGreatDoor

/- Tokens as bits, and blocks of them, read. Of no program. -/
namespace Go.Proofs.YtlakgbckopjelaaGreatDoor
set_option maxRecDepth 100000
open Go Go.RowKit

theorem iCpy_cpy (out : List Int) (d n : Nat) : iCpy out d n = M.cpy out d n := by
  induction n with
  | zero => rfl
  | succ n ih => rw [iCpy_succ, ih, M.cpy, M.cpy_length]; rfl
/-- A token's bits. -/
def tokB (S D : List Int) (t : M.Tk) : List Int := if t.2.1 = 0 then mkB S (t.1.toNat, 0, 0) else mkB S (lmk t.2.1.toNat) ++ mkB D (bmk t.2.2.toNat)
def datB (S D : List Int) (ts : List M.Tk) : List Int := ts.flatMap (tokB S D) ++ mkB S (256, 0, 0)
/-- A token's symbols have codes. -/
def THas (S D : List Int) (t : M.Tk) : Prop := (t.2.1 = 0 → Has S t.1.toNat) ∧ (¬ t.2.1 = 0 → Has S (lmk t.2.1.toNat).1 ∧ Has D (bmk t.2.2.toNat).1)
theorem datB_cons (S D : List Int) (t : M.Tk) (ts : List M.Tk) : datB S D (t :: ts) = tokB S D t ++ datB S D ts := by simp [datB]
theorem rt_at {pre ts : List M.Tk} {t : M.Tk} (h : M.Rt (pre ++ t :: ts)) : M.OkT (M.sm pre) t := by
  have := h pre.length (by simp)
  rwa [List.take_left', show M.tk (pre ++ t :: ts) pre.length = t by simp [M.tk, List.getD]] at this
  rfl
theorem tel_mono {pre ts : List M.Tk} (h : M.Rt (pre ++ ts)) : (M.tel pre).length ≤ (M.tel (pre ++ ts)).length := by
  have h1 := M.tel_length h
  have h2 := M.tel_length h.of_app
  induction ts generalizing pre with
  | nil => simp
  | cons t ts ih =>
    have e : pre ++ t :: ts = (pre ++ [t]) ++ ts := by simp
    rw [e] at h h1 ⊢
    have h3 := M.tel_length h.of_app
    have h4 := ih h h1 h3
    have h5 : ((M.tel (pre ++ [t])).length : Int) = (M.tel pre).length + M.tl t := by
      rw [M.tel_snoc]
      exact M.tel1_length _ (rt_at (pre := pre) (t := t) (ts := []) h.of_app)
    have h6 := (rt_at (pre := pre) (t := t) (ts := []) h.of_app).tl
    omega
theorem one_read {S D : List Int} (hS : Good S) (hD : Good D) {b : Nat → Nat} (hb : ∀ i, b i ≤ 1) {T most p : Nat} {pre : List M.Tk} {t : M.Tk} (hr : M.Rt (pre ++ [t])) (h8 : 0 ≤ t.1 ∧ t.1 ≤ 255) (hh : THas S D t) (h : BAt b T p (tokB S D t)) (hm : (M.tel (pre ++ [t])).length ≤ most) :
    iOne S D b T most p (M.tel pre) = .ok (p + (tokB S D t).length, (true, M.tel (pre ++ [t]))) ∧ 1 ≤ (tokB S D t).length := by
  have hok := rt_at hr
  have hlen := M.tel_length hr.of_app
  have hl1 : ((M.tel (pre ++ [t])).length : Int) = (M.tel pre).length + M.tl t := by
    rw [M.tel_snoc]
    exact M.tel1_length _ hok
  by_cases h0 : t.2.1 = 0
  · have hs := hh.1 h0
    have hl := hs.2
    have e : tokB S D t = mkB S (t.1.toNat, 0, 0) := if_pos h0
    rw [e] at h ⊢
    have hn := h.left.nx hS hb hs
    have htl : M.tl t = 1 := if_pos h0
    have := iOne_byte (D := D) (most := most) (out := M.tel pre) hn (by omega) (by omega)
    rw [this, mkB_length]
    refine ⟨?_, by show 1 ≤ (ln S t.1.toNat).toNat + 0; omega⟩
    rw [M.tel_snoc]
    unfold M.tel1
    rw [if_pos h0]
    have e1 : ((t.1.toNat : Nat) : Int) = t.1 := by omega
    simp only [Nat.add_zero, e1]
  · obtain ⟨hs, hd⟩ := hh.2 h0
    rcases hok with hok | ⟨_, k1, k2, k3, k4, k5⟩
    · exact absurd hok.1 h0
    have e : tokB S D t = mkB S (lmk t.2.1.toNat) ++ mkB D (bmk t.2.2.toNat) := if_neg h0
    rw [e] at h ⊢
    obtain ⟨l1, l2, l3, l4, l5, l6⟩ := lmk_ok t.2.1.toNat (by omega)
    obtain ⟨b1, b2, b3, b4, b5⟩ := bmk_ok t.2.2.toNat (by omega)
    obtain ⟨n1, n2⟩ := h.left.mark hS hb hs l5
    obtain ⟨d1, d2⟩ := h.right.mark hD hb hd b4
    have hl := hs.2
    refine ⟨?_, by rw [List.length_append, mkB_length]; omega⟩
    unfold iOne
    rw [iThen_of_ok n1]
    try simp only
    rw [if_neg (by omega), if_neg (by omega), if_neg (by omega), l3, iThen_of_ok n2]
    try simp only
    rw [iThen_of_ok d1]
    try simp only
    rw [if_neg (by omega), b2, iThen_of_ok d2]
    try simp only
    rw [l4, b3]
    have htl : M.tl t = t.2.1 := if_neg h0
    rw [if_neg (by omega), if_neg (by omega), iCpy_cpy, M.tel_snoc]
    unfold M.tel1
    rw [if_neg h0, List.length_append, Nat.add_assoc]
theorem dat_read {S D : List Int} (hS : Good S) (hD : Good D) {b : Nat → Nat} (hb : ∀ i, b i ≤ 1) {T most : Nat} (he : Has S 256) : ∀ (ts pre : List M.Tk) (p : Nat), M.Rt (pre ++ ts) → (∀ t ∈ ts, 0 ≤ t.1 ∧ t.1 ≤ 255) → (∀ t ∈ ts, THas S D t) → BAt b T p (datB S D ts) → (M.tel (pre ++ ts)).length ≤ most →
    iDat S D b T most p (M.tel pre) = .ok (p + (datB S D ts).length, M.tel (pre ++ ts)) := by
  intro ts
  induction ts with
  | nil =>
    intro pre p _ _ _ h _
    have e : datB S D [] = mkB S (256, 0, 0) := by simp [datB]
    rw [e] at h ⊢
    have hn := h.left.nx hS hb he
    have := iOne_end (D := D) (most := most) (out := M.tel pre) hn
    unfold iDat
    rw [iLoop_end this, mkB_length, List.append_nil]
    rfl
  | cons t ts ih =>
    intro pre p hr h8 hh h hm
    have e : pre ++ t :: ts = (pre ++ [t]) ++ ts := by simp
    rw [datB_cons] at h ⊢
    rw [e] at hr hm ⊢
    have hmo := tel_mono hr
    obtain ⟨h1, h2⟩ := one_read (most := most) hS hD hb hr.of_app (h8 t (by simp)) (hh t (by simp)) h.left (by omega)
    have h3 := ih (pre ++ [t]) (p + (tokB S D t).length) hr (fun x hx => h8 x (by simp [hx])) (fun x hx => hh x (by simp [hx])) h.right hm
    have hle := h.left.1
    unfold iDat at h3 ⊢
    rw [iLoop_on h1 (by omega) hle, h3, List.length_append, Nat.add_assoc]

/-- A row of bits is read as a block that tells tokens. -/
def Rds (L : List Int) (last : Bool) (ts : List M.Tk) : Prop := ∀ (b : Nat → Nat) (T most p : Nat) (pre : List M.Tk), (∀ i, b i ≤ 1) → BAt b T p L → M.Rt (pre ++ ts) → (∀ t ∈ ts, 0 ≤ t.1 ∧ t.1 ≤ 255) → (M.tel (pre ++ ts)).length ≤ most →
  iBlk b T most p (M.tel pre) = .ok (p + L.length, (!last, M.tel (pre ++ ts))) ∧ 1 ≤ L.length
/-- How a block begins. -/
def knd (last : Bool) (k : Nat) : List Int := bitsN (if last then 1 else 0) 1 ++ bitsN (k : Int) 2
theorem knd_length (last : Bool) (k : Nat) : (knd last k).length = 3 := by simp [knd, bitsN_length]
theorem rds_of {L : List Int} {last : Bool} {k : Nat} {ts : List M.Tk} (hk : k < 4) (h : ∀ (b : Nat → Nat) (T most p : Nat) (pre : List M.Tk), (∀ i, b i ≤ 1) → BAt b T p L → M.Rt (pre ++ ts) → (∀ t ∈ ts, 0 ≤ t.1 ∧ t.1 ≤ 255) → (M.tel (pre ++ ts)).length ≤ most → iKind b T most k p (M.tel pre) = .ok (p + L.length, M.tel (pre ++ ts))) :
    Rds (knd last k ++ L) last ts := by
  intro b T most p pre hb hB hr h8 hm
  refine ⟨?_, by simp [knd_length]; omega⟩
  have h1 := hB.left.left
  have h2 := hB.left.right
  have h3 := hB.right
  rw [knd_length] at h3
  rw [bitsN_length] at h2
  have t1 : iTk b T p 1 = .ok (p + 1, if last then 1 else 0) := by
    cases last
    · exact BAt.tk (x := 0) h1 (by decide)
    · exact BAt.tk (x := 1) h1 (by decide)
  have t2 := BAt.tk h2 (by omega : k < 2 ^ 2)
  have hK := h b T most (p + 3) pre hb h3 hr h8 hm
  unfold iBlk
  rw [iThen_of_ok t1]
  try simp only
  rw [iThen_of_ok t2]
  try simp only
  rw [show p + 1 + 2 = p + 3 by omega, iThen_of_ok hK, List.length_append, knd_length]
  try simp only
  cases last <;> simp [Nat.add_assoc]
theorem rds_fixed (last : Bool) {ts : List M.Tk} (hg : Good iFix) (hf : Good iFive) (he : Has iFix 256) (hh : ∀ t ∈ ts, THas iFix iFive t) : Rds (knd last 1 ++ datB iFix iFive ts) last ts := by
  refine rds_of (by decide) fun b T most p pre hb hB hr h8 hm => ?_
  unfold iKind
  rw [if_neg (by decide), if_pos rfl]
  exact dat_read hg hf hb he ts pre p hr h8 hh hB hm
theorem rds_dynamic (last : Bool) {ts : List M.Tk} {S D H : List Int} (hg : Good S) (hf : Good D) (he : Has S 256) (hh : ∀ t ∈ ts, THas S D t) (hH : ∀ (b : Nat → Nat) (T p : Nat), (∀ i, b i ≤ 1) → BAt b T p H → iHdr b T p = .ok (p + H.length, (S, D))) : Rds (knd last 2 ++ (H ++ datB S D ts)) last ts := by
  refine rds_of (by decide) fun b T most p pre hb hB hr h8 hm => ?_
  unfold iKind
  rw [if_neg (by decide), if_neg (by decide), if_pos rfl, iThen_of_ok (hH b T p hb hB.left)]
  try simp only
  rw [dat_read hg hf hb he ts pre _ hr h8 hh hB.right hm, List.length_append, Nat.add_assoc]

/-- Blocks, one behind the other: the last one says that it is. -/
def RdsAll : List (List Int × List M.Tk) → Prop
  | [] => False
  | [x] => Rds x.1 true x.2
  | x :: y :: r => Rds x.1 false x.2 ∧ RdsAll (y :: r)
theorem loop_read {b : Nat → Nat} {T most : Nat} (hb : ∀ i, b i ≤ 1) : ∀ (xs : List (List Int × List M.Tk)) (pre : List M.Tk) (p : Nat), RdsAll xs → BAt b T p (xs.flatMap (·.1)) → M.Rt (pre ++ xs.flatMap (·.2)) → (∀ t ∈ xs.flatMap (·.2), 0 ≤ t.1 ∧ t.1 ≤ 255) → (M.tel (pre ++ xs.flatMap (·.2))).length ≤ most →
    iLoop T (iBlk b T most) p (M.tel pre) = .ok (p + (xs.flatMap (·.1)).length, M.tel (pre ++ xs.flatMap (·.2))) := by
  intro xs
  induction xs with
  | nil => intro pre p h; exact h.elim
  | cons x r ih =>
    intro pre p h hB hr h8 hm
    cases r with
    | nil =>
      simp only [List.flatMap_cons, List.flatMap_nil, List.append_nil] at hB hr h8 hm ⊢
      have := (h b T most p pre hb hB hr h8 hm).1
      rw [iLoop_end this]
    | cons y r =>
      obtain ⟨h1, h2⟩ := h
      rw [List.flatMap_cons] at hB hr h8 hm ⊢
      rw [List.flatMap_cons (f := fun x : List Int × List M.Tk => x.2)] at hr h8 hm ⊢
      rw [← List.append_assoc] at hr hm ⊢
      have hmo := tel_mono hr
      have hx := h1 b T most p pre hb hB.left hr.of_app (fun t ht => h8 t (List.mem_append_left _ ht)) (by omega)
      have hle := hB.left.1
      rw [iLoop_on hx.1 (by omega) hle, ih (pre ++ x.2) (p + x.1.length) h2 hB.right hr (fun t ht => h8 t (List.mem_append_right _ ht)) hm, List.length_append, Nat.add_assoc]
theorem ib_data (L : List Int) (h : Bin L) (i : Nat) (hi : i < L.length) : (ib (dataL L) i : Int) = ln L i := by
  have h1 := data_bitAt L h i hi
  unfold bitAt at h1
  have h2 := dataL_bytes L h (i / 8)
  unfold ib ln
  rw [← h1]
  have : 0 ≤ (dataL L).getD (i / 8) 0 / 2 ^ (i % 8) % 2 := by omega
  omega
/-- A stream of such blocks is read as all that they tell. -/
theorem ans_blocks (xs : List (List Int × List M.Tk)) (hx : RdsAll xs) (hB : Bin (xs.flatMap (·.1))) (hr : M.Rt (xs.flatMap (·.2))) (h8 : ∀ t ∈ xs.flatMap (·.2), 0 ≤ t.1 ∧ t.1 ≤ 255) (most : Nat) (hm : (M.tel (xs.flatMap (·.2))).length ≤ most) :
    iAns (dataL (xs.flatMap (·.1))) most = (M.tel (xs.flatMap (·.2)), (dataL (xs.flatMap (·.1))).length, 0) := by
  have hd := dataL_length (xs.flatMap (·.1))
  have := loop_read (b := ib (dataL (xs.flatMap (·.1)))) (T := 8 * (dataL (xs.flatMap (·.1))).length) (most := most) (ib_le _) xs [] 0 hx ⟨by omega, fun i hi => by rw [Nat.zero_add]; exact ib_data _ hB i hi⟩ (by simpa using hr) h8 (by simpa using hm)
  unfold iAns iInf
  rw [show ([] : List Int) = M.tel [] from rfl, this]
  simp only [iRes, List.nil_append]
  congr 2
  omega
end Go.Proofs.YtlakgbckopjelaaGreatDoor

/- What a dynamic block says of its codes: written, and read. Of no program. -/
namespace Go.Proofs.YtlakgbckopjelaaGreatDoor
set_option maxRecDepth 100000
open Go Go.RowKit

/-- How many are like the first one. -/
def sam (xs : List Int) : Nat := 1 + (xs.drop 1).findIdx (fun y => !(y == ln xs 0))
/-- The number for as many times as one can stand for, and how many these are. -/
def agn (x t : Nat) : Mk × Nat := if t < 3 then ((x, 0, 0), 1) else if 0 < x then ((16, min t 6 - 3, 2), min t 6) else if t < 11 then ((17, t - 3, 3), t) else ((18, min t 138 - 11, 7), min t 138)
set_option linter.unusedVariables false
theorem agn_pos (x t : Nat) (h : 0 < t) : 1 ≤ (agn x t).2 ∧ (agn x t).2 ≤ t := by
  unfold agn
  split
  · omega
  · split
    · omega
    · split <;> (try simp only) <;> omega
def rep (x t : Nat) : List Mk := if h : 0 < t then (agn x t).1 :: rep x (t - (agn x t).2) else []
termination_by t
decreasing_by have := agn_pos x t h; omega
theorem rep_zero (x : Nat) : rep x 0 = [] := by rw [rep, dif_neg (by decide)]
theorem rep_pos (x t : Nat) (h : 0 < t) : rep x t = (agn x t).1 :: rep x (t - (agn x t).2) := by rw [rep, dif_pos h]
/-- Lengths as numbers. -/
def inN (xs : List Int) : List Mk := if h : 0 < xs.length then (if 0 < ln xs 0 then ((ln xs 0).toNat, 0, 0) :: rep (ln xs 0).toNat (sam xs - 1) else rep 0 (sam xs)) ++ inN (xs.drop (sam xs)) else []
termination_by xs.length
decreasing_by simp [sam]; omega
theorem inN_nil : inN [] = [] := by rw [inN, dif_neg (by simp)]
theorem inN_pos (xs : List Int) (h : 0 < xs.length) : inN xs = (if 0 < ln xs 0 then ((ln xs 0).toNat, 0, 0) :: rep (ln xs 0).toNat (sam xs - 1) else rep 0 (sam xs)) ++ inN (xs.drop (sam xs)) := by rw [inN, dif_pos h]
theorem sam_le {xs : List Int} (h : 0 < xs.length) : 1 ≤ sam xs ∧ sam xs ≤ xs.length := by
  unfold sam
  have : (xs.drop 1).findIdx (fun y => !(y == ln xs 0)) ≤ (xs.drop 1).length := List.findIdx_le_length
  rw [List.length_drop] at this
  omega
theorem sam_same {xs : List Int} {i : Nat} (hx : 0 < xs.length) (h : i < sam xs) : ln xs i = ln xs 0 := by
  rcases Nat.eq_zero_or_pos i with h0 | h0
  · rw [h0]
  · have hl := (sam_le hx).2
    unfold sam at h
    have := List.not_of_lt_findIdx (xs := xs.drop 1) (p := fun y => !(y == ln xs 0)) (i := i - 1) (by omega)
    simp only [List.getElem_drop] at this
    have e : 1 + (i - 1) = i := by omega
    simp only [e] at this
    unfold ln at this ⊢
    rw [List.getD_eq_getElem?_getD, List.getElem?_eq_getElem (by unfold sam at hl; omega)]
    simpa using this
theorem sam_is {xs : List Int} {n : Nat} (h1 : 1 ≤ n) (h2 : n ≤ xs.length) (hs : ∀ i, i < n → ln xs i = ln xs 0) (he : n = xs.length ∨ ¬ ln xs n = ln xs 0) : sam xs = n := by
  have hx : 0 < xs.length := by omega
  have hl := sam_le hx
  rcases Nat.lt_trichotomy (sam xs) n with h | h | h
  · exfalso
    have h3 := hs (sam xs) h
    have hlt : (xs.drop 1).findIdx (fun y => !(y == ln xs 0)) < (xs.drop 1).length := by rw [List.length_drop]; unfold sam at h; omega
    have := List.findIdx_getElem (w := hlt)
    simp only [List.getElem_drop] at this
    have e : 1 + (xs.drop 1).findIdx (fun y => !(y == ln xs 0)) = sam xs := rfl
    simp only [e] at this
    unfold ln at h3
    rw [List.getD_eq_getElem?_getD, List.getElem?_eq_getElem (by omega)] at h3
    unfold ln at this
    simp only [Option.getD_some] at h3
    simp [h3] at this
  · exact h
  · exfalso
    rcases he with he | he
    · omega
    · exact he (sam_same hx h)
theorem take_sam {xs : List Int} (hx : 0 < xs.length) : xs.take (sam xs) = List.replicate (sam xs) (ln xs 0) := by
  have hl := sam_le hx
  apply List.ext_getElem
  · simp; omega
  · intro i h1 h2
    simp only [List.length_replicate] at h2
    rw [List.getElem_take, List.getElem_replicate]
    have := sam_same hx h2
    unfold ln at this
    rw [List.getD_eq_getElem?_getD, List.getElem?_eq_getElem (by omega)] at this
    exact this

/-- What a number says behind what was said. -/
def dnm (all : List Int) (m : Mk) : List Int :=
  if m.1 < 16 then all ++ [(m.1 : Int)] else all ++ List.replicate (m.2.1 + if m.1 = 18 then 11 else 3) (if m.1 = 16 then ln all (all.length - 1) else 0)
def Okm (all : List Int) (m : Mk) : Prop := (m.1 < 16 ∧ m.2.1 = 0 ∧ m.2.2 = 0) ∨ (m.1 = 16 ∧ 0 < all.length ∧ m.2.1 < 4 ∧ m.2.2 = 2) ∨ (m.1 = 17 ∧ m.2.1 < 8 ∧ m.2.2 = 3) ∨ (m.1 = 18 ∧ m.2.1 < 128 ∧ m.2.2 = 7)
/-- Numbers that say res behind all. -/
def Dns : List Int → List Mk → List Int → Prop
  | all, [], res => res = all
  | all, m :: ms, res => Okm all m ∧ Dns (dnm all m) ms res
theorem Dns.app {ms ns : List Mk} {all mid res : List Int} (h : Dns all ms mid) (k : Dns mid ns res) : Dns all (ms ++ ns) res := by
  induction ms generalizing all with
  | nil => obtain rfl : mid = all := h; exact k
  | cons m ms ih => exact ⟨h.1, ih h.2⟩
theorem ln_last (A : List Int) (x : Int) : ln (A ++ [x]) ((A ++ [x]).length - 1) = x := by simp [ln, List.getD]
theorem dnm_16 (all : List Int) (k f : Nat) : dnm all (16, k, f) = all ++ List.replicate (k + 3) (ln all (all.length - 1)) := rfl
theorem dnm_17 (all : List Int) (k f : Nat) : dnm all (17, k, f) = all ++ List.replicate (k + 3) 0 := rfl
theorem dnm_18 (all : List Int) (k f : Nat) : dnm all (18, k, f) = all ++ List.replicate (k + 11) 0 := rfl
theorem rep_add (m n : Nat) (x : Int) : List.replicate m x ++ List.replicate n x = List.replicate (m + n) x := by simp
theorem dns_rep (x : Nat) (hx : x < 16) : ∀ (t : Nat) (all : List Int), (0 < x → 0 < all.length ∧ ln all (all.length - 1) = x) → Dns all (rep x t) (all ++ List.replicate t (x : Int)) := by
  intro t
  induction t using Nat.strongRecOn with
  | ind t ih =>
    intro all h
    rcases Nat.eq_zero_or_pos t with h0 | h0
    · subst h0
      rw [rep_zero]
      simp [Dns]
    · rw [rep_pos x t h0]
      have hp := agn_pos x t h0
      have hd : dnm all (agn x t).1 = all ++ List.replicate (agn x t).2 (x : Int) ∧ Okm all (agn x t).1 := by
        by_cases c1 : t < 3
        · have e : agn x t = ((x, 0, 0), 1) := if_pos c1
          rw [e]
          refine ⟨?_, .inl ⟨hx, rfl, rfl⟩⟩
          unfold dnm
          rw [if_pos hx]; rfl
        · by_cases c2 : 0 < x
          · have e : agn x t = ((16, min t 6 - 3, 2), min t 6) := (if_neg c1).trans (if_pos c2)
            have hk := h c2
            have e6 : min t 6 = (min t 6 - 3) + 3 := by omega
            rw [e]
            refine ⟨?_, .inr (.inl ⟨rfl, hk.1, by show min t 6 - 3 < 4; omega, rfl⟩)⟩
            rw [dnm_16, hk.2, ← e6]
          · obtain rfl : x = 0 := by omega
            by_cases c3 : t < 11
            · have e : agn 0 t = ((17, t - 3, 3), t) := (if_neg c1).trans ((if_neg c2).trans (if_pos c3))
              have e6 : t = (t - 3) + 3 := by omega
              rw [e]
              refine ⟨?_, .inr (.inr (.inl ⟨rfl, by show t - 3 < 8; omega, rfl⟩))⟩
              rw [dnm_17, ← e6]; rfl
            · have e : agn 0 t = ((18, min t 138 - 11, 7), min t 138) := (if_neg c1).trans ((if_neg c2).trans (if_neg c3))
              have e6 : min t 138 = (min t 138 - 11) + 11 := by omega
              rw [e]
              refine ⟨?_, .inr (.inr (.inr ⟨rfl, by show min t 138 - 11 < 128; omega, rfl⟩))⟩
              rw [dnm_18, ← e6]; rfl
      refine ⟨hd.2, ?_⟩
      rw [hd.1]
      have := ih (t - (agn x t).2) (by omega) (all ++ List.replicate (agn x t).2 (x : Int)) (fun hx0 => by
        refine ⟨by simp; omega, ?_⟩
        rw [show (agn x t).2 = ((agn x t).2 - 1) + 1 by omega, List.replicate_succ', ← List.append_assoc, ln_last])
      rw [List.append_assoc, rep_add, show (agn x t).2 + (t - (agn x t).2) = t by omega] at this
      exact this
theorem dns_inN : ∀ (n : Nat) (xs all : List Int), xs.length = n → Fit xs → Dns all (inN xs) (all ++ xs) := by
  intro n
  induction n using Nat.strongRecOn with
  | ind n ih =>
    intro xs all hn hf
    rcases Nat.eq_zero_or_pos xs.length with h0 | h0
    · have : xs = [] := List.eq_nil_of_length_eq_zero h0
      subst this
      rw [inN_nil]
      simp [Dns]
    · rw [inN_pos xs h0]
      have hs := sam_le h0
      have h15 := ln_fit hf 0
      have hr := ih (xs.drop (sam xs)).length (by rw [List.length_drop]; omega) (xs.drop (sam xs)) (all ++ xs.take (sam xs)) rfl (fun y hy => hf y (List.mem_of_mem_drop hy))
      rw [List.append_assoc, List.take_append_drop] at hr
      refine Dns.app ?_ hr
      rw [take_sam h0]
      by_cases hp : 0 < ln xs 0
      · rw [if_pos hp]
        have e : ((ln xs 0).toNat : Int) = ln xs 0 := by omega
        refine ⟨.inl ⟨by omega, rfl, rfl⟩, ?_⟩
        have hd : dnm all ((ln xs 0).toNat, 0, 0) = all ++ [ln xs 0] := by unfold dnm; rw [if_pos (by show (ln xs 0).toNat < 16; omega), e]
        rw [hd]
        have := dns_rep (ln xs 0).toNat (by omega) (sam xs - 1) (all ++ [ln xs 0]) (fun _ => ⟨by simp, by rw [ln_last, e]⟩)
        rw [e, List.append_assoc, List.singleton_append, ← List.replicate_succ, show sam xs - 1 + 1 = sam xs by omega] at this
        exact this
      · rw [if_neg hp]
        have e : ln xs 0 = 0 := by omega
        rw [e]
        exact dns_rep 0 (by decide) (sam xs) all (fun h => by omega)

theorem iLen_low {first all : List Int} {many : Nat} {b : Nat → Nat} {T p q v : Nat} (h : iNx first b T p = .ok (q, v)) (hv : v < 16) : iLen first many b T p all = .ok (q, (decide (all.length + 1 < many), all ++ [(v : Int)])) := by
  unfold iLen; rw [iThen_of_ok h, if_pos hv]
theorem iLen_high {first all : List Int} {many : Nat} {b : Nat → Nat} {T p q v q2 x : Nat} (h : iNx first b T p = .ok (q, v)) (hv : 16 ≤ v) (h16 : v = 16 → 0 < all.length) (h2 : iTk b T q (if v = 16 then 2 else if v = 17 then 3 else 7) = .ok (q2, x)) (hm : all.length + (x + if v = 18 then 11 else 3) ≤ many) :
    iLen first many b T p all = .ok (q2, (decide (all.length + (x + if v = 18 then 11 else 3) < many), all ++ List.replicate (x + if v = 18 then 11 else 3) (if v = 16 then ln all (all.length - 1) else 0))) := by
  unfold iLen
  rw [iThen_of_ok h]
  try simp only
  rw [if_neg (by omega), if_neg (fun c => by have := h16 c.1; omega), iThen_of_ok h2]
  try simp only
  rw [if_neg (by omega)]
theorem dnm_length (all : List Int) (m : Mk) : all.length < (dnm all m).length := by
  unfold dnm
  split
  · simp
  · simp; split <;> omega
theorem Dns.len {ms : List Mk} {all res : List Int} (h : Dns all ms res) : all.length ≤ res.length ∧ (ms ≠ [] → all.length < res.length) := by
  induction ms generalizing all with
  | nil => obtain rfl : res = all := h; exact ⟨Nat.le_refl _, fun h => absurd rfl h⟩
  | cons m ms ih => have := (ih h.2).1; have := dnm_length all m; exact ⟨by omega, fun _ => by omega⟩
/-- Numbers, read. -/
theorem num_read {F : List Int} (hg : Good F) {b : Nat → Nat} (hb : ∀ i, b i ≤ 1) {T : Nat} : ∀ (ms : List Mk) (all res : List Int) (p : Nat), ms ≠ [] → Dns all ms res → (∀ m ∈ ms, Has F m.1) → BAt b T p (ms.flatMap (mkB F)) →
    iLoop T (iLen F res.length b T) p all = .ok (p + (ms.flatMap (mkB F)).length, res) := by
  intro ms
  induction ms with
  | nil => intro _ _ _ h; exact absurd rfl h
  | cons m ms ih =>
    intro all res p _ hd hh hB
    rw [List.flatMap_cons] at hB ⊢
    obtain ⟨ho, hd⟩ := hd
    have hm := hh m (by simp)
    have hx : m.2.1 < 2 ^ m.2.2 := by
      rcases ho with ⟨_, h1, h2⟩ | ⟨_, _, h1, h2⟩ | ⟨_, h1, h2⟩ | ⟨_, h1, h2⟩ <;> rw [h2] <;> omega
    obtain ⟨n1, n2⟩ := hB.left.mark hg hb hm hx
    have hlen := dnm_length all m
    have hle := hd.len
    have hstep : iLen F res.length b T p all = .ok (p + (mkB F m).length, (decide ((dnm all m).length < res.length), dnm all m)) := by
      by_cases hl : m.1 < 16
      · have e : m.2.2 = 0 := by rcases ho with ⟨_, _, h2⟩ | ⟨h1, _⟩ | ⟨h1, _⟩ | ⟨h1, _⟩ <;> omega
        rw [iLen_low n1 hl, mkB_length, e, Nat.add_zero]
        unfold dnm
        rw [if_pos hl, List.length_append]; rfl
      · have e : m.2.2 = if m.1 = 16 then 2 else if m.1 = 17 then 3 else 7 := by
          rcases ho with ⟨h1, _⟩ | ⟨h1, _, _, h2⟩ | ⟨h1, _, h2⟩ | ⟨h1, _, h2⟩
          · omega
          · rw [h1, h2]; rfl
          · rw [h1, h2]; rfl
          · rw [h1, h2]; rfl
        have h16 : m.1 = 16 → 0 < all.length := fun h => by rcases ho with ⟨h1, _⟩ | ⟨_, h1, _⟩ | ⟨h1, _⟩ | ⟨h1, _⟩ <;> omega
        rw [e] at n2
        have hdl : (dnm all m).length = all.length + (m.2.1 + if m.1 = 18 then 11 else 3) := by unfold dnm; rw [if_neg hl]; simp
        rw [iLen_high n1 (by omega) h16 n2 (by omega)]
        rw [hdl]
        unfold dnm
        rw [if_neg hl]
    by_cases hms : ms = []
    · subst hms
      obtain rfl : res = dnm all m := hd
      rw [decide_eq_false (Nat.lt_irrefl _)] at hstep
      rw [iLoop_end hstep]
      simp
    · have hlt := hle.2 hms
      rw [decide_eq_true hlt] at hstep
      have hw := hm.2
      have hpos : 1 ≤ (mkB F m).length := by rw [mkB_length]; omega
      rw [iLoop_on hstep (by omega) hB.left.1, ih (dnm all m) res _ hms hd (fun y hy => hh y (by simp [hy])) hB.right, List.length_append, Nat.add_assoc]

/-- The inner lengths, in their order. -/
def pos19 (s : Nat) : Nat := iOrd.idxOf s
def rdF (F : List Int) (n : Nat) : List Int := (List.range 19).map fun s => if pos19 s < n then ln F s else 0
theorem rdF_length (F : List Int) (n : Nat) : (rdF F n).length = 19 := by simp [rdF]
theorem ord_lt : ∀ i : Fin 19, iOrd.getD i.val 0 < 19 ∧ pos19 (iOrd.getD i.val 0) = i.val := by decide +kernel
theorem pos_lt : ∀ s : Fin 19, pos19 s.val < 19 ∧ iOrd.getD (pos19 s.val) 0 = s.val := by decide +kernel
theorem rdF_set (F : List Int) {i : Nat} (hi : i < 19) : (rdF F i).set (iOrd.getD i 0) (ln F (iOrd.getD i 0)) = rdF F (i + 1) := by
  obtain ⟨h1, h2⟩ := ord_lt ⟨i, hi⟩
  simp only at h1 h2
  apply List.ext_getElem
  · rw [List.length_set, rdF_length, rdF_length]
  · intro s k1 k2
    rw [rdF_length] at k2
    rw [List.getElem_set]
    simp only [rdF, List.getElem_map, List.getElem_range]
    split
    · rename_i e
      subst e
      rw [if_pos (by omega)]
    · rename_i e
      have hp := pos_lt ⟨s, k2⟩
      simp only at hp
      have : pos19 s ≠ i := fun h => e (by rw [← h]; exact hp.2)
      by_cases hs : pos19 s < i
      · rw [if_pos hs, if_pos (by omega)]
      · rw [if_neg hs, if_neg (by omega)]
theorem rdF_zero (F : List Int) : rdF F 0 = List.replicate 19 0 := by
  apply List.ext_getElem
  · simp [rdF]
  · intro i h1 h2
    rw [List.getElem_replicate]
    simp [rdF]
theorem rdF_all {F : List Int} (hl : F.length = 19) {n : Nat} (h : ∀ i, n ≤ i → i < 19 → ln F (iOrd.getD i 0) = 0) : rdF F n = F := by
  apply List.ext_getElem
  · rw [rdF_length, hl]
  · intro s k1 k2
    simp only [rdF, List.getElem_map, List.getElem_range]
    have hp := pos_lt ⟨s, by omega⟩
    simp only at hp
    have e : ln F s = F[s] := by simp [ln, List.getD, k2]
    split
    · exact e
    · have := h (pos19 s) (by omega) hp.1
      rw [hp.2] at this
      omega
def innB (F : List Int) (i n : Nat) : List Int := ((List.range n).flatMap fun j => bitsN (ln F (iOrd.getD (i + j) 0)) 3)
theorem innB_succ (F : List Int) (i n : Nat) : innB F i (n + 1) = bitsN (ln F (iOrd.getD i 0)) 3 ++ innB F (i + 1) n := by
  unfold innB
  rw [List.range_succ_eq_map, List.flatMap_cons, List.flatMap_map]
  simp only [Nat.add_zero, Nat.succ_eq_add_one]
  have e : (fun j => bitsN (ln F (iOrd.getD (i + (j + 1)) 0)) 3) = fun j => bitsN (ln F (iOrd.getD (i + 1 + j) 0)) 3 := by
    funext j
    rw [show i + (j + 1) = i + 1 + j by omega]
  rw [e]
theorem innB_length (F : List Int) (i n : Nat) : (innB F i n).length = 3 * n := by
  induction n generalizing i with
  | zero => rfl
  | succ n ih => rw [innB_succ, List.length_append, bitsN_length, ih]; omega
theorem rd3_read {F : List Int} (hF : ∀ i, 0 ≤ ln F i ∧ ln F i ≤ 7) {b : Nat → Nat} {T : Nat} : ∀ (n p i : Nat), i + n ≤ 19 → BAt b T p (innB F i n) → iRd3 b T n p i (rdF F i) = .ok (p + 3 * n, rdF F (i + n)) := by
  intro n
  induction n with
  | zero => intro p i _ _; rfl
  | succ n ih =>
    intro p i hi hB
    rw [innB_succ] at hB
    have h7 := hF (iOrd.getD i 0)
    obtain ⟨v, hv⟩ : ∃ v : Nat, ln F (iOrd.getD i 0) = v := ⟨(ln F (iOrd.getD i 0)).toNat, by omega⟩
    have h1 := hB.left
    have h2 := hB.right
    rw [bitsN_length] at h2
    rw [hv] at h1
    have t := h1.tk (by omega : v < 2 ^ 3)
    unfold iRd3
    rw [iThen_of_ok t]
    try simp only
    rw [← hv, rdF_set F (by omega), ih (p + 3) (i + 1) (by omega) h2]
    congr 2
    · omega
    · congr 1; omega
/-- What stands ahead of a dynamic block's data. -/
def hdB (S D F : List Int) (many : Nat) : List Int := bitsN ((S.length - 257 : Nat) : Int) 5 ++ (bitsN ((D.length - 1 : Nat) : Int) 5 ++ (bitsN ((many - 4 : Nat) : Int) 4 ++ (innB F 0 many ++ (inN (S ++ D)).flatMap (mkB F))))
structure HOk (S D F : List Int) (many : Nat) : Prop where
  s0 : 257 ≤ S.length
  s1 : S.length ≤ 286
  d0 : 1 ≤ D.length
  d1 : D.length ≤ 30
  cs : check S true = 0
  cd : check D true = 0
  e : ¬ ln S 256 = 0
  fl : F.length = 19
  f7 : ∀ i, 0 ≤ ln F i ∧ ln F i ≤ 7
  cf : check F false = 0
  m0 : 4 ≤ many
  m1 : many ≤ 19
  mz : ∀ i, many ≤ i → i < 19 → ln F (iOrd.getD i 0) = 0
  has : ∀ m ∈ inN (S ++ D), Has F m.1
theorem HOk.read {S D F : List Int} {many : Nat} (h : HOk S D F many) {b : Nat → Nat} {T p : Nat} (hb : ∀ i, b i ≤ 1) (hB : BAt b T p (hdB S D F many)) : iHdr b T p = .ok (p + (hdB S D F many).length, (S, D)) := by
  obtain ⟨s0, s1, d0, d1, cs, cd, he, fl, f7, cf, m0, m1, mz, hs⟩ := h
  have hSf := (check_ok cs).2.1
  have hDf := (check_ok cd).2.1
  unfold hdB at hB ⊢
  have b1 := hB.left
  have b2 := hB.right.left
  have b3 := hB.right.right.left
  have b4 := hB.right.right.right.left
  have b5 := hB.right.right.right.right
  simp only [bitsN_length] at b2 b3 b4 b5
  rw [innB_length] at b5
  have t1 := b1.tk (by omega : S.length - 257 < 2 ^ 5)
  have t2 := b2.tk (by omega : D.length - 1 < 2 ^ 5)
  have t3 := b3.tk (by omega : many - 4 < 2 ^ 4)
  have t4 := rd3_read f7 many (p + 5 + 5 + 4) 0 (by omega) b4
  rw [rdF_zero, Nat.zero_add, rdF_all fl mz] at t4
  have hne : inN (S ++ D) ≠ [] := by
    rw [inN_pos _ (by simp; omega)]
    intro h
    have h1 := (List.append_eq_nil_iff.1 h).1
    have h2 := (sam_le (xs := S ++ D) (by simp; omega)).1
    split at h1
    · simp at h1
    · rw [rep_pos _ _ (by omega)] at h1; simp at h1
  have t5 := num_read (check_good cf) hb (inN (S ++ D)) [] (S ++ D) _ hne (by
    have := dns_inN (S ++ D).length (S ++ D) [] rfl (fit_app hSf hDf)
    simpa using this) hs b5
  unfold iHdr
  rw [iThen_of_ok t1]
  try simp only
  rw [iThen_of_ok t2]
  try simp only
  rw [iThen_of_ok t3]
  try simp only
  rw [if_neg (by omega), show many - 4 + 4 = many by omega, iThen_of_ok t4]
  try simp only
  rw [if_neg (by simp [cf]), show S.length - 257 + 258 + (D.length - 1) = (S ++ D).length by rw [List.length_append]; omega, iThen_of_ok t5]
  try simp only
  have e1 : (S ++ D).take (S.length - 257 + 257) = S := by rw [show S.length - 257 + 257 = S.length by omega, List.take_left']; rfl
  have e2 : (S ++ D).drop (S.length - 257 + 257) = D := by rw [show S.length - 257 + 257 = S.length by omega, List.drop_left']; rfl
  have e3 : ln (S ++ D) 256 = ln S 256 := by unfold ln; exact getD_left (by omega)
  rw [e1, e2, e3, if_neg (by rintro (h | h | h); exact he h; exact h cs; exact h cd)]
  simp only [List.length_append, bitsN_length, innB_length]
  congr 2
  omega
end Go.Proofs.YtlakgbckopjelaaGreatDoor

/- Tokens in memory: three cells each. -/
namespace Go.Proofs.YtlakgbckopjelaaGreatDoor.M
set_option maxRecDepth 100000
open Go Go.RowKit

theorem lt_of_block' {w : World} {b : Nat} {o : Obj} (h : w.heap[b]? = some o) : b < w.heap.size := by
  rcases Nat.lt_or_ge b w.heap.size with h' | h'
  · exact h'
  · rw [Array.getElem?_eq_none h'] at h; simp at h
theorem heap_old {w : World} {o : Obj} {b : Nat} {p : Obj} (h : w.heap[b]? = some p) : (w.alloc o).heap[b]? = some p := by
  rw [Below.heap_alloc _ _ _ (lt_of_block' h)]; exact h

/-- A token's cells. -/
abbrev tA (t : Tk) : Array Value := #[.int .u8 t.1, .int .i64 t.2.1, .int .i64 t.2.2]
abbrev tO (t : Tk) : Obj := .cells #[.int .u8 t.1, .int .i64 t.2.1, .int .i64 t.2.2] 38
def tc (xs : List Tk) : List Value := xs.flatMap fun t => [.int .u8 t.1, .int .i64 t.2.1, .int .i64 t.2.2]
theorem tc_snoc (xs : List Tk) (t : Tk) : tc (xs ++ [t]) = tc xs ++ [.int .u8 t.1, .int .i64 t.2.1, .int .i64 t.2.2] := by simp [tc]
theorem tc_app (xs ys : List Tk) : tc (xs ++ ys) = tc xs ++ tc ys := by simp [tc]
theorem tc_cons (t : Tk) (xs : List Tk) : tc (t :: xs) = [.int .u8 t.1, .int .i64 t.2.1, .int .i64 t.2.2] ++ tc xs := by simp [tc]
theorem tc_length (xs : List Tk) : (tc xs).length = xs.length * 3 := by
  induction xs with
  | nil => rfl
  | cons t xs ih => rw [tc_cons, List.length_append, ih]; simp; omega
theorem tc_at (xs : List Tk) {i : Nat} (h : i < xs.length) : (tc xs)[i * 3]? = some (.int .u8 (tk xs i).1) ∧ (tc xs)[i * 3 + 1]? = some (.int .i64 (tk xs i).2.1) ∧ (tc xs)[i * 3 + 2]? = some (.int .i64 (tk xs i).2.2) := by
  induction xs generalizing i with
  | nil => simp at h
  | cons t xs ih =>
    cases i with
    | zero => simp [tc_cons, tk]
    | succ i =>
      have hi : i < xs.length := by simpa using h
      obtain ⟨h1, h2, h3⟩ := ih hi
      have e : tk (t :: xs) (i + 1) = tk xs i := by simp [tk]
      rw [e, tc_cons, show (i + 1) * 3 = i * 3 + 3 by omega]
      refine ⟨?_, ?_, ?_⟩
      · rw [List.getElem?_append_right (by simp)]; simpa using h1
      · rw [List.getElem?_append_right (by simp)]; simpa using h2
      · rw [List.getElem?_append_right (by simp)]; simpa using h3
theorem tc_one (xs : List Tk) : ∀ u ∈ tc xs, u.oneCell' = true := by
  intro u hu
  obtain ⟨t, _, h⟩ := List.mem_flatMap.1 hu
  simp at h
  rcases h with rfl | rfl | rfl <;> rfl
/-- The tokens xs lie where a slice leads. -/
def Toks (w : World) (a : Option Addr) (xs : List Tk) : Prop :=
  xs.length = 0 ∨ ∃ b off, b < w.heap.size ∧ a = some ⟨b, off, none⟩ ∧ ∀ i, i < xs.length → w.cell? ⟨b, off + i * 3, none⟩ = some (.int .u8 (tk xs i).1) ∧ w.cell? ⟨b, off + i * 3 + 1, none⟩ = some (.int .i64 (tk xs i).2.1) ∧ w.cell? ⟨b, off + i * 3 + 2, none⟩ = some (.int .i64 (tk xs i).2.2)
theorem Toks.kept {M : Nat → Prop} {w w' : World} {a : Option Addr} {xs : List Tk} (h : Toks w a xs) (k : Kept M w w') (hn : ∀ b off, a = some ⟨b, off, none⟩ → ¬ M b) : Toks w' a xs := by
  rcases h with h | ⟨b, off, h1, rfl, hc⟩
  · exact .inl h
  · have hM := hn b off rfl
    refine .inr ⟨b, off, Nat.lt_of_lt_of_le h1 k.size, rfl, fun i hi => ?_⟩
    obtain ⟨c0, c1, c2⟩ := hc i hi
    exact ⟨(k.cell (p := ⟨b, _, none⟩) h1 hM).trans c0, (k.cell (p := ⟨b, _, none⟩) h1 hM).trans c1, (k.cell (p := ⟨b, _, none⟩) h1 hM).trans c2⟩
theorem Toks.stay {w w' : World} {a : Option Addr} {xs : List Tk} (h : Toks w a xs) (k : Below w.heap.size w w') : Toks w' a xs := by
  rcases h with h | ⟨b, off, h1, rfl, hc⟩
  · exact .inl h
  · exact Toks.kept (.inr ⟨b, off, h1, rfl, hc⟩) (Kept.of_below k) (fun b' off' e => by simp at e; omega)
theorem Toks.below {B : Nat} {w w' : World} {a : Option Addr} {xs : List Tk} (h : Toks w a xs) (k : Below B w w') (hB : ∀ b off, a = some ⟨b, off, none⟩ → b < B) : Toks w' a xs :=
  h.kept (Kept.of_below k) (fun b off e => by have := hB b off e; omega)
/-- A slice value that owns tokens. -/
def OwnsT (w : World) (base : Nat) (v : Value) (L : List Tk) : Prop := w.ownsRow base 38 3 v L.length (tc L)
theorem OwnsT.nil (w : World) (base : Nat) : OwnsT w base (.slice none 0 0) [] := World.ownsRow_nil _ _ _ _
theorem OwnsT.kept {M : Nat → Prop} {w w' : World} {base : Nat} {v : Value} {L : List Tk} (h : OwnsT w base v L) (k : Kept M w w') (hn : ∀ g, v.ownBlock = some g → ¬ M g) : OwnsT w' base v L := ownsRow_kept h k hn
theorem OwnsT.stay {w w' : World} {base : Nat} {v : Value} {L : List Tk} (h : OwnsT w base v L) (k : Below w.heap.size w w') : OwnsT w' base v L := h.kept (Kept.of_below k) (fun g hg e => by have := (ownsRow_lt h hg).2; omega)
theorem OwnsT.form {w : World} {base : Nat} {v : Value} {L : List Tk} (h : OwnsT w base v L) : ∃ a cap, v = .slice a L.length cap ∧ Toks w a L ∧ (∀ b off, a = some ⟨b, off, none⟩ → base ≤ b ∧ b < w.heap.size) ∧ (a = none → L.length = 0 ∧ cap = 0) ∧ L.length ≤ cap := by
  rcases h.2 with ⟨rfl, h2⟩ | ⟨g, cap, cur, rfl, hg, hh, hc1, hc2, hc3, hc4⟩
  · exact ⟨none, 0, by rw [h2], .inl h2, fun b off e => (by cases e), fun _ => ⟨h2, rfl⟩, (by omega)⟩
  · refine ⟨_, cap, rfl, .inr ⟨g, 0, lt_of_block hh, rfl, fun i hi => ?_⟩, fun b off e => ?_, fun e => (by cases e), hc1⟩
    · have key : ∀ j, j < L.length * 3 → w.cell? ⟨g, j, none⟩ = (tc L)[j]? := fun j hj => by
        rw [cells_of hh, ← hc4, List.getElem?_take_of_lt hj, Array.getElem?_toList]
      obtain ⟨h1, h2, h3⟩ := tc_at L hi
      rw [Nat.zero_add]
      exact ⟨(key _ (by omega)).trans h1, (key _ (by omega)).trans h2, (key _ (by omega)).trans h3⟩
    · simp at e
      obtain ⟨rfl, _⟩ := e
      exact ⟨hg, lt_of_block hh⟩
theorem OwnsT.push {w : World} {base : Nat} {v : Value} {L : List Tk} {t : Tk} (h : w.ownsRow base 38 3 v (L.length + 1) (tc L ++ [.int .u8 t.1, .int .i64 t.2.1, .int .i64 t.2.2])) : OwnsT w base v (L ++ [t]) := by
  unfold OwnsT
  rw [tc_snoc, List.length_append, List.length_singleton]
  exact h
theorem Tryz.infoTok : (Tryz.prog.info? 38).map (fun i => (i.zero, i.size, i.bytes)) = some (some (.agg #[.int .u8 0, .int .i64 0, .int .i64 0]), 3, 24) := by kernel_rfl
theorem one_tok (w : World) (t : Tk) (n : Nat) (h : w.heap.size = n) : ∀ j u, ([.int .u8 t.1, .int .i64 t.2.1, .int .i64 t.2.2] : List Value)[j]? = some u → (w.alloc (tO t)).cell? ((⟨n, 0, none⟩ : Addr).add j) = some u := by
  subst h; exact World.news_of_block (heap_new w (tO t))
/-- A token in memory. -/
theorem tok_new (w : World) (t : Tk) : (w.alloc (tO t)).heap[w.heap.size]? = some (tO t) := heap_new w _

set_option maxHeartbeats 400000 in
theorem told_c (b l k : Int) (w : World) : Calls Tryz.prog 57 #[.agg #[.int .u8 b, .int .i64 l, .int .i64 k]] w fun e w' => e = .returned (.int .i64 (tl (b, l, k))) ∧ w' = w.alloc (tO (b, l, k)) := by
  by_cases h : l = 0
  · subst h
    have ht : tl (b, 0, k) = 1 := by simp [tl]
    rw [ht]
    go_enter Tryz.func57, Tryz.ntmps57
    go_wp2
    go_ret
    exact ⟨rfl, rfl⟩
  · have ht : tl (b, l, k) = l := by simp [tl, h]
    rw [ht]
    go_enter Tryz.func57, Tryz.ntmps57
    go_wp2
    go_ret
    exact ⟨rfl, rfl⟩
set_option maxHeartbeats 400000 in
theorem isByte_yes (b : Int) (w : World) : Calls Tryz.prog 55 #[.agg #[.int .u8 b, .int .i64 0, .int .i64 0]] w fun e w' => e = .returned (.bool true) ∧ w' = w.alloc (tO (b, 0, 0)) := by
  go_enter Tryz.func55, Tryz.ntmps55
  go_wp2
  go_ret
  exact ⟨rfl, rfl⟩
set_option maxHeartbeats 400000 in
theorem isByte_no (b l k : Int) (w : World) (h : ¬ (l = 0 ∧ k = 0)) : Calls Tryz.prog 55 #[.agg #[.int .u8 b, .int .i64 l, .int .i64 k]] w fun e w' => e = .returned (.bool false) ∧ w' = w.alloc (tO (b, l, k)) := by
  by_cases hl : l = 0
  · subst hl
    have hk : ¬ k = 0 := fun e => h ⟨rfl, e⟩
    have hk' : (k == 0) = false := by simpa using hk
    clear h
    go_enter Tryz.func55, Tryz.ntmps55
    go_wp2
    go_ret
    exact ⟨rfl, rfl⟩
  · clear h
    go_enter Tryz.func55, Tryz.ntmps55
    go_wp2
    go_ret
    exact ⟨rfl, rfl⟩
set_option maxHeartbeats 1000000 in
theorem isRun_yes (l k : Int) (w : World) (h1 : 3 ≤ l) (h2 : l ≤ 258) (h3 : 1 ≤ k) (h4 : k ≤ 32768) : Calls Tryz.prog 56 #[.agg #[.int .u8 0, .int .i64 l, .int .i64 k]] w fun e w' => e = .returned (.bool true) ∧ w' = w.alloc (tO (0, l, k)) := by
  go_enter Tryz.func56, Tryz.ntmps56
  go_wp2
  go_ret
  exact ⟨rfl, rfl⟩
set_option maxHeartbeats 1000000 in
theorem isRun_no (b l k : Int) (w : World) (h : ¬ (b = 0 ∧ 3 ≤ l ∧ l ≤ 258 ∧ 1 ≤ k ∧ k ≤ 32768)) : Calls Tryz.prog 56 #[.agg #[.int .u8 b, .int .i64 l, .int .i64 k]] w fun e w' => e = .returned (.bool false) ∧ w' = w.alloc (tO (b, l, k)) := by
  by_cases h0 : b = 0
  case neg =>
    clear h
    go_enter Tryz.func56, Tryz.ntmps56
    go_wp2
    go_ret
    exact ⟨rfl, rfl⟩
  subst h0
  by_cases h1 : 3 ≤ l
  case neg =>
    clear h
    go_enter Tryz.func56, Tryz.ntmps56
    go_wp2
    go_ret
    exact ⟨rfl, rfl⟩
  by_cases h2 : l ≤ 258
  case neg =>
    clear h
    go_enter Tryz.func56, Tryz.ntmps56
    go_wp2
    go_ret
    exact ⟨rfl, rfl⟩
  by_cases h3 : 1 ≤ k
  case neg =>
    clear h
    go_enter Tryz.func56, Tryz.ntmps56
    go_wp2
    go_ret
    exact ⟨rfl, rfl⟩
  have h4 : ¬ k ≤ 32768 := fun e => h ⟨rfl, h1, h2, h3, e⟩
  clear h
  go_enter Tryz.func56, Tryz.ntmps56
  go_wp2
  go_ret
  exact ⟨rfl, rfl⟩
end Go.Proofs.YtlakgbckopjelaaGreatDoor.M
