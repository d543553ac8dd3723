/- The walk of the law on a dynamic block's codes. -/
import Derived.Test.YtlakgbckopjelaaGreatDoorDManyQ
namespace Go.Proofs.YtlakgbckopjelaaGreatDoor.deflateCodes
set_option maxRecDepth 100000
open Go Go.RowKit

/-- What is known of a dynamic block's lengths. -/
structure CdOk (ts : List M.Tk) (S D : List Int) : Prop where
  sd : SDOk S D
  has : MHas S D ts
  dyn : DynOk ts S D
theorem bk_sd {ts : List M.Tk} {S D : List Int} (h : BkOk 2 ts S D) : SDOk S D := by
  rcases h.kind with h | h
  · omega
  · exact h.2
theorem CdOk.cost {ts : List M.Tk} {S D : List Int} (h : CdOk ts S D) (hok : TOk ts) (hl : ts.length ≤ 600) : ∃ FS FD, L.LGoodR (tly false 286 (emk ts)) 15 FS ∧ L.LGoodR (tly true 30 (emk ts)) 15 FD ∧ lstV (tly false 286 (emk ts)) FS = mco false S (mst ts ts.length) ∧ lstV (tly true 30 (emk ts)) FD = mco true D (mst ts ts.length) := by
  obtain ⟨FS, FD, h1, h2, h3, h4⟩ := h.dyn
  have hml := emk_len ts
  have hmk := emk_ok hok
  refine ⟨FS, FD, h1, h3, ?_, ?_⟩
  · rw [mco_mst, h2, mco_least (by decide) (by omega) h1 (fun x hx e => (hmk x hx).1 e)]
  · rw [mco_mst, h4, mco_least (by decide) (by omega) h3 (fun x hx e => (hmk x hx).2.1 e)]
set_option maxHeartbeats 8000000 in
theorem walk (a : Option Addr) (ct : Nat) (ts : List M.Tk) (w : World) (h : M.TIn w a ct ts) (hb : ∀ b off, a = some ⟨b, off, none⟩ → b < w.heap.size) (hT : Tab w) :
    Calls Tryz.prog 6 #[.slice a ts.length ct] w fun e w' => e = .returned (.bool true) ∧ Below w.heap.size w w' := by
  have HA : Hid (∀ W, Below w.heap.size w W → Calls Tryz.prog 8 #[] W fun e w' => e = .returned (.bool true) ∧ Below W.heap.size W w') := fun W hW => alive_c W (hT.on hW)
  have H0 := hide (few_c a ct ts w h.toks)
  by_cases hf : fewB ts = true
  case neg =>
    rw [show fewB ts = false by simpa using hf] at H0
    clear h hT hb hf
    go_enter Tryz.func6, Tryz.ntmps6
    go_wp2_with (first
      | (go_at_call 12; refine H0.out.mono ?_; rintro e w1 ⟨rfl, b1⟩; have B1 := hide b1; clear b1 H0)
      | (go_at_call 8; refine (HA.out _ B1.out).mono ?_; rintro x w9 ⟨rfl, b9⟩; have B9 := hide (B1.out.trans (b9.mono B1.out.size)); clear b9))
    go_ret
    exact ⟨rfl, B9.out⟩
  rw [hf] at H0
  have hlen := fewB_len hf
  by_cases hr : M.Rt ts
  case neg =>
    have H2 : Hid (∀ W, Below w.heap.size w W → Calls Tryz.prog 14 #[.slice a ts.length ct] W fun e w' => e = .returned (.bool false) ∧ Below W.heap.size W w') := fun W hW => M.qright_no a ct ts W (h.toks.stay hW) (by omega) hr
    clear h hT hb hf hr
    go_enter Tryz.func6, Tryz.ntmps6
    go_wp2_with (first
      | (go_at_call 12; refine H0.out.mono ?_; rintro e w1 ⟨rfl, b1⟩; have B1 := hide b1; clear b1 H0)
      | (go_at_call 14; refine (H2.out _ B1.out).mono ?_; rintro x w3 ⟨rfl, b3⟩; have B3 := hide (B1.out.trans (b3.mono B1.out.size)); clear b3 H2)
      | (go_at_call 8; refine (HA.out _ B3.out).mono ?_; rintro x w9 ⟨rfl, b9⟩; have B9 := hide (B3.out.trans (b9.mono B3.out.size)); clear b9))
    go_ret
    exact ⟨rfl, B9.out⟩
  have H2 : Hid (∀ W, Below w.heap.size w W → Calls Tryz.prog 14 #[.slice a ts.length ct] W fun e w' => e = .returned (.bool true) ∧ Below W.heap.size W w') := fun W hW => M.qright_yes a ct ts W (h.toks.stay hW) (by omega) hr
  by_cases h60 : ts.length ≤ 60
  case neg =>
    have g60 : (60 : Int) < (ts.length : Int) := by omega
    clear h hT hb hf hr
    go_enter Tryz.func6, Tryz.ntmps6
    go_wp2_with (first
      | (go_at_call 12; refine H0.out.mono ?_; rintro e w1 ⟨rfl, b1⟩; have B1 := hide b1; clear b1 H0)
      | (go_at_call 14; refine (H2.out _ B1.out).mono ?_; rintro x w3 ⟨rfl, b3⟩; have B3 := hide (B1.out.trans (b3.mono B1.out.size)); clear b3 H2)
      | (go_at_call 8; refine (HA.out _ B3.out).mono ?_; rintro x w9 ⟨rfl, b9⟩; have B9 := hide (B3.out.trans (b9.mono B3.out.size)); clear b9))
    go_ret
    exact ⟨rfl, B9.out⟩
  have g60 : ¬ (60 : Int) < (ts.length : Int) := by omega
  have hok := TOk.of hr h.bt
  have H1 : Hid (∀ W, Below w.heap.size w W → Calls Tryz.prog 17 #[.slice a ts.length ct] W fun e w' => ∃ (g c : Nat) (X : List Int), e = .returned (.tuple #[.slice (some ⟨g, 0, none⟩) X.length c, .bool true]) ∧ OwnsB w' W.heap.size (.slice (some ⟨g, 0, none⟩) X.length c) X ∧ Below W.heap.size W w' ∧ DynX ts X) := fun W hW => (dynamic_yes W (hT.on hW) (hT.on hW).pos a ct ts ((TkIn.of h hb hr hlen).stay hW) hr).mono fun e w' ⟨S, D, H, g, c, h1, h2, h3, he, ho, hb'⟩ => ⟨g, c, _, he, ho, hb', S, D, H, h1, h2 rfl, h3, rfl⟩
  have H3 : Hid (∀ (X : List Int) (W : World) g c base, DynX ts X → OwnsB W base (.slice (some ⟨g, 0, none⟩) X.length c) X → Calls Tryz.prog 18 #[.slice (some ⟨g, 0, none⟩) X.length c] W fun e w' => ∃ (a1 a2 : Option Addr) (c1 c2 : Nat) (S D : List Int), e = .returned (.tuple #[.slice a1 S.length c1, .slice a2 D.length c2, .bool true]) ∧ Ints 0 w'.heap.size w' a1 S ∧ Ints 0 w'.heap.size w' a2 D ∧ Below W.heap.size W w' ∧ CdOk ts S D) := fun X W g c base ⟨S, D, H, k1, k2, k3, hX⟩ ho => by
    subst hX
    obtain ⟨f1, f2, q, f3⟩ := open_facts k1 k3
    exact (ropen_c (some ⟨g, 0, none⟩) c _ W (own_text ho (fun i => dataL_bytes _ (bin_bl k3) i)) (dyn_short k1 k3 hlen) 1 q S D f1 f2 f3).mono fun e w' ⟨a1, a2, c1, c2, he, j1, j2, hb'⟩ => ⟨a1, a2, c1, c2, S, D, he, j1, j2, hb', bk_sd k1, k1.has, k2⟩
  have H5 : Hid (∀ W FS FD, Below w.heap.size w W → L.LGoodR (tly false 286 (emk ts)) 15 FS → L.LGoodR (tly true 30 (emk ts)) 15 FD → Calls Tryz.prog 21 #[.slice a ts.length ct] W fun e w' => e = .returned (.tuple #[.int .i64 (lstV (tly false 286 (emk ts)) FS), .int .i64 (lstV (tly true 30 (emk ts)) FD)]) ∧ Below W.heap.size W w') := fun W FS FD hW h1 h2 => q8Least_c a ct ts W (h.toks.stay hW) hok hlen FS FD h1 h2
  have HT := hide h.toks
  have HOK := hide hok
  clear h hT hb hf hr hok
  go_enter Tryz.func6, Tryz.ntmps6
  go_upto_region 5 with (first
    | (go_at_call 12; refine H0.out.mono ?_; rintro e w1 ⟨rfl, b1⟩; have B1 := hide b1; clear b1 H0)
    | (go_at_call 14; refine (H2.out _ B1.out).mono ?_; rintro x w3 ⟨rfl, b3⟩; have B3 := hide (B1.out.trans (b3.mono B1.out.size)); clear b3 H2)
    | (go_at_call 17; refine (H1.out _ B3.out).mono ?_; rintro x w4 ⟨g, c1, X, rfl, o2, b2, dx⟩; have B4 := hide (B3.out.trans (b2.mono B3.out.size)); have HO := hide (H3.out _ _ _ _ _ dx o2); clear o2 b2 dx H1 H3)
    | (go_at_call 18; refine HO.out.mono ?_; rintro x w5 ⟨a1, a2, c3, c2, S, D, rfl, j1, j2, b5, cd⟩; have B5 := hide (B4.out.trans (b5.mono B4.out.size)); have I1 := hide j1; have I2 := hide j2; have CD := hide cd; clear j1 j2 b5 cd HO B4))
  have hs0 := CD.out.sd.s0
  have hs1 := CD.out.sd.s1
  have hd1 := CD.out.sd.d1
  obtain ⟨bs, fs, hb1, ha1, hc1⟩ : ∃ bs fs, bs < w5.heap.size ∧ a1 = some ⟨bs, fs, none⟩ ∧ ∀ i, i < S.length → w5.cell? ⟨bs, fs + i, none⟩ = some (.int .i64 (ln S i)) := by
    obtain ⟨b, off, _, _, hbw, ha, hc⟩ := I1.out.resolve_left (by omega)
    exact ⟨b, off, hbw, ha, hc⟩
  obtain ⟨bd, fd, hb2, ha2, hc2⟩ : ∃ bs fs, bs < w5.heap.size ∧ a2 = some ⟨bs, fs, none⟩ ∧ ∀ i, i < D.length → w5.cell? ⟨bs, fs + i, none⟩ = some (.int .i64 (ln D i)) := by
    obtain ⟨b, off, _, _, hbw, ha, hc⟩ := I2.out.resolve_left (by have := CD.out.sd.d0; omega)
    exact ⟨b, off, hbw, ha, hc⟩
  subst ha1 ha2
  have HC1 := hide hc1
  have HC2 := hide hc2
  have HX := hide (ln_fit CD.out.sd.fs 256)
  have hS256 : (256 : Int) < (S.length : Int) := by omega
  clear hc1 hc2 I1 I2
  go_upto_region 9 with fail
  have HW0 : Hid (∃ K V, CSt w5 ((w5.alloc (.cells Tryz.zeroCells35 35)).alloc (.cells #[.bool false, .bool false, .bool false, .bool false, .bool false, .bool false, .bool false, .bool false, .bool false, .bool false, .bool false, .bool false, .bool false, .bool false, .bool false, .bool false, .bool false, .bool false, .bool false, .bool false, .bool false, .bool false, .bool false, .bool false, .bool false, .bool false, .bool false, .bool false, .bool false, .bool false] 36)) K V) := hide (by
    have e1 : Tryz.zeroCells35 = bolA (List.replicate 286 false) := by kernel_rfl
    have e2 : (#[.bool false, .bool false, .bool false, .bool false, .bool false, .bool false, .bool false, .bool false, .bool false, .bool false, .bool false, .bool false, .bool false, .bool false, .bool false, .bool false, .bool false, .bool false, .bool false, .bool false, .bool false, .bool false, .bool false, .bool false, .bool false, .bool false, .bool false, .bool false, .bool false, .bool false] : Array Value) = bolA (List.replicate 30 false) := rfl
    rw [e1, e2]
    exact ⟨_, _, CSt.new w5 _ _ (by simp) (by simp)⟩)
  generalize (w5.alloc (.cells Tryz.zeroCells35 35)).alloc (.cells #[.bool false, .bool false, .bool false, .bool false, .bool false, .bool false, .bool false, .bool false, .bool false, .bool false, .bool false, .bool false, .bool false, .bool false, .bool false, .bool false, .bool false, .bool false, .bool false, .bool false, .bool false, .bool false, .bool false, .bool false, .bool false, .bool false, .bool false, .bool false, .bool false, .bool false] 36) = w6 at HW0 ⊢
  obtain ⟨K0, V0, hW⟩ := HW0.out
  have HW := hide hW
  clear hW HW0
  have kk := cells_of HW.out.k 256
  rw [bolA_at _ (by rw [HW.out.kl]; decide)] at kk
  generalize K0.getD 256 false = kb0 at kk
  have fk := free_of HW.out.k 256
  have lk := lt_of_block HW.out.k
  go_upto_region 10 with fail
  have HW2 : Hid (∃ K V, CSt w5 (w6.setCell ⟨w5.heap.size, 256, none⟩ (.bool true)) K V) := ⟨_, _, HW.out.setK 256⟩
  generalize w6.setCell ⟨w5.heap.size, 256, none⟩ (.bool true) = w7 at HW2 ⊢
  clear HW kk fk lk
  have HS : Hid (∀ (wx : World) K V, CSt w5 wx K V → ∀ v, v < S.length → wx.cell? ⟨bs, fs + v, none⟩ = some (.int .i64 (ln S v))) := fun wx K V hC v hv => (hC.bel.cell (p := ⟨bs, fs + v, none⟩) hb1).trans (HC1.out v hv)
  have HD : Hid (∀ (wx : World) K V, CSt w5 wx K V → ∀ v, v < D.length → wx.cell? ⟨bd, fd + v, none⟩ = some (.int .i64 (ln D v))) := fun wx K V hC v hv => (hC.bel.cell (p := ⟨bd, fd + v, none⟩) hb2).trans (HC2.out v hv)
  have s256 : w7.cell? ⟨bs, fs + 256, none⟩ = some (.int .i64 (ln S 256)) := by
    obtain ⟨K, V, hC⟩ := HW2.out
    exact HS.out w7 K V hC 256 (by omega)
  have hb7 : bs < w7.heap.size := by
    obtain ⟨K, V, hC⟩ := HW2.out
    exact Nat.lt_of_lt_of_le hb1 hC.bel.size
  have HM0 : Hid (ln S 256 = mco false S (mst ts 0) ∧ (0 : Int) = mco true D (mst ts 0)) := hide (by simp [mst, tms, mco])
  generalize ln S 256 = S0 at s256 HM0
  clear HC1 HC2 HX
  go_upto_region 11 with fail
  go_wp2_with fail
  clear s256
  go_loopg [10, 11, 51] ts.length (fun gk v10 v11 v51 wx => ∃ (i : Nat) (A B : Int), i + gk = ts.length ∧ v51 = .int .i64 i ∧ v10 = .int .i64 A ∧ v11 = .int .i64 B ∧ Hid (A = mco false S (mst ts i) ∧ B = mco true D (mst ts i) ∧ ∃ K V, CSt w5 wx K V))
  case atStart => exact ⟨0, S0, 0, by omega, rfl, rfl, rfl, HM0.out.1, HM0.out.2, HW2.out⟩
  case round =>
    obtain ⟨i, A, B, hig, rfl, rfl, rfl, HI⟩ := hrel
    clear HM0 HW2
    cases gk with
    | zero =>
      have hge : ¬ (i : Int) < (ts.length : Int) := by omega
      obtain rfl : i = ts.length := by omega
      obtain ⟨hA, hB, K, V, hC⟩ := HI.out
      obtain ⟨FS, FD, g1, g2, e1, e2⟩ := CD.out.cost HOK.out hlen
      have HL := hide (H5.out wr FS FD (B5.out.trans (hC.bel.mono B5.out.size)) g1 g2)
      rw [e1, e2, ← hA, ← hB] at HL
      have HC := hide hC
      have HM1 : Hid (∀ W, CSt w5 W K V → Calls Tryz.prog 22 #[.slice (some ⟨w5.heap.size, 0, none⟩) 286 286] W fun e w' => e = .returned (.int .i64 (cntB K 286 : Int)) ∧ W = w') := fun W h => by
        have := many_c w5.heap.size _ K W h.k (by rw [h.kl]; decide)
        rw [h.kl] at this
        exact this.mono fun _ _ h => ⟨h.1, h.2.symm⟩
      have HM2 : Hid (∀ W, CSt w5 W K V → Calls Tryz.prog 22 #[.slice (some ⟨w5.heap.size + 1, 0, none⟩) 30 30] W fun e w' => e = .returned (.int .i64 (cntB V 30 : Int)) ∧ W = w') := fun W h => by
        have := many_c (w5.heap.size + 1) _ V W h.v (by rw [h.vl]; decide)
        rw [h.vl] at this
        exact this.mono fun _ _ h => ⟨h.1, h.2.symm⟩
      have hlk := lt_of_block hC.k
      have hlv := lt_of_block hC.v
      generalize cntB K 286 = nk at HM1
      generalize cntB V 30 = nv at HM2
      clear hC hA hB e1 e2 g1 g2 HI H5 HS HD HT HOK CD
      by_cases hk : (nk : Int) < 2 <;> by_cases hv : (nv : Int) < 2
      all_goals
        go_wp2_with (first
          | (go_at_call 21; refine HL.out.mono ?_; rintro e wl ⟨rfl, bl⟩; have CL := hide (HC.out.stay bl); have BL := hide (B5.out.trans (CL.out.bel.mono B5.out.size)); clear bl HL)
          | (go_at_call 8; refine (HA.out _ BL.out).mono ?_; rintro x w9 ⟨rfl, b9⟩; have C9 := hide (CL.out.stay b9); have B9 := hide (BL.out.trans (b9.mono BL.out.size)); have lk9 := lt_of_block C9.out.k; have lv9 := lt_of_block C9.out.v; clear b9)
          | (go_at_call 22; refine (HM1.out _ C9.out).mono ?_; rintro x w10 ⟨rfl, rfl⟩; clear HM1)
          | (go_at_call 22; refine (HM2.out _ C9.out).mono ?_; rintro x w10 ⟨rfl, rfl⟩; clear HM2))
        go_ret
        exact ⟨rfl, B9.out⟩
    | succ g1 =>
      have hlt : (i : Int) < (ts.length : Int) := by omega
      obtain ⟨hA, hB, K, V, hC⟩ := HI.out
      obtain ⟨b, off, rfl, hbl, c0, c1, c2⟩ := HT.out.three (B5.out.trans (hC.bel.mono B5.out.size)) (i := i) (by omega)
      have hok1 := HOK.out.at (i := i) (by omega)
      have hN := mst_succ (ts := ts) (i := i) (by omega)
      have hpre := tms_pre (ts := ts) (i := i) (by omega)
      have hml := mst_len ts i
      have hAb := mco_bd (b := false) CD.out.sd.fs (mst ts i)
      have hBb := mco_bd (b := true) CD.out.sd.fd (mst ts i)
      rw [← hA] at hAb
      rw [← hB] at hBb
      have hA1 : A ≤ 20000 := by omega
      have hB1 : B ≤ 20000 := by omega
      have hA0 := hAb.1
      have hB0 := hBb.1
      obtain ⟨t, ht⟩ : ∃ t, M.tk ts i = t := ⟨_, rfl⟩
      rw [ht] at c0 c1 c2 hok1 hN hpre
      obtain ⟨Bb, Lg, Bk⟩ := t
      simp only at c0 c1 c2 hok1
      have HZ : Hid (CSt w5 (wr.alloc (.cells #[.int .u8 Bb, .int .i64 Lg, .int .i64 Bk] 38)) K V) := hC.stay ((Below.refl _ wr).alloc (Nat.le_refl _) _)
      have y0 : (wr.alloc (.cells #[.int .u8 Bb, .int .i64 Lg, .int .i64 Bk] 38)).cell? ⟨wr.heap.size, 0, none⟩ = some (.int .u8 Bb) := (cells_of (heap_new wr (.cells #[.int .u8 Bb, .int .i64 Lg, .int .i64 Bk] 38)) 0).trans rfl
      have y1 : (wr.alloc (.cells #[.int .u8 Bb, .int .i64 Lg, .int .i64 Bk] 38)).cell? ⟨wr.heap.size, 1, none⟩ = some (.int .i64 Lg) := (cells_of (heap_new wr (.cells #[.int .u8 Bb, .int .i64 Lg, .int .i64 Bk] 38)) 1).trans rfl
      have y2 : (wr.alloc (.cells #[.int .u8 Bb, .int .i64 Lg, .int .i64 Bk] 38)).cell? ⟨wr.heap.size, 2, none⟩ = some (.int .i64 Bk) := (cells_of (heap_new wr (.cells #[.int .u8 Bb, .int .i64 Lg, .int .i64 Bk] 38)) 2).trans rfl
      have yl : wr.heap.size < (wr.alloc (.cells #[.int .u8 Bb, .int .i64 Lg, .int .i64 Bk] 38)).heap.size := by simp
      have HAM := hide hA
      have HBM := hide hB
      have HHAS := hide CD.out.has
      have HFS := hide CD.out.sd.fs
      have HFD := hide CD.out.sd.fd
      clear ht hA hB hC HI hAb hBb H5 HA HT HOK CD hml
      go_upto_region 14 with fail
      generalize wr.alloc (.cells #[.int .u8 Bb, .int .i64 Lg, .int .i64 Bk] 38) = wz at HZ y0 y1 y2 yl ⊢
      clear c0 c1 c2
      by_cases h0 : Lg = 0
      · subst h0
        obtain ⟨v, rfl⟩ := Int.eq_ofNat_of_zero_le (show 0 ≤ Bb by omega)
        have hN1 : mst ts (i + 1) = mst ts i ++ [(false, (v, 0, 0))] := by rw [hN]; simp [tmk]
        have hmem : (false, ((v, 0, 0) : Mk)) ∈ emk ts := pre_mem (ms := tms (ts.take i)) (by have := hpre; simp [tmk] at this; exact this)
        have hhas := (HHAS.out _ hmem).1 rfl
        have hv : v < S.length := hhas.1
        have hxb := ln_fit HFS.out v
        have HNA : Hid (A + ln S v = mco false S (mst ts (i + 1)) ∧ B = mco true D (mst ts (i + 1))) := hide (by rw [hN1, mco_snoc, mco_snoc, ← HAM.out, ← HBM.out]; simp)
        have sv := HS.out wz K V HZ.out v hv
        have kv := cells_of HZ.out.k v
        rw [bolA_at _ (by rw [HZ.out.kl]; omega)] at kv
        have fv := free_of HZ.out.k v
        have lk := lt_of_block HZ.out.k
        have lbs : bs < wz.heap.size := Nat.lt_of_lt_of_le hb1 HZ.out.bel.size
        have HZ2 : Hid (CSt w5 (wz.setCell ⟨w5.heap.size, v, none⟩ (.bool true)) (K.set v true) V) := HZ.out.setK v
        generalize ln S v = x at sv hxb HNA
        generalize K.getD v false = kb at kv
        have hx0 := hxb.1
        have hx1 := hxb.2
        have hv' : (v : Int) < (S.length : Int) := by omega
        have hv2 : (v : Int) < 286 := by omega
        have hv0 : (0 : Int) ≤ (v : Int) := by omega
        clear hN hN1 hmem hhas hpre hxb HZ HHAS HFS HFD HAM HBM HS HD hok1
        go_wp2_with fail
        go_roundg g1
        case measure => omega
        case rel => exact ⟨i + 1, A + x, B, by omega, by go_num, by go_num, rfl, HNA.out.1, HNA.out.2, _, _, HZ2.out⟩
      · have hr := hok1.resolve_left (fun e => h0 e.1)
        obtain ⟨hL3, hL258, hK1, hK2⟩ := hr
        obtain ⟨n, rfl⟩ := Int.eq_ofNat_of_zero_le (show 0 ≤ Lg by omega)
        obtain ⟨d, rfl⟩ := Int.eq_ofNat_of_zero_le (show 0 ≤ Bk by omega)
        have k1 := lmk_ok n (by omega)
        have k2 := bmk_ok d (by omega)
        have et : tmk (Bb, (n : Int), (d : Int)) = [(false, lmk n)] ++ [(true, bmk d)] := by unfold tmk; rw [if_neg h0]; simp only [Int.toNat_natCast]; rfl
        have hN1 : mst ts (i + 1) = (mst ts i ++ [(false, lmk n)]) ++ [(true, bmk d)] := by rw [hN, et, List.append_assoc]
        have hm2 : (true, bmk d) ∈ emk ts := pre_mem (ms := tms (ts.take i) ++ [(false, lmk n)]) (by have := hpre; rw [et, ← List.append_assoc] at this; exact this)
        have hm1 : (false, lmk n) ∈ emk ts := hpre.subset (by rw [et]; simp)
        have hs := ((HHAS.out _ hm1).1 rfl).1
        have hq := ((HHAS.out _ hm2).2 rfl).1
        have HQ1 : Hid (∀ W, Calls Tryz.prog 19 #[.int .i64 (n : Int)] W fun x w' => x = .returned (.int .i64 ((lmk n).1 : Int)) ∧ W = w') := fun W => (q8Long_c n W (by omega) (by omega)).mono fun _ _ h => ⟨h.1, h.2.symm⟩
        have HQ3 : Hid (∀ W, Calls Tryz.prog 20 #[.int .i64 (d : Int)] W fun x w' => x = .returned (.int .i64 ((bmk d).1 : Int)) ∧ W = w') := fun W => (q8Far_c d W (by omega) (by omega)).mono fun _ _ h => ⟨h.1, h.2.symm⟩
        have hxb := ln_fit HFS.out (lmk n).1
        have hyb := ln_fit HFD.out (bmk d).1
        have HNA : Hid (A + ln S (lmk n).1 = mco false S (mst ts (i + 1)) ∧ B + ln D (bmk d).1 = mco true D (mst ts (i + 1))) := hide (by rw [hN1, mco_snoc, mco_snoc, mco_snoc, mco_snoc, ← HAM.out, ← HBM.out]; simp)
        have hs1 : (lmk n).1 < 286 := by omega
        have hq1 : (bmk d).1 < 30 := by omega
        simp only at hs hq
        generalize (lmk n).1 = s at hs HQ1 hxb HNA hs1
        generalize (bmk d).1 = q at hq HQ3 hyb HNA hq1
        have dv := HD.out wz K V HZ.out q hq
        have vv := cells_of HZ.out.v q
        rw [bolA_at _ (by rw [HZ.out.vl]; omega)] at vv
        have fv := free_of HZ.out.v q
        have lv := lt_of_block HZ.out.v
        have lbd : bd < wz.heap.size := Nat.lt_of_lt_of_le hb2 HZ.out.bel.size
        have HZ2 : Hid (CSt w5 (wz.setCell ⟨w5.heap.size + 1, q, none⟩ (.bool true)) K (V.set q true)) := HZ.out.setV q
        generalize ln D q = y at dv hyb HNA
        generalize V.getD q false = vb at vv
        have hy0 := hyb.1
        have hy1 := hyb.2
        have hq' : (q : Int) < (D.length : Int) := by omega
        have hq2 : (q : Int) < 30 := by omega
        have hq0 : (0 : Int) ≤ (q : Int) := by omega
        have hnp : (0 : Int) < (n : Int) := by omega
        clear hN hN1 hm1 hm2 hpre hyb HZ HHAS HFS HFD HAM HBM HD hok1 et k1 k2
        go_upto_region 22 with (first
          | (go_at_call 19; refine (HQ1.out _).mono ?_; rintro e w8 ⟨rfl, rfl⟩; clear HQ1)
          | (go_at_call 20; refine (HQ3.out _).mono ?_; rintro e w8 ⟨rfl, rfl⟩; clear HQ3))
        generalize wz.setCell ⟨w5.heap.size + 1, q, none⟩ (.bool true) = wy at HZ2 ⊢
        have sv := HS.out wy _ _ HZ2.out s hs
        have kv := cells_of HZ2.out.k s
        rw [bolA_at _ (by rw [HZ2.out.kl]; omega)] at kv
        have fk := free_of HZ2.out.k s
        have lk := lt_of_block HZ2.out.k
        have lbs : bs < wy.heap.size := Nat.lt_of_lt_of_le hb1 HZ2.out.bel.size
        have HZ3 : Hid (CSt w5 (wy.setCell ⟨w5.heap.size, s, none⟩ (.bool true)) (K.set s true) (V.set q true)) := HZ2.out.setK s
        generalize ln S s = x at sv hxb HNA
        generalize K.getD s false = kb at kv
        have hx0 := hxb.1
        have hx1 := hxb.2
        have hs' : (s : Int) < (S.length : Int) := by omega
        have hs2 : (s : Int) < 286 := by omega
        have hs0' : (0 : Int) ≤ (s : Int) := by omega
        clear hxb HZ2 HS dv vv fv lv
        go_wp2_with fail
        go_roundg g1
        case measure => omega
        case rel => exact ⟨i + 1, A + x, B + y, by omega, by go_num, by go_num, by go_num, HNA.out.1, HNA.out.2, _, _, HZ3.out⟩
end Go.Proofs.YtlakgbckopjelaaGreatDoor.deflateCodes
