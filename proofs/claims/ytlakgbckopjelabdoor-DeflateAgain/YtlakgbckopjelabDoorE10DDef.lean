/- Several texts, laid together: DShort, DCut, DShst, DDef. -/
import Derived.Test.YtlakgbckopjelabDoorE09DSto
import Derived.Test.YtlakgbckopjelabDoorMFinds0
/- shorter: contract. -/
namespace Go.Proofs.YtlakgbckopjelabDoor
set_option maxRecDepth 100000
open Go Go.RowKit

/-- A dynamic block's lengths, its head: one answer each. -/
theorem DynOk.uniq {ts : List M.Tk} {S D S' D' : List Int} (h : DynOk ts S D) (h' : DynOk ts S' D') : S = S' ∧ D = D' := by
  obtain ⟨FS, FD, a1, rfl, a2, rfl⟩ := h
  obtain ⟨GS, GD, b1, rfl, b2, rfl⟩ := h'
  obtain rfl := a1.uniq b1
  obtain rfl := a2.uniq b2
  exact ⟨rfl, rfl⟩
theorem LLOk.uniq {S D F F' : List Int} {m m' : Nat} (h : LLOk S D F m) (h' : LLOk S D F' m') : F = F' ∧ m = m' := by
  obtain rfl := h.good.uniq h'.good
  refine ⟨rfl, ?_⟩
  have a0 := h.m0
  have a1 := h.m1
  have b0 := h'.m0
  have b1 := h'.m1
  rcases Nat.lt_trichotomy m m' with c | c | c
  · rcases h'.ml with e | e
    · omega
    · exact absurd (h.mz (m' - 1) (by omega) (by omega)) e
  · exact c
  · rcases h.ml with e | e
    · omega
    · exact absurd (h'.mz (m - 1) (by omega) (by omega)) e
theorem HdIs.uniq {k : Nat} {S D H H' : List Int} (h : HdIs k S D H) (h' : HdIs k S D H') : H = H' := by
  rcases h with ⟨rfl, rfl⟩ | ⟨rfl, _, F, m, hl, rfl⟩
  · rcases h' with ⟨_, rfl⟩ | ⟨h, _⟩
    · rfl
    · omega
  · rcases h' with ⟨h, _⟩ | ⟨_, _, F', m', hl', rfl⟩
    · omega
    · obtain ⟨rfl, rfl⟩ := hl.uniq hl'
      rfl
/-- Which of both blocks is chosen. -/
def Chs (ts : List M.Tk) (k : Nat) (S D : List Int) (X : Int) : Prop := X ≤ szB 1 [] iFix iFive ts ∧ ((k = 1 ∧ ∀ S' D' H', DynOk ts S' D' → HdIs 2 S' D' H' → szB 1 [] iFix iFive ts ≤ szB 2 H' S' D' ts) ∨ (k = 2 ∧ DynOk ts S D ∧ X < szB 1 [] iFix iFive ts))
/-- The shorter of two blocks, told. -/
def SRet (w : World) (ta : Option Addr) (ct : Nat) (ts : List M.Tk) (e : Ending) (w' : World) : Prop :=
  ∃ k sa cs da cd S D H, (k = 1 ∨ k = 2) ∧ BkOk k ts S D ∧ (k = 2 → DynOk ts S D) ∧ HdIs k S D H ∧ Chs ts k S D (szB k H S D ts) ∧ e = .returned (.agg (bA ta ts.length ct k sa S.length cs da D.length cd (szB k H S D ts))) ∧ BkAt w'.heap.size w' ta sa da ts S D ∧ (Ints w.heap.size w'.heap.size w' sa S ∧ Ints w.heap.size w'.heap.size w' da D) ∧ Below w.heap.size w w'
theorem kind_one {ts : List M.Tk} {S D H : List Int} (hb : BkOk 1 ts S D) (hH : HdIs 1 S D H) : S = iFix ∧ D = iFive ∧ H = [] := by
  rcases hb.kind with ⟨_, h1, h2⟩ | ⟨h, _⟩
  · rcases hH with ⟨_, h3⟩ | ⟨h3, _⟩
    · exact ⟨h1, h2, h3⟩
    · omega
  · omega
set_option maxHeartbeats 8000000 in
theorem shorter_c (w : World) (hT : Tab w) (h0 : 0 < w.heap.size) (ta : Option Addr) (ct : Nat) (ts : List M.Tk) (hI : TkIn w ta ts) :
    Calls Tryd.prog 20 #[.slice ta ts.length ct] w (SRet w ta ct ts) := by
  obtain ⟨W, hWW⟩ : ∃ W, W = w.alloc (.cells bZ 43) := ⟨_, rfl⟩
  have blW : Below w.heap.size w W := by rw [hWW]; exact (Below.refl _ _).alloc (Nat.le_refl _) _
  have hWb : W.heap[w.heap.size]? = some (.cells bZ 43 (0, 0)) := by rw [hWW]; exact heap_new w _
  have hIW := hI.stay blW
  have hl := hI.len
  have HC := hide (count_c ta ct ts W hIW.t hIW.ok (by omega))
  have hTW : Tab W := hT.below blW h0
  have hzW : w.heap.size < W.heap.size := lt_of_block hWb
  have HF : Hid (∀ w1, TlOf w1 W.heap.size ts → Below W.heap.size W w1 → Calls Tryd.prog 16 #[.slice ta ts.length ct, .pointer (some ⟨W.heap.size, 0, none⟩)] w1 (BRet w1 ta ct ts 1)) := fun w1 ht hb => fixedBlock_c w1 (hTW.below hb (by omega)) (by have := hb.size; omega) ta ct W.heap.size ts (hIW.stay hb) ht
  have HDY : Hid (∀ w1, TlOf w1 W.heap.size ts → Below W.heap.size W w1 → Calls Tryd.prog 18 #[.slice ta ts.length ct, .pointer (some ⟨W.heap.size, 0, none⟩)] w1 (BRet w1 ta ct ts 2)) := fun w1 ht hb => dynamicBlock_c w1 (hTW.below hb (by omega)) (by have := hb.size; omega) ta ct W.heap.size ts (hIW.stay hb) ht
  have HE : Hid (w.alloc (.cells bZ 43) = W) := hWW.symm
  have HWB := hide hWb
  have HBW := hide blW
  have HI := hide hI
  clear hWW blW hWb hIW hTW hT hI
  go_enter Tryd.func20, Tryd.ntmps20
  go_upto_region 1 with fail
  rw [HE.out]
  go_upto_region 3 with (first
    | (go_at_call 17; refine HC.out.mono ?_; rintro e w1 ⟨rfl, t1, b1⟩; have HF1 := hide (HF.out w1 t1 b1); have T1 := hide t1; have B1 := hide b1; clear t1 b1 HC HF)
    | (go_at_call 16; refine HF1.out.mono ?_; rintro e w2 ⟨sa, cs, da, cd, S, D, H, hbk, hdy, hH, rfl, hat, hti, hb⟩; have HD2 := hide (HDY.out w2 (T1.out.below hb) (B1.out.trans (hb.mono B1.out.size))); have FB := hide hbk; have FH := hide hH; have FA := hide hti; have B2 := hide hb; clear hbk hdy hH hat hti hb HF1 HDY)
    | (go_at_call 18; refine HD2.out.mono ?_; rintro e w3 ⟨sa2, cs2, da2, cd2, S2, D2, H2, hbk, hdy, hH, rfl, hat, hti, hb⟩; have GB := hide hbk; have GD := hide (hdy rfl); have GH := hide hH; have GA := hide hti; have B3 := hide hb; clear hbk hdy hH hat hti hb HD2))
  obtain ⟨X1, hX1⟩ : ∃ X1, szB 1 H S D ts = X1 := ⟨_, rfl⟩
  obtain ⟨X2, hX2⟩ : ∃ X2, szB 2 H2 S2 D2 ts = X2 := ⟨_, rfl⟩
  rw [hX1, hX2]
  have HX1 := hide hX1
  have HX2 := hide hX2
  have kf : szB 1 H S D ts = szB 1 [] iFix iFive ts := by obtain ⟨rfl, rfl, rfl⟩ := kind_one FB.out FH.out; rfl
  have bl03 : Below W.heap.size W w3 := B1.out.trans ((B2.out.trans (B3.out.mono B2.out.size)).mono B1.out.size)
  obtain ⟨w4, hw4⟩ : ∃ w4, w4 = (w3.alloc (.cells #[.slice ta ts.length ct, .int .i64 1, .slice sa S.length cs, .slice da D.length cd, .int .i64 X1] 43)).alloc (.cells #[.slice ta ts.length ct, .int .i64 2, .slice sa2 S2.length cs2, .slice da2 D2.length cd2, .int .i64 X2] 43) := ⟨_, rfl⟩
  have bl34 : Below w3.heap.size w3 w4 := by rw [hw4]; exact ((Below.refl _ _).alloc (Nat.le_refl _) _).alloc (by simp) _
  have hp4 : w4.heap[w3.heap.size]? = some (.cells #[.slice ta ts.length ct, .int .i64 1, .slice sa S.length cs, .slice da D.length cd, .int .i64 X1] 43 (0, 0)) := by rw [hw4]; exact heap_new1 _ _ _
  have hp5 : w4.heap[w3.heap.size + 1]? = some (.cells #[.slice ta ts.length ct, .int .i64 2, .slice sa2 S2.length cs2, .slice da2 D2.length cd2, .int .i64 X2] 43 (0, 0)) := by rw [hw4]; exact heap_new2 _ _ _
  have hz4 : w4.heap[w.heap.size]? = some (.cells bZ 43 (0, 0)) := ((bl03.trans (bl34.mono bl03.size)).block _ (lt_of_block HWB.out)).trans HWB.out
  have hb4 : Below w.heap.size w w4 := HBW.out.trans ((bl03.trans (bl34.mono bl03.size)).mono HBW.out.size)
  have hs1 := B1.out.size
  have hs2 := B2.out.size
  have hs3 := B3.out.size
  have hs4 := bl34.size
  have fa : Ints w1.heap.size w3.heap.size w4 sa S ∧ Ints w1.heap.size w3.heap.size w4 da D := ⟨(((FA.out.1.stay B3.out).stay bl34)).wide (Nat.le_refl _) (by omega), (((FA.out.2.stay B3.out).stay bl34)).wide (Nat.le_refl _) (by omega)⟩
  have ga : Ints w2.heap.size w3.heap.size w4 sa2 S2 ∧ Ints w2.heap.size w3.heap.size w4 da2 D2 := ⟨GA.out.1.stay bl34, GA.out.2.stay bl34⟩
  have HE4 : Hid ((w3.alloc (.cells #[.slice ta ts.length ct, .int .i64 1, .slice sa S.length cs, .slice da D.length cd, .int .i64 X1] 43)).alloc (.cells #[.slice ta ts.length ct, .int .i64 2, .slice sa2 S2.length cs2, .slice da2 D2.length cd2, .int .i64 X2] 43) = w4) := hw4.symm
  rw [HE4.out]
  have a0 := cells_of hp4 0
  have a1 := cells_of hp4 1
  have a2 := cells_of hp4 2
  have a3 := cells_of hp4 3
  have a4 := cells_of hp4 4
  have b0 := cells_of hp5 0
  have b1 := cells_of hp5 1
  have b2 := cells_of hp5 2
  have b3 := cells_of hp5 3
  have b4 := cells_of hp5 4
  have z0 := cells_of hz4 0
  have z1 := cells_of hz4 1
  have z2 := cells_of hz4 2
  have z3 := cells_of hz4 3
  have z4 := cells_of hz4 4
  have y0 := free_of hz4 0
  have y1 := free_of hz4 1
  have y2 := free_of hz4 2
  have y3 := free_of hz4 3
  have y4 := free_of hz4 4
  simp at a0 a1 a2 a3 a4 b0 b1 b2 b3 b4 z0 z1 z2 z3 z4
  have hm : w.heap.size < w1.heap.size := by omega
  have hsz43 : w3.heap.size ≤ w4.heap.size := hs4
  clear hX1 hX2 hw4 bl03 bl34 hp4 hp5 hs4
  by_cases hlt : X2 < X1
  case pos =>
      have HFIN : Hid (∀ wf, wf = setBk w4 w.heap.size (.slice ta ts.length ct) (.int .i64 2) (.slice sa2 S2.length cs2) (.slice da2 D2.length cd2) (.int .i64 X2) → wf.heap[w.heap.size]? = some (.cells #[.slice ta ts.length ct, .int .i64 2, .slice sa2 S2.length cs2, .slice da2 D2.length cd2, .int .i64 X2] 43 (0, 0)) ∧ SRet w ta ct ts (.returned (.agg #[.slice ta ts.length ct, .int .i64 2, .slice sa2 S2.length cs2, .slice da2 D2.length cd2, .int .i64 X2])) wf) := fun wf hwf => by
        have hkf : Kept (fun i => i = w.heap.size) w4 wf := by rw [hwf]; exact setBk_kept (Kept.refl _ _) rfl
        have hbf : Below w.heap.size w wf := hb4.trans (hkf.below hb4.size (fun i hi e => by omega))
        refine ⟨by rw [hwf]; exact setBk_at hz4, 2, sa2, cs2, da2, cd2, S2, D2, H2, .inr rfl, GB.out, fun _ => GD.out, GH.out, ⟨by rw [HX2.out, ← kf, HX1.out]; omega, .inr ⟨rfl, GD.out, by rw [HX2.out, ← kf, HX1.out]; exact hlt⟩⟩, (by rw [HX2.out]; rfl), ⟨HI.out.t.stay hbf, fun b off e => Nat.lt_of_lt_of_le (HI.out.b b off e) hbf.size, ?_, ?_⟩, ⟨?_, ?_⟩, hbf⟩
        · exact ((ga.1.kept hkf (fun b h1 h2 e => by omega)).wide (Nat.zero_le _) (Nat.le_trans hsz43 hkf.size))
        · exact ((ga.2.kept hkf (fun b h1 h2 e => by omega)).wide (Nat.zero_le _) (Nat.le_trans hsz43 hkf.size))
        · exact ((ga.1.kept hkf (fun b h1 h2 e => by omega)).wide (by omega) (Nat.le_trans hsz43 hkf.size))
        · exact ((ga.2.kept hkf (fun b h1 h2 e => by omega)).wide (by omega) (Nat.le_trans hsz43 hkf.size))
      clear hz4 hb4 fa ga hm
      go_wp2_with fail
      obtain ⟨hf1, hf2⟩ := HFIN.out _ rfl
      exact bodyPost_ret (results_cell_row rfl _ _ w.heap.size 43 _ (0, 0) _ (by rfl) hf1 Tryd.underlying43 rfl infoBk) rfl hf2
  case neg =>
      have HFIN : Hid (∀ wf, wf = setBk w4 w.heap.size (.slice ta ts.length ct) (.int .i64 1) (.slice sa S.length cs) (.slice da D.length cd) (.int .i64 X1) → wf.heap[w.heap.size]? = some (.cells #[.slice ta ts.length ct, .int .i64 1, .slice sa S.length cs, .slice da D.length cd, .int .i64 X1] 43 (0, 0)) ∧ SRet w ta ct ts (.returned (.agg #[.slice ta ts.length ct, .int .i64 1, .slice sa S.length cs, .slice da D.length cd, .int .i64 X1])) wf) := fun wf hwf => by
        have hkf : Kept (fun i => i = w.heap.size) w4 wf := by rw [hwf]; exact setBk_kept (Kept.refl _ _) rfl
        have hbf : Below w.heap.size w wf := hb4.trans (hkf.below hb4.size (fun i hi e => by omega))
        refine ⟨by rw [hwf]; exact setBk_at hz4, 1, sa, cs, da, cd, S, D, H, .inl rfl, FB.out, fun e => (by omega), FH.out, ⟨by rw [← kf]; exact Int.le_refl _, .inl ⟨rfl, fun S' D' H' d1 d2 => by obtain ⟨rfl, rfl⟩ := GD.out.uniq d1; obtain rfl := GH.out.uniq d2; rw [HX2.out, ← kf, HX1.out]; omega⟩⟩, (by rw [HX1.out]; rfl), ⟨HI.out.t.stay hbf, fun b off e => Nat.lt_of_lt_of_le (HI.out.b b off e) hbf.size, ?_, ?_⟩, ⟨?_, ?_⟩, hbf⟩
        · exact ((fa.1.kept hkf (fun b h1 h2 e => by omega)).wide (Nat.zero_le _) (Nat.le_trans hsz43 hkf.size))
        · exact ((fa.2.kept hkf (fun b h1 h2 e => by omega)).wide (Nat.zero_le _) (Nat.le_trans hsz43 hkf.size))
        · exact ((fa.1.kept hkf (fun b h1 h2 e => by omega)).wide (by omega) (Nat.le_trans hsz43 hkf.size))
        · exact ((fa.2.kept hkf (fun b h1 h2 e => by omega)).wide (by omega) (Nat.le_trans hsz43 hkf.size))
      clear hz4 hb4 fa ga hm
      go_wp2_with fail
      obtain ⟨hf1, hf2⟩ := HFIN.out _ rfl
      exact bodyPost_ret (results_cell_row rfl _ _ w.heap.size 43 _ (0, 0) _ (by rfl) hf1 Tryd.underlying43 rfl infoBk) rfl hf2
end Go.Proofs.YtlakgbckopjelabDoor

/- cut (of tokens that make one row), size: contracts. -/
namespace Go.Proofs.YtlakgbckopjelabDoor
set_option maxRecDepth 100000
open Go Go.RowKit

theorem Tryd.infoToks : (Tryd.prog.info? 31).map (fun i => (i.zero, i.size, i.bytes)) = some (some (.slice none 0 0), 1, 24) := by kernel_rfl
/-- One row. -/
def CutOne (w : World) (ta : Option Addr) (n : Nat) (e : Ending) (w' : World) : Prop := ∃ g cap, e = .returned (.slice (some ⟨g, 0, none⟩) 1 cap) ∧ w.heap.size ≤ g ∧ w'.cell? ⟨g, 0, none⟩ = some (.slice ta n n) ∧ Below w.heap.size w w'
set_option maxHeartbeats 1000000 in
theorem cut_one (w : World) (ta : Option Addr) (ct n : Nat) (hn : n ≤ 16384) (hc : n ≤ ct) (hnil : ta = none → ct = 0) :
    Calls Tryd.prog 21 #[.slice ta n ct, .int .i64 16384] w (CutOne w ta n) := by
  obtain ⟨i0, hi, hz0, hz1, hz2⟩ := info_parts Tryd.infoToks
  have hng : ¬ (16384 : Int) < (n : Int) := by omega
  have hcc : (n : Int) ≤ (ct : Int) := by omega
  have hz : (0 : Int) ≤ (n : Int) := by omega
  have HF : Hid (∀ v w', (w.alloc (.cells #[.slice ta n n] 31)).grownBy w' none → w'.ownsRow w.heap.size 31 1 v (0 + 1) ([] ++ [.slice ta n n]) → ∃ a cap, v = .slice a 1 cap ∧ CutOne w ta n (.returned (.slice a 1 cap)) w') := fun v w' hg ho => by
    rcases ho.2 with ⟨_, h2⟩ | ⟨g, cap, cur, rfl, hg1, hh, _, _, _, h4⟩
    · omega
    · refine ⟨_, cap, rfl, g, cap, rfl, hg1, ?_, ?_⟩
      · rw [cells_of hh]
        have e : (cur.toList.take ((0 + 1) * 1))[0]? = ([] ++ [Value.slice ta n n])[0]? := by rw [h4]
        rw [List.getElem?_take_of_lt (by decide), Array.getElem?_toList] at e
        rw [e]; rfl
      · exact (Kept.trans (Kept.alloc (fun _ => False) (Kept.refl _ w) _) (Kept.of_grown hg) (fun i _ e => by cases e)).below (Nat.le_refl _) (fun _ _ e => e)
  cases ta with
  | none =>
    obtain rfl := hnil rfl
    obtain rfl : n = 0 := by omega
    go_enter Tryd.func21, Tryd.ntmps21
    go_wp2_with fail
    go_loopg [0, 5] 0 (fun gk v0 v5 wx => v0 = .slice none 0 0 ∧ v5 = .slice none 0 0 ∧ w = wx)
    case atStart => exact ⟨rfl, rfl, rfl⟩
    case round =>
    obtain ⟨rfl, rfl, rfl⟩ := hrel
    go_wp2_with (at_builtin; refine wpList_append_own _ rfl (.tmp 20) (.tmp 27) 49 rfl w.heap.size 31 i0 (.slice none 0 0) 1 24 Tryd.underlying49 hi hz0 hz1 hz2 rfl (by decide) (.slice none 0 0) 0 [] (by rfl) (World.ownsRow_nil _ _ _ _) ⟨w.heap.size, 0, none⟩ 1 1 [.slice none 0 0] (by rfl) (by rfl) (World.news_of_block (heap_new w _)) (by intro u hu; simp at hu; subst hu; rfl) (by unfold maxLen; omega) (by omega) (by simp) ?_; intro v9 w9 ow9 gr9 nl9; obtain ⟨a9, c9, rfl, hq⟩ := HF.out v9 w9 gr9 ow9; have HQ := hide hq; clear ow9 gr9 nl9 hq)
    go_ret
    exact HQ.out
  | some ad =>
    go_enter Tryd.func21, Tryd.ntmps21
    go_wp2_with fail
    go_loopg [0, 5] 0 (fun gk v0 v5 wx => v0 = .slice (some ad) n ct ∧ v5 = .slice none 0 0 ∧ w = wx)
    case atStart => exact ⟨rfl, rfl, rfl⟩
    case round =>
    obtain ⟨rfl, rfl, rfl⟩ := hrel
    go_wp2_with (at_builtin; refine wpList_append_own _ rfl (.tmp 20) (.tmp 27) 49 rfl w.heap.size 31 i0 (.slice none 0 0) 1 24 Tryd.underlying49 hi hz0 hz1 hz2 rfl (by decide) (.slice none 0 0) 0 [] (by rfl) (World.ownsRow_nil _ _ _ _) ⟨w.heap.size, 0, none⟩ 1 1 [.slice (some ad) n n] (by rfl) (by rfl) (World.news_of_block (heap_new w _)) (by intro u hu; simp at hu; subst hu; rfl) (by unfold maxLen; omega) (by omega) (by simp) ?_; intro v9 w9 ow9 gr9 nl9; obtain ⟨a9, c9, rfl, hq⟩ := HF.out v9 w9 gr9 ow9; have HQ := hide hq; clear ow9 gr9 nl9 hq)
    go_ret
    exact HQ.out
set_option maxHeartbeats 1000000 in
theorem size_one (w : World) (b off cap : Nat) (q : Bq) (hq : Bqs w b off [q]) (hs : 0 ≤ q.sz ∧ q.sz ≤ 1000000000) :
    Calls Tryd.prog 22 #[.slice (some ⟨b, off, none⟩) 1 cap] w fun e w' => e = .returned (.int .i64 q.sz) ∧ Below w.heap.size w w' := by
  obtain ⟨c0, c1, c2, c3, c4⟩ := hq.2 0 (by simp)
  have e : qAt [q] 0 = q := rfl
  rw [e] at c0 c1 c2 c3 c4
  simp only [Nat.zero_mul, Nat.add_zero] at c0 c1 c2 c3 c4
  obtain ⟨ta, ct, ts, k, sa, cs, da, cd, S, D, sz⟩ := q
  simp only at c0 c1 c2 c3 c4 hs
  have HB : Hid (Below w.heap.size w (w.alloc (.cells (bA ta ts.length ct k sa S.length cs da D.length cd sz) 43))) := (Below.refl _ _).alloc (Nat.le_refl _) _
  clear hq e
  go_enter Tryd.func22, Tryd.ntmps22
  go_wp2_with fail
  go_loopg [3, 8] 1 (fun gk v3 v8 wx => (gk = 1 ∧ v3 = .int .i64 0 ∧ v8 = .int .i64 0 ∧ w = wx) ∨ (gk = 0 ∧ v3 = .int .i64 sz ∧ v8 = .int .i64 1 ∧ Hid (Below w.heap.size w wx)))
  case atStart => exact .inl ⟨rfl, rfl, rfl, rfl⟩
  case round =>
    rcases hrel with ⟨rfl, rfl, rfl, rfl⟩ | ⟨rfl, rfl, rfl, HW⟩
    · go_wp2_with fail
      go_roundg 0
      case measure => omega
      case rel => exact .inr ⟨rfl, by go_num, rfl, HB⟩
    · go_wp2_with fail
      go_ret
      exact ⟨rfl, HW.out⟩
end Go.Proofs.YtlakgbckopjelabDoor

/- shortest (of tokens that make one row): contract. -/
namespace Go.Proofs.YtlakgbckopjelabDoor
set_option maxRecDepth 100000
open Go Go.RowKit

theorem Tryd.infoBlk : (Tryd.prog.info? 43).map (fun i => (i.zero, i.size, i.bytes)) = some (some (.agg bZ), 5, 88) := by kernel_rfl
/-- One block, told in a row. -/
def OneQ (w : World) (ts : List M.Tk) (e : Ending) (w' : World) : Prop := ∃ b off cap q, e = .returned (.slice (some ⟨b, off, none⟩) 1 cap) ∧ b < w'.heap.size ∧ Bqs w' b off [q] ∧ q.In w'.heap.size w' ∧ q.ts = ts ∧ (∃ H, HdIs q.k q.S q.D H ∧ q.sz = szB q.k H q.S q.D ts) ∧ Chs ts q.k q.S q.D q.sz ∧ Below w.heap.size w w'
theorem sz_bd {k : Nat} {H S D : List Int} {ts : List M.Tk} (hb : BkOk k ts S D) (hH : HdIs k S D H) : 0 ≤ szB k H S D ts ∧ szB k H S D ts ≤ 1000000000 := by
  have h1 := mco_nonneg false (check_ok hb.cs).2.1 (emk ts)
  have h2 := mco_nonneg true (check_ok hb.cd).2.1 (emk ts)
  have h3 := emk_len ts
  have h4 := hb.len
  have h5 := hd_len hH
  unfold szB
  omega
/-- A block in a row of its own. -/
structure QF (ts : List M.Tk) (wx : World) (b : Nat) (q : Bq) : Prop where
  lt : b < wx.heap.size
  row : Bqs wx b 0 [q]
  inn : q.In wx.heap.size wx
  ts_ : q.ts = ts
  hd : ∃ H, HdIs q.k q.S q.D H ∧ q.sz = szB q.k H q.S q.D ts
  le : Chs ts q.k q.S q.D q.sz
theorem QF.stay {ts : List M.Tk} {wx wy : World} {b : Nat} {q : Bq} (h : QF ts wx b q) (k : Below wx.heap.size wx wy) : QF ts wy b q := ⟨Nat.lt_of_lt_of_le h.lt k.size, h.row.below k h.lt, (h.inn.below k).wide k.size, h.ts_, h.hd, h.le⟩
theorem QF.bd {ts : List M.Tk} {wx : World} {b : Nat} {q : Bq} (h : QF ts wx b q) : 0 ≤ q.sz ∧ q.sz ≤ 1000000000 := by
  obtain ⟨H, h1, h2⟩ := h.hd
  have h3 := h.inn.ok
  rw [h.ts_] at h3
  rw [h2]; exact sz_bd h3 h1
theorem QF.mk' {ts : List M.Tk} {wx : World} {b k ct cs cd : Nat} {ta sa da : Option Addr} {S D H : List Int} {sz : Int} (hb : b < wx.heap.size) (hc : ∀ j u, ([.slice ta ts.length ct, .int .i64 (k : Int), .slice sa S.length cs, .slice da D.length cd, .int .i64 sz] : List Value)[j]? = some u → wx.cell? ⟨b, j, none⟩ = some u) (hbk : BkOk k ts S D) (hat : BkAt wx.heap.size wx ta sa da ts S D) (hH : HdIs k S D H) (hsz : sz = szB k H S D ts) (hle : Chs ts k S D sz) :
    QF ts wx b ⟨ta, ct, ts, k, sa, cs, da, cd, S, D, sz⟩ := by
  refine ⟨hb, ⟨hb, fun i hi => ?_⟩, ⟨hbk, hat⟩, rfl, ⟨H, hH, hsz⟩, hle⟩
  obtain rfl : i = 0 := by simpa using hi
  have e : qAt [(⟨ta, ct, ts, k, sa, cs, da, cd, S, D, sz⟩ : Bq)] 0 = ⟨ta, ct, ts, k, sa, cs, da, cd, S, D, sz⟩ := rfl
  rw [e]
  simp only [Nat.zero_mul, Nat.add_zero, Nat.zero_add]
  exact ⟨hc 0 _ rfl, hc 1 _ rfl, hc 2 _ rfl, hc 3 _ rfl, hc 4 _ rfl⟩
set_option maxHeartbeats 8000000 in
theorem shortest_c (w : World) (hT : Tab w) (h0 : 0 < w.heap.size) (ta : Option Addr) (ct : Nat) (ts : List M.Tk) (hI : TkIn w ta ts) (hn : ts.length ≤ 16384) (hc : ts.length ≤ ct) (hnil : ta = none → ct = 0) :
    Calls Tryd.prog 10 #[.slice ta ts.length ct] w (OneQ w ts) := by
  obtain ⟨i0, hi0, hz0, hz1, hz2⟩ := info_parts Tryd.infoBlk
  have HS1 := hide (shorter_c w hT h0 ta ct ts hI)
  have HS2 : Hid (∀ w3, Below w.heap.size w w3 → Calls Tryd.prog 20 #[.slice ta ts.length ts.length] w3 (SRet w3 ta ts.length ts)) := fun w3 hb => shorter_c w3 (hT.below hb h0) (Nat.lt_of_lt_of_le h0 hb.size) ta ts.length ts (hI.stay hb)
  have HCU := fun W => hide (cut_one W ta ct ts.length hn hc hnil)
  clear hT hI
  go_enter Tryd.func10, Tryd.ntmps10
  go_upto_region 4 with (first
    | (go_at_call 20; refine HS1.out.mono ?_; rintro e w1 ⟨k1, sa1, cs1, da1, cd1, S1, D1, H1, hk1, hb1, hd1, hh1, hl1, rfl, ha1, -, bl1⟩; have A1 := hide ha1; have G1 := hide hb1; have HH1 := hide hh1; have L1 := hide hl1; have B1 := hide bl1; clear hk1 hb1 hd1 hh1 hl1 ha1 bl1 HS1)
    | (go_at_call 21; refine (HCU _).out.mono ?_; rintro e w2 ⟨g2, c2, rfl, hg2, hc2, bl2⟩; have HG2 := hide hg2; have C2 := hide hc2; have B2 := hide bl2; clear hg2 hc2 bl2 HCU))
  obtain ⟨X1, hX1⟩ : ∃ X1, szB k1 H1 S1 D1 ts = X1 := ⟨_, rfl⟩
  rw [hX1]
  have HX1 := hide hX1
  obtain ⟨w1b, hw1b⟩ : ∃ w1b, w1b = w1.alloc (.cells (bA ta ts.length ct k1 sa1 S1.length cs1 da1 D1.length cd1 X1) 43) := ⟨_, rfl⟩
  rw [hX1] at B2 HG2
  have B2' : Hid (Below w1b.heap.size w1b w2) := hide (by rw [hw1b]; exact B2.out)
  have hb1b : Below w1.heap.size w1 w1b := by rw [hw1b]; exact (Below.refl _ _).alloc (Nat.le_refl _) _
  have hq1 : QF ts w1b w1.heap.size ⟨ta, ct, ts, k1, sa1, cs1, da1, cd1, S1, D1, X1⟩ := by
    have hblk : w1b.heap[w1.heap.size]? = some (.cells (bA ta ts.length ct k1 sa1 S1.length cs1 da1 D1.length cd1 X1) 43 (0, 0)) := by rw [hw1b]; exact heap_new w1 _
    refine QF.mk' (H := H1) (lt_of_block hblk) (fun j u hj => ?_) G1.out ((A1.out.below hb1b).wide hb1b.size) HH1.out HX1.out.symm (by rw [← HX1.out]; exact L1.out)
    rw [cells_of hblk]
    rw [← hj]; simp [bA]
  have Q1 := hide (hq1.stay B2'.out)
  have BW2 : Hid (Below w.heap.size w w2) := B1.out.trans ((hb1b.trans (B2'.out.mono hb1b.size)).mono B1.out.size)
  have HSX := hide (HS2.out w2 BW2.out)
  obtain ⟨p1, hp1⟩ : ∃ p1, w1.heap.size = p1 := ⟨_, rfl⟩
  rw [hp1] at Q1 ⊢
  obtain ⟨q1, hq1e⟩ : ∃ q1 : Bq, q1 = ⟨ta, ct, ts, k1, sa1, cs1, da1, cd1, S1, D1, X1⟩ := ⟨_, rfl⟩
  rw [← hq1e] at Q1
  have cc := C2.out
  clear hX1 hw1b hb1b hq1 B2 B2' A1 G1 HH1 L1 B1 HG2 HS2 C2 hp1 hq1e HX1
  go_loopg [4, 13] 1 (fun gk v4 v13 wx => (gk = 1 ∧ v4 = .slice none 0 0 ∧ v13 = .int .i64 0 ∧ w2 = wx) ∨ (gk = 0 ∧ v13 = .int .i64 1 ∧ ∃ (g4 c4 : Nat) (q2 : Bq), v4 = .slice (some ⟨g4, 0, none⟩) 1 c4 ∧ Hid (QF ts wx g4 q2) ∧ Hid (QF ts wx p1 q1) ∧ Hid (Below w.heap.size w wx)))
  case atStart => exact .inl ⟨rfl, rfl, rfl, rfl⟩
  case round =>
    rcases hrel with ⟨rfl, rfl, rfl, rfl⟩ | ⟨rfl, rfl, g4, c4, q2, rfl, Q2, Q1', BW⟩
    · have HPU : Hid (∀ (w3 : World) (k sa cs da cd) (S D H : List Int) (v9 : Value) (w9 : World), Below w2.heap.size w2 w3 → BkOk k ts S D → HdIs k S D H → Chs ts k S D (szB k H S D ts) → BkAt w3.heap.size w3 ta sa da ts S D → w9.ownsRow w2.heap.size 43 5 v9 (0 + 1) ([] ++ [.slice ta ts.length ts.length, .int .i64 (k : Int), .slice sa S.length cs, .slice da D.length cd, .int .i64 (szB k H S D ts)]) → (w3.alloc (.cells (bA ta ts.length ts.length k sa S.length cs da D.length cd (szB k H S D ts)) 43)).grownBy w9 none → ∃ (g4 c4 : Nat) (q2 : Bq), v9 = .slice (some ⟨g4, 0, none⟩) 1 c4 ∧ QF ts w9 g4 q2 ∧ QF ts w9 p1 q1 ∧ Below w.heap.size w w9) := fun w3 k sa cs da cd S D H v9 w9 hb3 hbk hH hle hat ho hg => by
        have hb9 : Below w3.heap.size w3 w9 := (Kept.trans (Kept.alloc (fun _ => False) (Kept.refl _ w3) _) (Kept.of_grown hg) (fun i _ e => by cases e)).below (Nat.le_refl _) (fun _ _ e => e)
        have hb29 : Below w2.heap.size w2 w9 := hb3.trans (hb9.mono hb3.size)
        rcases ho.2 with ⟨_, h2⟩ | ⟨g, cap, cur, rfl, hg1, hh, _, _, _, h4⟩
        · omega
        · refine ⟨g, cap, ⟨ta, ts.length, ts, k, sa, cs, da, cd, S, D, szB k H S D ts⟩, rfl, ?_, Q1.out.stay hb29, BW2.out.trans (hb29.mono BW2.out.size)⟩
          refine QF.mk' (H := H) (lt_of_block hh) (fun j u hj => ?_) hbk ((hat.below hb9).wide hb9.size) hH rfl hle
          have hj5 : j < 5 := by
            rcases Nat.lt_or_ge j 5 with h | h
            · exact h
            · rw [List.getElem?_eq_none (by simpa using h)] at hj; cases hj
          rw [cells_of hh]
          have e : (cur.toList.take ((0 + 1) * 5))[j]? = some u := by rw [h4]; exact hj
          rwa [List.getElem?_take_of_lt (by omega), Array.getElem?_toList] at e
      go_wp2_with (first
        | (go_at_call 20; refine HSX.out.mono ?_; rintro e w3 ⟨k3, sa3, cs3, da3, cd3, S3, D3, H3, hk3, hb3, hd3, hh3, hl3, rfl, ha3, -, bl3⟩; have HP3 := hide (fun v9 w9 => HPU.out w3 k3 sa3 cs3 da3 cd3 S3 D3 H3 v9 w9 bl3 hb3 hh3 hl3 ha3); have BL3 := hide bl3; clear hk3 hb3 hd3 hh3 hl3 ha3 bl3 HSX HPU)
        | (at_builtin; refine wpList_append_own _ rfl (.tmp 17) (.tmp 20) 33 rfl w2.heap.size 43 i0 (.agg bZ) 5 88 Tryd.underlying33 hi0 hz0 hz1 hz2 rfl (by decide) (.slice none 0 0) 0 [] (by rfl) (World.ownsRow_nil _ _ _ _) ⟨w3.heap.size, 0, none⟩ 1 1 [.slice ta ts.length ts.length, .int .i64 (k3 : Int), .slice sa3 S3.length cs3, .slice da3 D3.length cd3, .int .i64 (szB k3 H3 S3 D3 ts)] (by rfl) (by rfl) (World.news_of_block (heap_new w3 _)) (by intro u hu; simp at hu; rcases hu with rfl | rfl | rfl | rfl | rfl <;> rfl) (by unfold maxLen; omega) (by omega) (by have := BL3.out.size; simp; omega) ?_; intro v9 w9 ow9 gr9 nl9; obtain ⟨g9, c9, q9, rfl, x1, x2, x3⟩ := HP3.out v9 w9 ow9 gr9; have HQ9 := hide x1; have HQ1 := hide x2; have HB9 := hide x3; clear ow9 gr9 nl9 x1 x2 x3 HP3))
      go_roundg 0
      case measure => omega
      case rel => exact .inr ⟨rfl, rfl, g9, c9, q9, rfl, HQ9, HQ1, HB9⟩
    · have HZ1 := hide (size_one wr g4 0 c4 q2 Q2.out.row Q2.out.bd)
      have HZ2 : Hid (∀ w5, Below wr.heap.size wr w5 → Calls Tryd.prog 22 #[.slice (some ⟨p1, 0, none⟩) 1 1] w5 fun e w' => e = .returned (.int .i64 q1.sz) ∧ Below w5.heap.size w5 w') := fun w5 h5 => size_one w5 p1 0 1 q1 (Q1'.out.stay h5).row Q1'.out.bd
      have HO2 : Hid (∀ w6, Below wr.heap.size wr w6 → OneQ w ts (.returned (.slice (some ⟨g4, 0, none⟩) 1 c4)) w6) := fun w6 h6 => by
        have hq := Q2.out.stay h6
        exact ⟨g4, 0, c4, q2, rfl, hq.lt, hq.row, hq.inn, hq.ts_, hq.hd, hq.le, BW.out.trans (h6.mono BW.out.size)⟩
      have HO1 : Hid (∀ w6, Below wr.heap.size wr w6 → OneQ w ts (.returned (.slice (some ⟨p1, 0, none⟩) 1 1)) w6) := fun w6 h6 => by
        have hq := Q1'.out.stay h6
        exact ⟨p1, 0, 1, q1, rfl, hq.lt, hq.row, hq.inn, hq.ts_, hq.hd, hq.le, BW.out.trans (h6.mono BW.out.size)⟩
      generalize q2.sz = Y2 at HZ1
      generalize q1.sz = Y1 at HZ2
      clear Q1 Q1' Q2 BW BW2 HSX
      by_cases hlt : Y2 < Y1
      case pos =>
        go_wp2_with (first
          | (go_at_call 22; refine HZ1.out.mono ?_; rintro e w5 ⟨rfl, b5⟩; have H5 := hide (HZ2.out w5 b5); have B5 := hide b5; clear b5 HZ1 HZ2)
          | (go_at_call 22; refine H5.out.mono ?_; rintro e w6 ⟨rfl, b6⟩; have B6 := hide (B5.out.trans (b6.mono B5.out.size)); clear b6 H5))
        go_ret
        exact HO2.out w6 B6.out
      case neg =>
        go_wp2_with (first
          | (go_at_call 22; refine HZ1.out.mono ?_; rintro e w5 ⟨rfl, b5⟩; have H5 := hide (HZ2.out w5 b5); have B5 := hide b5; clear b5 HZ1 HZ2)
          | (go_at_call 22; refine H5.out.mono ?_; rintro e w6 ⟨rfl, b6⟩; have B6 := hide (B5.out.trans (b6.mono B5.out.size)); clear b6 H5))
        go_ret
        exact HO1.out w6 B6.out
end Go.Proofs.YtlakgbckopjelabDoor

/- Deflate (of data that makes one row of tokens): contract. -/
namespace Go.Proofs.YtlakgbckopjelabDoor
set_option maxRecDepth 100000
open Go Go.RowKit

/-- What Deflate makes of data. -/
def DefIs (zs : List Int) (lv : Int) (X : List Int) : Prop := (lv < 1 → X = stB zs) ∧ (1 ≤ lv → ∃ ts k S D H0 H, M.Rt ts ∧ M.Bt ts ∧ M.tel ts = zs ∧ ts.length ≤ zs.length ∧ M.FdTo zs zs.length ts ∧ BkOk k ts S D ∧ HdIs k S D H0 ∧ HdIs k S D H ∧ szB k H0 S D ts ≤ szB 1 [] iFix iFive ts ∧
  ((X = dataL (blB k true H S D ts) ∧ X.length ≤ (stB zs).length) ∨ (X = stB zs ∧ (stB zs).length < (dataL (blB k true H S D ts)).length)))
def DefRet (w : World) (zs : List Int) (lv : Int) (e : Ending) (w' : World) : Prop := ∃ g cap X, e = .returned (.slice (some ⟨g, 0, none⟩) X.length cap) ∧ OwnsB w' w.heap.size (.slice (some ⟨g, 0, none⟩) X.length cap) X ∧ DefIs zs lv X ∧ Below w.heap.size w w'
theorem o_below {w1 w2 : World} {b : Nat} {v : Value} {D : List Int} (h : OwnsB w1 b v D) (k : Below w1.heap.size w1 w2) : OwnsB w2 b v D := OwnsB.below h k
theorem text_bys {B : Nat} {w : World} {a : Option Addr} {zs : List Int} (h : Text B w a zs.length zs) (hB : B ≤ w.heap.size) : M.Bys w a zs := by
  obtain ⟨_, h2, h3⟩ := h
  refine ⟨?_, fun i => h2 i⟩
  rcases h3 with h3 | ⟨b, off, hb, e, hc⟩
  · exact .inl h3
  · exact .inr ⟨b, off, by omega, e, fun i hi => hc i hi⟩
set_option maxHeartbeats 8000000 in
theorem deflate_any (w : World) (hT : Tab w) (h0 : 0 < w.heap.size) (a : Option Addr) (cap : Nat) (zs : List Int) (lv : Int) (ht : Text w.heap.size w a zs.length zs) (hnil : a = none → zs.length = 0 ∧ cap = 0) (hcap : zs.length ≤ cap) (hcm : cap ≤ 9223372036854775807) (hl : zs.length ≤ 1000000) (hone : ∀ ts : List M.Tk, M.FdTo zs zs.length ts → ts.length ≤ zs.length → ts.length ≤ 16384) :
    Calls Tryd.prog 5 #[.slice a zs.length cap, .int .i64 lv] w (DefRet w zs lv) := by
  have HSO := hide (stored_c w a cap zs ht hnil hcap (by omega))
  have hz : ∀ i, 0 ≤ M.ln zs i ∧ M.ln zs i ≤ 255 := fun i => ht.2.1 i
  have HT := hide hT
  have HTX := hide ht
  have HONE := hide hone
  clear hone
  by_cases hlv : lv < 1
  · have HQ : Hid (∀ e w', StoRet w zs e w' → ∃ g c, e = .returned (.slice (some ⟨g, 0, none⟩) (stB zs).length c) ∧ DefRet w zs lv (.returned (.slice (some ⟨g, 0, none⟩) (stB zs).length c)) w') := fun e w' h => by
      obtain ⟨g, c, rfl, h1, h2⟩ := h
      exact ⟨g, c, rfl, g, c, stB zs, rfl, h1, ⟨fun _ => rfl, fun h => by omega⟩, h2⟩
    generalize stB zs = ST at HQ
    clear hT ht hnil hz HT HTX HONE
    go_enter Tryd.func5, Tryd.ntmps5
    go_wp2_with (go_at_call 6; refine HSO.out.mono ?_; intro e w1 h1; obtain ⟨g, c, rfl, hq⟩ := HQ.out _ _ h1; have HR := hide hq; clear h1 hq HSO HQ)
    go_ret
    exact HR.out
  · have HFI : Hid (∀ w1, Below w.heap.size w w1 → Calls Tryd.prog 11 #[.slice a zs.length cap, .int .i64 lv] w1 (M.FindOk zs lv w1)) := fun w1 hb => M.find_c a cap zs lv w1 (text_bys (B := w.heap.size) (HTX.out.kept (Kept.of_below hb) (fun b hb' e => by omega)) hb.size) (by omega) hcap hcm
    have hlv' : 1 ≤ lv := by omega
    clear hT ht hnil
    go_enter Tryd.func5, Tryd.ntmps5
    go_upto_region 4 with (go_at_call 6; refine HSO.out.mono ?_; rintro e w1 ⟨g1, c1, rfl, o1, b1⟩; have HF1 := hide (HFI.out w1 b1); have O1 := hide o1; have B1 := hide b1; clear o1 b1 HSO HFI)
    have HSH : Hid (∀ w2 e, M.FindOk zs lv w1 e w2 → ∃ ta ct ts, e = .returned (.slice ta ts.length ct) ∧ M.Rt ts ∧ M.Bt ts ∧ M.tel ts = zs ∧ ts.length ≤ zs.length ∧ M.FdTo zs zs.length ts ∧ Below w1.heap.size w1 w2 ∧ Calls Tryd.prog 10 #[.slice ta ts.length ct] w2 (OneQ w2 ts)) := fun w2 e h => by
      obtain ⟨ta, ct, ts, rfl, ht, hb, hr, hbt, htel, hm, hfd, how⟩ := h.all hz
      obtain ⟨a', c', hv, htk, hblk, hnl, hcl⟩ := how.form
      simp only [Value.slice.injEq] at hv
      obtain ⟨rfl, _, rfl⟩ := hv
      have hb2 : Below w.heap.size w w2 := B1.out.trans (hb.mono B1.out.size)
      have h16 := HONE.out ts (hfd hlv').1 hm
      refine ⟨ta, ct, ts, rfl, hr, hbt, htel, hm, (hfd hlv').1, hb, shortest_c w2 (HT.out.below hb2 h0) (Nat.lt_of_lt_of_le h0 hb2.size) ta ct ts ⟨htk, fun b off e => (hblk b off e).2, TOk.of hr hbt, by omega⟩ (by omega) hcl (fun e => (hnl e).2)⟩
    go_upto_region 5 with (first
      | (go_at_call 11; refine HF1.out.mono ?_; intro e w2 hf; obtain ⟨ta, ct, ts, rfl, f1, f2, f3, f4, f5, f6, f7⟩ := HSH.out w2 e hf; have F1 := hide f1; have F2 := hide f2; have F3 := hide f3; have F4 := hide f4; have F5 := hide f5; have B2 := hide (B1.out.trans (f6.mono B1.out.size)); have O2 := hide (o_below O1.out f6); have HS2 := hide f7; clear hf f1 f2 f3 f4 f5 f6 f7 HF1 HSH)
      | (go_at_call 10; refine HS2.out.mono ?_; rintro e w3 ⟨b3, off3, c3, q, rfl, l3, r3, i3, t3, hd3, le3, bl3⟩; have HST := hide (stream_c w3 (HT.out.below (B2.out.trans (bl3.mono B2.out.size)) h0) (by have := B2.out.size; have := bl3.size; omega) b3 off3 c3 [q] r3 (by simp) (fun x hx => by rw [List.mem_singleton.1 hx]; exact i3) (by unfold few; simp; have := HONE.out _ F5.out F4.out; rw [t3]; omega)); have I3 := hide i3; have T3 := hide t3; have HD3 := hide hd3; have LE3 := hide le3; have B3 := hide (B2.out.trans (bl3.mono B2.out.size)); have O3 := hide (o_below O2.out bl3); clear l3 r3 i3 t3 hd3 le3 bl3 HS2)
      | (go_at_call 9; refine HST.out.mono ?_; rintro e w4 ⟨xs, g4, c4, hh4, rfl, o4, bl4⟩; have HH4 := hide hh4; have O4 := hide o4; have B4 := hide (B3.out.trans (bl4.mono B3.out.size)); have O3b := hide (o_below O3.out bl4); have BS := hide B3.out.size; clear hh4 o4 bl4 HST))
    obtain ⟨H, hx, hH⟩ : ∃ H, strN 1 xs = blB q.k true H q.S q.D q.ts ∧ HdIs q.k q.S q.D H := by
      obtain ⟨h1, h2⟩ := HH4.out
      obtain ⟨x, rfl⟩ : ∃ x, xs = [x] := by
        have := congrArg List.length h1
        rw [List.length_map] at this
        exact List.length_eq_one_iff.1 this
      simp only [List.map_cons, List.map_nil, List.cons.injEq, and_true] at h1
      have hx := h2 x (by simp)
      obtain ⟨y, H⟩ := x
      simp only at h1 hx
      subst h1
      exact ⟨H, by simp [strN], hx⟩
    have hlen1 : [q].length = 1 := rfl
    rw [hlen1, hx] at O4
    rw [hx]
    have HOUT : Hid (∀ X g c, OwnsB w4 w.heap.size (.slice (some ⟨g, 0, none⟩) X.length c) X → ((X = dataL (blB q.k true H q.S q.D q.ts) ∧ X.length ≤ (stB zs).length) ∨ (X = stB zs ∧ (stB zs).length < (dataL (blB q.k true H q.S q.D q.ts)).length)) → DefRet w zs lv (.returned (.slice (some ⟨g, 0, none⟩) X.length c)) w4) := fun X g c ho hX => by
      obtain ⟨H0, hH0, hsz⟩ := HD3.out
      have hts := T3.out
      have hle := LE3.out.1
      rw [hsz] at hle
      have hok := I3.out.ok
      subst hts
      exact ⟨g, c, X, rfl, ho, ⟨fun h => by omega, fun _ => ⟨q.ts, q.k, q.S, q.D, H0, H, F1.out, F2.out, F3.out, F4.out, F5.out, hok, hH0, hH, hle, hX⟩⟩, B4.out⟩
    have O4' := hide (OwnsB.low O4.out BS.out)
    generalize dataL (blB q.k true H q.S q.D q.ts) = Y at O4' HOUT ⊢
    generalize stB zs = ST at O3b HOUT ⊢
    clear hx hH HH4 O4 O1 O2 O3 HD3 T3 LE3 I3 F1 F2 F3 F4 F5 B1 B2 B3 B4 BS HT HTX HONE hz hlen1
    by_cases hle : Y.length ≤ ST.length
    case pos =>
      have hle' : (Y.length : Int) ≤ (ST.length : Int) := by omega
      have HR := hide (HOUT.out Y g4 c4 O4'.out (.inl ⟨rfl, hle⟩))
      clear HOUT
      go_wp2_with fail
      go_ret
      exact HR.out
    case neg =>
      have hle' : ¬ (Y.length : Int) ≤ (ST.length : Int) := by omega
      have HR := hide (HOUT.out ST g1 c1 O3b.out (.inr ⟨rfl, by omega⟩))
      clear HOUT
      go_wp2_with fail
      go_ret
      exact HR.out
theorem deflate_c (w : World) (hT : Tab w) (h0 : 0 < w.heap.size) (a : Option Addr) (cap : Nat) (zs : List Int) (lv : Int) (ht : Text w.heap.size w a zs.length zs) (hnil : a = none → zs.length = 0 ∧ cap = 0) (hcap : zs.length ≤ cap) (hcm : cap ≤ 9223372036854775807) (hl : zs.length ≤ 16384) :
    Calls Tryd.prog 5 #[.slice a zs.length cap, .int .i64 lv] w (DefRet w zs lv) := deflate_any w hT h0 a cap zs lv ht hnil hcap hcm (by omega) (fun ts _ h => by omega)
end Go.Proofs.YtlakgbckopjelabDoor
