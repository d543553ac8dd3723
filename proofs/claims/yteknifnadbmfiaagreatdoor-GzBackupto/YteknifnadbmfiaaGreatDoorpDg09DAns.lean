/- Several texts, laid together: DShst, DDef, DAns. -/
import Derived.Test.YteknifnadbmfiaaGreatDoorpDg08DCut
import Derived.Test.YteknifnadbmfiaaGreatDoorpMg04MFinds0
/- shortest (of tokens that make one row): contract. -/
namespace Go.Proofs.YteknifnadbmfiaaGreatDoor
set_option maxRecDepth 100000
open Go Go.RowKit

theorem Tryz.infoBlk : (Tryz.prog.info? 99).map (fun i => (i.zero, i.size, i.bytes)) = some (some (.agg bZ), 5, 88) := by kernel_rfl
/-- One block, told in a row. -/
def OneQ (w : World) (ts : List M.Tk) (e : Ending) (w' : World) : Prop := ∃ b off cap q, e = .returned (.slice (some ⟨b, off, none⟩) 1 cap) ∧ b < w'.heap.size ∧ Bqs w' b off [q] ∧ q.In w'.heap.size w' ∧ q.ts = ts ∧ (∃ H, HdIs q.k q.S q.D H ∧ q.sz = szB q.k H q.S q.D ts) ∧ Chs ts q.k q.S q.D q.sz ∧ Below w.heap.size w w'
theorem sz_bd {k : Nat} {H S D : List Int} {ts : List M.Tk} (hb : BkOk k ts S D) (hH : HdIs k S D H) : 0 ≤ szB k H S D ts ∧ szB k H S D ts ≤ 1000000000 := by
  have h1 := mco_nonneg false (check_ok hb.cs).2.1 (emk ts)
  have h2 := mco_nonneg true (check_ok hb.cd).2.1 (emk ts)
  have h3 := emk_len ts
  have h4 := hb.len
  have h5 := hd_len hH
  unfold szB
  omega
/-- A block in a row of its own. -/
structure QF (ts : List M.Tk) (wx : World) (b : Nat) (q : Bq) : Prop where
  lt : b < wx.heap.size
  row : Bqs wx b 0 [q]
  inn : q.In wx.heap.size wx
  ts_ : q.ts = ts
  hd : ∃ H, HdIs q.k q.S q.D H ∧ q.sz = szB q.k H q.S q.D ts
  le : Chs ts q.k q.S q.D q.sz
theorem QF.stay {ts : List M.Tk} {wx wy : World} {b : Nat} {q : Bq} (h : QF ts wx b q) (k : Below wx.heap.size wx wy) : QF ts wy b q := ⟨Nat.lt_of_lt_of_le h.lt k.size, h.row.below k h.lt, (h.inn.below k).wide k.size, h.ts_, h.hd, h.le⟩
theorem QF.bd {ts : List M.Tk} {wx : World} {b : Nat} {q : Bq} (h : QF ts wx b q) : 0 ≤ q.sz ∧ q.sz ≤ 1000000000 := by
  obtain ⟨H, h1, h2⟩ := h.hd
  have h3 := h.inn.ok
  rw [h.ts_] at h3
  rw [h2]; exact sz_bd h3 h1
theorem QF.mk' {ts : List M.Tk} {wx : World} {b k ct cs cd : Nat} {ta sa da : Option Addr} {S D H : List Int} {sz : Int} (hb : b < wx.heap.size) (hc : ∀ j u, ([.slice ta ts.length ct, .int .i64 (k : Int), .slice sa S.length cs, .slice da D.length cd, .int .i64 sz] : List Value)[j]? = some u → wx.cell? ⟨b, j, none⟩ = some u) (hbk : BkOk k ts S D) (hat : BkAt wx.heap.size wx ta sa da ts S D) (hH : HdIs k S D H) (hsz : sz = szB k H S D ts) (hle : Chs ts k S D sz) :
    QF ts wx b ⟨ta, ct, ts, k, sa, cs, da, cd, S, D, sz⟩ := by
  refine ⟨hb, ⟨hb, fun i hi => ?_⟩, ⟨hbk, hat⟩, rfl, ⟨H, hH, hsz⟩, hle⟩
  obtain rfl : i = 0 := by simpa using hi
  have e : qAt [(⟨ta, ct, ts, k, sa, cs, da, cd, S, D, sz⟩ : Bq)] 0 = ⟨ta, ct, ts, k, sa, cs, da, cd, S, D, sz⟩ := rfl
  rw [e]
  simp only [Nat.zero_mul, Nat.add_zero, Nat.zero_add]
  exact ⟨hc 0 _ rfl, hc 1 _ rfl, hc 2 _ rfl, hc 3 _ rfl, hc 4 _ rfl⟩
set_option maxHeartbeats 8000000 in
theorem shortest_c (w : World) (hT : Tab w) (h0 : 2 < w.heap.size) (ta : Option Addr) (ct : Nat) (ts : List M.Tk) (hI : TkIn w ta ts) (hn : ts.length ≤ 16384) (hc : ts.length ≤ ct) (hnil : ta = none → ct = 0) :
    Calls Tryz.prog 33 #[.slice ta ts.length ct] w (OneQ w ts) := by
  obtain ⟨i0, hi0, hz0, hz1, hz2⟩ := info_parts Tryz.infoBlk
  have HS1 := hide (shorter_c w hT h0 ta ct ts hI)
  have HS2 : Hid (∀ w3, Below w.heap.size w w3 → Calls Tryz.prog 49 #[.slice ta ts.length ts.length] w3 (SRet w3 ta ts.length ts)) := fun w3 hb => shorter_c w3 (hT.below hb h0) (Nat.lt_of_lt_of_le h0 hb.size) ta ts.length ts (hI.stay hb)
  have HCU := fun W => hide (cut_one W ta ct ts.length hn hc hnil)
  clear hT hI
  go_enter Tryz.func33, Tryz.ntmps33
  go_upto_region 4 with (first
    | (go_at_call 49; refine HS1.out.mono ?_; rintro e w1 ⟨k1, sa1, cs1, da1, cd1, S1, D1, H1, hk1, hb1, hd1, hh1, hl1, rfl, ha1, -, bl1⟩; have A1 := hide ha1; have G1 := hide hb1; have HH1 := hide hh1; have L1 := hide hl1; have B1 := hide bl1; clear hk1 hb1 hd1 hh1 hl1 ha1 bl1 HS1)
    | (go_at_call 50; refine (HCU _).out.mono ?_; rintro e w2 ⟨g2, c2, rfl, hg2, hc2, bl2⟩; have HG2 := hide hg2; have C2 := hide hc2; have B2 := hide bl2; clear hg2 hc2 bl2 HCU))
  obtain ⟨X1, hX1⟩ : ∃ X1, szB k1 H1 S1 D1 ts = X1 := ⟨_, rfl⟩
  rw [hX1]
  have HX1 := hide hX1
  obtain ⟨w1b, hw1b⟩ : ∃ w1b, w1b = w1.alloc (.cells (bA ta ts.length ct k1 sa1 S1.length cs1 da1 D1.length cd1 X1) 99) := ⟨_, rfl⟩
  rw [hX1] at B2 HG2
  have B2' : Hid (Below w1b.heap.size w1b w2) := hide (by rw [hw1b]; exact B2.out)
  have hb1b : Below w1.heap.size w1 w1b := by rw [hw1b]; exact (Below.refl _ _).alloc (Nat.le_refl _) _
  have hq1 : QF ts w1b w1.heap.size ⟨ta, ct, ts, k1, sa1, cs1, da1, cd1, S1, D1, X1⟩ := by
    have hblk : w1b.heap[w1.heap.size]? = some (.cells (bA ta ts.length ct k1 sa1 S1.length cs1 da1 D1.length cd1 X1) 99 (0, 0)) := by rw [hw1b]; exact heap_new w1 _
    refine QF.mk' (H := H1) (lt_of_block hblk) (fun j u hj => ?_) G1.out ((A1.out.below hb1b).wide hb1b.size) HH1.out HX1.out.symm (by rw [← HX1.out]; exact L1.out)
    rw [cells_of hblk]
    rw [← hj]; simp [bA]
  have Q1 := hide (hq1.stay B2'.out)
  have BW2 : Hid (Below w.heap.size w w2) := B1.out.trans ((hb1b.trans (B2'.out.mono hb1b.size)).mono B1.out.size)
  have HSX := hide (HS2.out w2 BW2.out)
  obtain ⟨p1, hp1⟩ : ∃ p1, w1.heap.size = p1 := ⟨_, rfl⟩
  rw [hp1] at Q1 ⊢
  obtain ⟨q1, hq1e⟩ : ∃ q1 : Bq, q1 = ⟨ta, ct, ts, k1, sa1, cs1, da1, cd1, S1, D1, X1⟩ := ⟨_, rfl⟩
  rw [← hq1e] at Q1
  have cc := C2.out
  clear hX1 hw1b hb1b hq1 B2 B2' A1 G1 HH1 L1 B1 HG2 HS2 C2 hp1 hq1e HX1
  go_loopg [4, 13] 1 (fun gk v4 v13 wx => (gk = 1 ∧ v4 = .slice none 0 0 ∧ v13 = .int .i64 0 ∧ w2 = wx) ∨ (gk = 0 ∧ v13 = .int .i64 1 ∧ ∃ (g4 c4 : Nat) (q2 : Bq), v4 = .slice (some ⟨g4, 0, none⟩) 1 c4 ∧ Hid (QF ts wx g4 q2) ∧ Hid (QF ts wx p1 q1) ∧ Hid (Below w.heap.size w wx)))
  case atStart => exact .inl ⟨rfl, rfl, rfl, rfl⟩
  case round =>
    rcases hrel with ⟨rfl, rfl, rfl, rfl⟩ | ⟨rfl, rfl, g4, c4, q2, rfl, Q2, Q1', BW⟩
    · have HPU : Hid (∀ (w3 : World) (k sa cs da cd) (S D H : List Int) (v9 : Value) (w9 : World), Below w2.heap.size w2 w3 → BkOk k ts S D → HdIs k S D H → Chs ts k S D (szB k H S D ts) → BkAt w3.heap.size w3 ta sa da ts S D → w9.ownsRow w2.heap.size 99 5 v9 (0 + 1) ([] ++ [.slice ta ts.length ts.length, .int .i64 (k : Int), .slice sa S.length cs, .slice da D.length cd, .int .i64 (szB k H S D ts)]) → (w3.alloc (.cells (bA ta ts.length ts.length k sa S.length cs da D.length cd (szB k H S D ts)) 99)).grownBy w9 none → ∃ (g4 c4 : Nat) (q2 : Bq), v9 = .slice (some ⟨g4, 0, none⟩) 1 c4 ∧ QF ts w9 g4 q2 ∧ QF ts w9 p1 q1 ∧ Below w.heap.size w w9) := fun w3 k sa cs da cd S D H v9 w9 hb3 hbk hH hle hat ho hg => by
        have hb9 : Below w3.heap.size w3 w9 := (Kept.trans (Kept.alloc (fun _ => False) (Kept.refl _ w3) _) (Kept.of_grown hg) (fun i _ e => by cases e)).below (Nat.le_refl _) (fun _ _ e => e)
        have hb29 : Below w2.heap.size w2 w9 := hb3.trans (hb9.mono hb3.size)
        rcases ho.2 with ⟨_, h2⟩ | ⟨g, cap, cur, rfl, hg1, hh, _, _, _, h4⟩
        · omega
        · refine ⟨g, cap, ⟨ta, ts.length, ts, k, sa, cs, da, cd, S, D, szB k H S D ts⟩, rfl, ?_, Q1.out.stay hb29, BW2.out.trans (hb29.mono BW2.out.size)⟩
          refine QF.mk' (H := H) (lt_of_block hh) (fun j u hj => ?_) hbk ((hat.below hb9).wide hb9.size) hH rfl hle
          have hj5 : j < 5 := by
            rcases Nat.lt_or_ge j 5 with h | h
            · exact h
            · rw [List.getElem?_eq_none (by simpa using h)] at hj; cases hj
          rw [cells_of hh]
          have e : (cur.toList.take ((0 + 1) * 5))[j]? = some u := by rw [h4]; exact hj
          rwa [List.getElem?_take_of_lt (by omega), Array.getElem?_toList] at e
      go_wp2_with (first
        | (go_at_call 49; refine HSX.out.mono ?_; rintro e w3 ⟨k3, sa3, cs3, da3, cd3, S3, D3, H3, hk3, hb3, hd3, hh3, hl3, rfl, ha3, -, bl3⟩; have HP3 := hide (fun v9 w9 => HPU.out w3 k3 sa3 cs3 da3 cd3 S3 D3 H3 v9 w9 bl3 hb3 hh3 hl3 ha3); have BL3 := hide bl3; clear hk3 hb3 hd3 hh3 hl3 ha3 bl3 HSX HPU)
        | (at_builtin; refine wpList_append_own _ rfl (.tmp 17) (.tmp 20) 77 rfl w2.heap.size 99 i0 (.agg bZ) 5 88 Tryz.underlying77 hi0 hz0 hz1 hz2 rfl (by decide) (.slice none 0 0) 0 [] (by rfl) (World.ownsRow_nil _ _ _ _) ⟨w3.heap.size, 0, none⟩ 1 1 [.slice ta ts.length ts.length, .int .i64 (k3 : Int), .slice sa3 S3.length cs3, .slice da3 D3.length cd3, .int .i64 (szB k3 H3 S3 D3 ts)] (by rfl) (by rfl) (World.news_of_block (heap_new w3 _)) (by intro u hu; simp at hu; rcases hu with rfl | rfl | rfl | rfl | rfl <;> rfl) (by unfold maxLen; omega) (by omega) (by have := BL3.out.size; simp; omega) ?_; intro v9 w9 ow9 gr9 nl9; obtain ⟨g9, c9, q9, rfl, x1, x2, x3⟩ := HP3.out v9 w9 ow9 gr9; have HQ9 := hide x1; have HQ1 := hide x2; have HB9 := hide x3; clear ow9 gr9 nl9 x1 x2 x3 HP3))
      go_roundg 0
      case measure => omega
      case rel => exact .inr ⟨rfl, rfl, g9, c9, q9, rfl, HQ9, HQ1, HB9⟩
    · have HZ1 := hide (size_one wr g4 0 c4 q2 Q2.out.row Q2.out.bd)
      have HZ2 : Hid (∀ w5, Below wr.heap.size wr w5 → Calls Tryz.prog 51 #[.slice (some ⟨p1, 0, none⟩) 1 1] w5 fun e w' => e = .returned (.int .i64 q1.sz) ∧ Below w5.heap.size w5 w') := fun w5 h5 => size_one w5 p1 0 1 q1 (Q1'.out.stay h5).row Q1'.out.bd
      have HO2 : Hid (∀ w6, Below wr.heap.size wr w6 → OneQ w ts (.returned (.slice (some ⟨g4, 0, none⟩) 1 c4)) w6) := fun w6 h6 => by
        have hq := Q2.out.stay h6
        exact ⟨g4, 0, c4, q2, rfl, hq.lt, hq.row, hq.inn, hq.ts_, hq.hd, hq.le, BW.out.trans (h6.mono BW.out.size)⟩
      have HO1 : Hid (∀ w6, Below wr.heap.size wr w6 → OneQ w ts (.returned (.slice (some ⟨p1, 0, none⟩) 1 1)) w6) := fun w6 h6 => by
        have hq := Q1'.out.stay h6
        exact ⟨p1, 0, 1, q1, rfl, hq.lt, hq.row, hq.inn, hq.ts_, hq.hd, hq.le, BW.out.trans (h6.mono BW.out.size)⟩
      generalize q2.sz = Y2 at HZ1
      generalize q1.sz = Y1 at HZ2
      clear Q1 Q1' Q2 BW BW2 HSX
      by_cases hlt : Y2 < Y1
      case pos =>
        go_wp2_with (first
          | (go_at_call 51; refine HZ1.out.mono ?_; rintro e w5 ⟨rfl, b5⟩; have H5 := hide (HZ2.out w5 b5); have B5 := hide b5; clear b5 HZ1 HZ2)
          | (go_at_call 51; refine H5.out.mono ?_; rintro e w6 ⟨rfl, b6⟩; have B6 := hide (B5.out.trans (b6.mono B5.out.size)); clear b6 H5))
        go_ret
        exact HO2.out w6 B6.out
      case neg =>
        go_wp2_with (first
          | (go_at_call 51; refine HZ1.out.mono ?_; rintro e w5 ⟨rfl, b5⟩; have H5 := hide (HZ2.out w5 b5); have B5 := hide b5; clear b5 HZ1 HZ2)
          | (go_at_call 51; refine H5.out.mono ?_; rintro e w6 ⟨rfl, b6⟩; have B6 := hide (B5.out.trans (b6.mono B5.out.size)); clear b6 H5))
        go_ret
        exact HO1.out w6 B6.out
end Go.Proofs.YteknifnadbmfiaaGreatDoor

/- Deflate (of data that makes one row of tokens): contract. -/
namespace Go.Proofs.YteknifnadbmfiaaGreatDoor
set_option maxRecDepth 100000
open Go Go.RowKit

/-- What Deflate makes of data. -/
def DefIs (zs : List Int) (lv : Int) (X : List Int) : Prop := (lv < 1 → X = stB zs) ∧ (1 ≤ lv → ∃ ts k S D H0 H, M.Rt ts ∧ M.Bt ts ∧ M.tel ts = zs ∧ ts.length ≤ zs.length ∧ M.FdTo zs zs.length ts ∧ BkOk k ts S D ∧ HdIs k S D H0 ∧ HdIs k S D H ∧ szB k H0 S D ts ≤ szB 1 [] iFix iFive ts ∧
  ((X = dataL (blB k true H S D ts) ∧ X.length ≤ (stB zs).length) ∨ (X = stB zs ∧ (stB zs).length < (dataL (blB k true H S D ts)).length)))
def DefRet (w : World) (zs : List Int) (lv : Int) (e : Ending) (w' : World) : Prop := ∃ g cap X, e = .returned (.slice (some ⟨g, 0, none⟩) X.length cap) ∧ OwnsB w' w.heap.size (.slice (some ⟨g, 0, none⟩) X.length cap) X ∧ DefIs zs lv X ∧ Below w.heap.size w w'
theorem o_below {w1 w2 : World} {b : Nat} {v : Value} {D : List Int} (h : OwnsB w1 b v D) (k : Below w1.heap.size w1 w2) : OwnsB w2 b v D := OwnsB.below h k
theorem text_bys {B : Nat} {w : World} {a : Option Addr} {zs : List Int} (h : Text B w a zs.length zs) (hB : B ≤ w.heap.size) : M.Bys w a zs := by
  obtain ⟨_, h2, h3⟩ := h
  refine ⟨?_, fun i => h2 i⟩
  rcases h3 with h3 | ⟨b, off, hb, e, hc⟩
  · exact .inl h3
  · exact .inr ⟨b, off, by omega, e, fun i hi => hc i hi⟩
set_option maxHeartbeats 8000000 in
theorem deflate_any (w : World) (hT : Tab w) (h0 : 2 < w.heap.size) (a : Option Addr) (cap : Nat) (zs : List Int) (lv : Int) (ht : Text w.heap.size w a zs.length zs) (hnil : a = none → zs.length = 0 ∧ cap = 0) (hcap : zs.length ≤ cap) (hcm : cap ≤ 9223372036854775807) (hl : zs.length ≤ 1200000) (hone : ∀ ts : List M.Tk, M.FdTo zs zs.length ts → ts.length ≤ zs.length → ts.length ≤ 16384) :
    Calls Tryz.prog 21 #[.slice a zs.length cap, .int .i64 lv] w (DefRet w zs lv) := by
  have HSO := hide (dstored_c w a cap zs ht hnil hcap (by omega))
  have hz : ∀ i, 0 ≤ M.ln zs i ∧ M.ln zs i ≤ 255 := fun i => ht.2.1 i
  have HT := hide hT
  have HTX := hide ht
  have HONE := hide hone
  clear hone
  by_cases hlv : lv < 1
  · have HQ : Hid (∀ e w', StoRet w zs e w' → ∃ g c, e = .returned (.slice (some ⟨g, 0, none⟩) (stB zs).length c) ∧ DefRet w zs lv (.returned (.slice (some ⟨g, 0, none⟩) (stB zs).length c)) w') := fun e w' h => by
      obtain ⟨g, c, rfl, h1, h2⟩ := h
      exact ⟨g, c, rfl, g, c, stB zs, rfl, h1, ⟨fun _ => rfl, fun h => by omega⟩, h2⟩
    generalize stB zs = ST at HQ
    clear hT ht hnil hz HT HTX HONE
    go_enter Tryz.func21, Tryz.ntmps21
    go_wp2_with (go_at_call 31; refine HSO.out.mono ?_; intro e w1 h1; obtain ⟨g, c, rfl, hq⟩ := HQ.out _ _ h1; have HR := hide hq; clear h1 hq HSO HQ)
    go_ret
    exact HR.out
  · have HFI : Hid (∀ w1, Below w.heap.size w w1 → Calls Tryz.prog 34 #[.slice a zs.length cap, .int .i64 lv] w1 (M.FindOk zs lv w1)) := fun w1 hb => M.find_c a cap zs lv w1 (text_bys (B := w.heap.size) (HTX.out.kept (Kept.of_below hb) (fun b hb' e => by omega)) hb.size) (by omega) hcap hcm
    have hlv' : 1 ≤ lv := by omega
    clear hT ht hnil
    go_enter Tryz.func21, Tryz.ntmps21
    go_upto_region 4 with (go_at_call 31; refine HSO.out.mono ?_; rintro e w1 ⟨g1, c1, rfl, o1, b1⟩; have HF1 := hide (HFI.out w1 b1); have O1 := hide o1; have B1 := hide b1; clear o1 b1 HSO HFI)
    have HSH : Hid (∀ w2 e, M.FindOk zs lv w1 e w2 → ∃ ta ct ts, e = .returned (.slice ta ts.length ct) ∧ M.Rt ts ∧ M.Bt ts ∧ M.tel ts = zs ∧ ts.length ≤ zs.length ∧ M.FdTo zs zs.length ts ∧ Below w1.heap.size w1 w2 ∧ Calls Tryz.prog 33 #[.slice ta ts.length ct] w2 (OneQ w2 ts)) := fun w2 e h => by
      obtain ⟨ta, ct, ts, rfl, ht, hb, hr, hbt, htel, hm, hfd, how⟩ := h.all hz
      obtain ⟨a', c', hv, htk, hblk, hnl, hcl⟩ := how.form
      simp only [Value.slice.injEq] at hv
      obtain ⟨rfl, _, rfl⟩ := hv
      have hb2 : Below w.heap.size w w2 := B1.out.trans (hb.mono B1.out.size)
      have h16 := HONE.out ts (hfd hlv').1 hm
      refine ⟨ta, ct, ts, rfl, hr, hbt, htel, hm, (hfd hlv').1, hb, shortest_c w2 (HT.out.below hb2 h0) (Nat.lt_of_lt_of_le h0 hb2.size) ta ct ts ⟨htk, fun b off e => (hblk b off e).2, TOk.of hr hbt, by omega⟩ (by omega) hcl (fun e => (hnl e).2)⟩
    go_upto_region 5 with (first
      | (go_at_call 34; refine HF1.out.mono ?_; intro e w2 hf; obtain ⟨ta, ct, ts, rfl, f1, f2, f3, f4, f5, f6, f7⟩ := HSH.out w2 e hf; have F1 := hide f1; have F2 := hide f2; have F3 := hide f3; have F4 := hide f4; have F5 := hide f5; have B2 := hide (B1.out.trans (f6.mono B1.out.size)); have O2 := hide (o_below O1.out f6); have HS2 := hide f7; clear hf f1 f2 f3 f4 f5 f6 f7 HF1 HSH)
      | (go_at_call 33; refine HS2.out.mono ?_; rintro e w3 ⟨b3, off3, c3, q, rfl, l3, r3, i3, t3, hd3, le3, bl3⟩; have HST := hide (stream_c w3 (HT.out.below (B2.out.trans (bl3.mono B2.out.size)) h0) (by have := B2.out.size; have := bl3.size; omega) b3 off3 c3 [q] r3 (by simp) (fun x hx => by rw [List.mem_singleton.1 hx]; exact i3) (by unfold few; simp; have := HONE.out _ F5.out F4.out; rw [t3]; omega)); have I3 := hide i3; have T3 := hide t3; have HD3 := hide hd3; have LE3 := hide le3; have B3 := hide (B2.out.trans (bl3.mono B2.out.size)); have O3 := hide (o_below O2.out bl3); clear l3 r3 i3 t3 hd3 le3 bl3 HS2)
      | (go_at_call 32; refine HST.out.mono ?_; rintro e w4 ⟨xs, g4, c4, hh4, rfl, o4, bl4⟩; have HH4 := hide hh4; have O4 := hide o4; have B4 := hide (B3.out.trans (bl4.mono B3.out.size)); have O3b := hide (o_below O3.out bl4); have BS := hide B3.out.size; clear hh4 o4 bl4 HST))
    obtain ⟨H, hx, hH⟩ : ∃ H, strN 1 xs = blB q.k true H q.S q.D q.ts ∧ HdIs q.k q.S q.D H := by
      obtain ⟨h1, h2⟩ := HH4.out
      obtain ⟨x, rfl⟩ : ∃ x, xs = [x] := by
        have := congrArg List.length h1
        rw [List.length_map] at this
        exact List.length_eq_one_iff.1 this
      simp only [List.map_cons, List.map_nil, List.cons.injEq, and_true] at h1
      have hx := h2 x (by simp)
      obtain ⟨y, H⟩ := x
      simp only at h1 hx
      subst h1
      exact ⟨H, by simp [strN], hx⟩
    have hlen1 : [q].length = 1 := rfl
    rw [hlen1, hx] at O4
    rw [hx]
    have HOUT : Hid (∀ X g c, OwnsB w4 w.heap.size (.slice (some ⟨g, 0, none⟩) X.length c) X → ((X = dataL (blB q.k true H q.S q.D q.ts) ∧ X.length ≤ (stB zs).length) ∨ (X = stB zs ∧ (stB zs).length < (dataL (blB q.k true H q.S q.D q.ts)).length)) → DefRet w zs lv (.returned (.slice (some ⟨g, 0, none⟩) X.length c)) w4) := fun X g c ho hX => by
      obtain ⟨H0, hH0, hsz⟩ := HD3.out
      have hts := T3.out
      have hle := LE3.out.1
      rw [hsz] at hle
      have hok := I3.out.ok
      subst hts
      exact ⟨g, c, X, rfl, ho, ⟨fun h => by omega, fun _ => ⟨q.ts, q.k, q.S, q.D, H0, H, F1.out, F2.out, F3.out, F4.out, F5.out, hok, hH0, hH, hle, hX⟩⟩, B4.out⟩
    have O4' := hide (OwnsB.low O4.out BS.out)
    generalize dataL (blB q.k true H q.S q.D q.ts) = Y at O4' HOUT ⊢
    generalize stB zs = ST at O3b HOUT ⊢
    clear hx hH HH4 O4 O1 O2 O3 HD3 T3 LE3 I3 F1 F2 F3 F4 F5 B1 B2 B3 B4 BS HT HTX HONE hz hlen1
    by_cases hle : Y.length ≤ ST.length
    case pos =>
      have hle' : (Y.length : Int) ≤ (ST.length : Int) := by omega
      have HR := hide (HOUT.out Y g4 c4 O4'.out (.inl ⟨rfl, hle⟩))
      clear HOUT
      go_wp2_with fail
      go_ret
      exact HR.out
    case neg =>
      have hle' : ¬ (Y.length : Int) ≤ (ST.length : Int) := by omega
      have HR := hide (HOUT.out ST g1 c1 O3b.out (.inr ⟨rfl, by omega⟩))
      clear HOUT
      go_wp2_with fail
      go_ret
      exact HR.out
theorem deflate_c (w : World) (hT : Tab w) (h0 : 2 < w.heap.size) (a : Option Addr) (cap : Nat) (zs : List Int) (lv : Int) (ht : Text w.heap.size w a zs.length zs) (hnil : a = none → zs.length = 0 ∧ cap = 0) (hcap : zs.length ≤ cap) (hcm : cap ≤ 9223372036854775807) (hl : zs.length ≤ 16384) :
    Calls Tryz.prog 21 #[.slice a zs.length cap, .int .i64 lv] w (DefRet w zs lv) := deflate_any w hT h0 a cap zs lv ht hnil hcap hcm (by omega) (fun ts _ h => by omega)
end Go.Proofs.YteknifnadbmfiaaGreatDoor

/- What Deflate makes is read as the data. Of no program. -/
namespace Go.Proofs.YteknifnadbmfiaaGreatDoor
set_option maxRecDepth 100000
open Go Go.RowKit

theorem loop_sto : ∀ (n : Nat) (zs A out : List Int) (most : Nat) (Z : List Int), zs.length = n → (∀ x ∈ zs, 0 ≤ x ∧ x ≤ 255) → out.length + zs.length ≤ most → Z = A ++ stB zs →
    iLoop (8 * Z.length) (iBlk (ib Z) (8 * Z.length) most) (8 * A.length) out = .ok (8 * Z.length, out ++ zs) := by
  intro n
  induction n using Nat.strongRecOn with
  | ind n ih =>
    intro zs A out most Z hn hz hm hZ
    by_cases h : 65535 < zs.length
    · rw [stB_big h] at hZ
      have hl : (zs.take 65535).length = 65535 := by rw [List.length_take]; omega
      have hb := iBlk_sto A (zs.take 65535) (stB (zs.drop 65535)) 0 (by decide) (fun x hx => hz x (List.mem_of_mem_take hx)) (by omega) most out (by omega) Z (by rw [hl]; exact hZ)
      rw [hl] at hb
      have hZl : Z.length = A.length + (5 + (65535 + (stB (zs.drop 65535)).length)) := by rw [hZ]; simp only [List.length_append, iHead_length, hl]
      rw [iLoop_on hb (by omega) (by omega)]
      have hi := ih (n - 65535) (by omega) (zs.drop 65535) (A ++ (iHead 0 65535 ++ zs.take 65535)) (out ++ zs.take 65535) most Z (by rw [List.length_drop]; omega) (fun x hx => hz x (List.mem_of_mem_drop hx)) (by rw [List.length_append, hl, List.length_drop]; omega) (by rw [hZ]; simp only [List.append_assoc])
      have hAl : (A ++ (iHead 0 65535 ++ zs.take 65535)).length = A.length + 5 + 65535 := by simp only [List.length_append, iHead_length, hl]; try omega
      rw [hAl] at hi
      rw [hi, List.append_assoc, List.take_append_drop]
    · rw [stB_small (by omega)] at hZ
      have hb := iBlk_sto A zs [] 1 (by decide) hz (by omega) most out hm Z (by rw [hZ]; simp)
      have hZl : Z.length = A.length + 5 + zs.length := by rw [hZ]; simp only [List.length_append, iHead_length]; omega
      rw [show decide (1 = 0) = false from rfl] at hb
      rw [iLoop_end hb, hZl]
theorem ans_stored (zs : List Int) (hz : ∀ x ∈ zs, 0 ≤ x ∧ x ≤ 255) (most : Nat) (hm : zs.length ≤ most) : iAns (stB zs) most = (zs, (stB zs).length, 0) := by
  have h := loop_sto _ zs [] [] most (stB zs) rfl hz (by simpa using hm) rfl
  unfold iAns iInf
  rw [show (0 : Nat) = 8 * ([] : List Int).length from rfl, h]
  simp only [iRes, List.nil_append]
  congr 2
  omega
theorem bin_rowL (c n : Nat) : Bin (rowL c n) := fun i => by
  by_cases h : i < n
  · have := rowL_at c n h
    unfold ln at this
    rw [this]
    unfold bitC
    omega
  · rw [List.getD_eq_getElem?_getD, List.getElem?_eq_none (by rw [rowL_length]; omega)]; simp
theorem bin_nil : Bin [] := fun i => by simp
theorem bin_mk (ls : List Int) (m : Mk) : Bin (mkB ls m) := bin_append (bin_rowL _ _) (bin_bitsN _ _)
theorem bin_flat {α : Type} (f : α → List Int) (h : ∀ x, Bin (f x)) (l : List α) : Bin (l.flatMap f) := by
  induction l with
  | nil => exact bin_nil
  | cons x l ih => rw [List.flatMap_cons]; exact bin_append (h x) ih
theorem bin_knd (last : Bool) (k : Nat) : Bin (knd last k) := bin_append (bin_bitsN _ _) (bin_bitsN _ _)
theorem bin_hd {k : Nat} {S D H : List Int} (h : HdIs k S D H) : Bin H := by
  rcases h with ⟨_, rfl⟩ | ⟨_, _, F, many, _, rfl⟩
  · exact bin_nil
  · unfold hdB innB
    exact bin_append (bin_bitsN _ _) (bin_append (bin_bitsN _ _) (bin_append (bin_bitsN _ _) (bin_append (bin_flat _ (fun _ => bin_bitsN _ _) _) (bin_flat _ (fun m => bin_mk F m) _))))
theorem bin_bl {k : Nat} {last : Bool} {S D H : List Int} {ts : List M.Tk} (h : HdIs k S D H) : Bin (blB k last H S D ts) := by
  unfold blB
  refine bin_append (bin_knd _ _) (bin_append (bin_hd h) ?_)
  rw [← eB_dat]
  exact bin_flat _ (fun x => by unfold eB; split <;> exact bin_mk _ _) _
theorem SDOk.read {S D F : List Int} {many : Nat} (h : SDOk S D) (cs : check S true = 0) (cd : check D true = 0) (hl : LLOk S D F many) : HOk S D F many :=
  ⟨h.s0, h.s1, h.d0, h.d1, cs, cd, h.e, hl.inn.len, hl.inn.f7, hl.inn.chk, hl.m0, hl.m1, hl.mz, hl.inn.has⟩
theorem rds_bl {k : Nat} {last : Bool} {S D H : List Int} {ts : List M.Tk} (hb : BkOk k ts S D) (hH : HdIs k S D H) : Rds (blB k last H S D ts) last ts := by
  obtain ⟨ht, he⟩ := hb.has.tok
  rcases hb.kind with ⟨rfl, rfl, rfl⟩ | ⟨rfl, hsd⟩
  · obtain ⟨_, _, rfl⟩ := kind_one hb hH
    unfold blB
    rw [List.nil_append]
    exact rds_fixed last (check_good iFix_check) (check_good iFive_check) he ht
  · rcases hH with ⟨h, _⟩ | ⟨_, _, F, many, hll, rfl⟩
    · omega
    · unfold blB
      exact rds_dynamic last (check_good hb.cs) (check_good hb.cd) he ht (fun b T p hb' hB => (hsd.read hb.cs hb.cd hll).read hb' hB)
theorem ans_block {k : Nat} {S D H : List Int} {ts : List M.Tk} (hb : BkOk k ts S D) (hH : HdIs k S D H) (hr : M.Rt ts) (h8 : M.Bt ts) (most : Nat) (hm : (M.tel ts).length ≤ most) : iAns (dataL (blB k true H S D ts)) most = (M.tel ts, (dataL (blB k true H S D ts)).length, 0) := by
  have := ans_blocks [(blB k true H S D ts, ts)] (rds_bl hb hH) (by simpa using bin_bl hH) (by simpa using hr) (by
    intro t ht
    simp at ht
    obtain ⟨i, hi, rfl⟩ := List.getElem_of_mem ht
    have := h8 i
    rwa [M.tk_in hi] at this) most (by simpa using hm)
  simpa using this
theorem DefIs.ans {zs X : List Int} {lv : Int} (h : DefIs zs lv X) (hz : ∀ x ∈ zs, 0 ≤ x ∧ x ≤ 255) : iAns X zs.length = (zs, X.length, 0) := by
  by_cases hlv : lv < 1
  · rw [h.1 hlv]
    exact ans_stored zs hz _ (Nat.le_refl _)
  · obtain ⟨ts, k, S, D, H0, H, hr, h8, htel, _, _, hb, _, hH, _, hX⟩ := h.2 (by omega)
    rcases hX with ⟨rfl, _⟩ | ⟨rfl, _⟩
    · have := ans_block hb hH hr h8 zs.length (by rw [htel]; exact Nat.le_refl _)
      rw [htel] at this
      exact this
    · exact ans_stored zs hz _ (Nat.le_refl _)
end Go.Proofs.YteknifnadbmfiaaGreatDoor
