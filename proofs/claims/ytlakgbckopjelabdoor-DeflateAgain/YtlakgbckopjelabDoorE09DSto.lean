/- Several texts, laid together: DDyn, DStream, DFixed, DSto. -/
import Derived.Test.YtlakgbckopjelabDoorE08DBlk
import Derived.Test.YtlakgbckopjelabDoorG26MFindW
/- dynamicBlock: contract. -/
namespace Go.Proofs.YtlakgbckopjelabDoor
set_option maxRecDepth 100000
open Go Go.RowKit

theorem valA_pre {gl n lo hi : Nat} {F : List Int} {w : World} (h : w.heap[gl]? = some (.cells (valA F) 3 (0, 0))) (h1 : lo ≤ gl) (h2 : gl < hi) : Ints lo hi w (some ⟨gl, 0, none⟩) (F.take n) := by
  by_cases h0 : (F.take n).length = 0
  · exact .inl h0
  · refine .inr ⟨gl, 0, h1, h2, lt_of_block h, rfl, fun i hi => ?_⟩
    rw [List.length_take] at hi
    rw [Nat.zero_add, cells_of h, valA_at F (by omega)]
    have e : ln (F.take n) i = ln F i := by unfold ln; simp [List.getD, show i < n by omega]
    rw [e]
set_option maxHeartbeats 8000000 in
theorem dynamicBlock_c (w : World) (hT : Tab w) (h0 : 0 < w.heap.size) (ta : Option Addr) (ct tb : Nat) (ts : List M.Tk) (hI : TkIn w ta ts) (ht : TlOf w tb ts) :
    Calls Tryd.prog 18 #[.slice ta ts.length ct, .pointer (some ⟨tb, 0, none⟩)] w (BRet w ta ct ts 2) := by
  obtain ⟨g, hg⟩ : ∃ g, g = w.heap.size + 1 := ⟨_, rfl⟩
  obtain ⟨W, hWW⟩ : ∃ W, W = (w.alloc (.cells bZ 43)).alloc (.cells #[.slice ta ts.length ct, .int .i64 2, .slice none 0 0, .slice none 0 0, .int .i64 0] 43) := ⟨_, rfl⟩
  have blW : Below w.heap.size w W := by rw [hWW]; exact ((Below.refl _ _).alloc (Nat.le_refl _) _).alloc (by simp) _
  have hz : W.heap[w.heap.size]? = some (.cells bZ 43 (0, 0)) := by rw [hWW]; exact heap_new1 w _ _
  have hgb : W.heap[g]? = some (.cells #[.slice ta ts.length ct, .int .i64 2, .slice none 0 0, .slice none 0 0, .int .i64 0] 43 (0, 0)) := by rw [hWW, hg]; exact heap_new2 w _ _
  have hWz : W.heap.size = g + 1 := by rw [hWW, hg]; simp
  have hml := emk_len ts
  have hlen := hI.len
  have htb : tb < w.heap.size := lt_of_block ht.1
  have hb1 : ∀ (b : Bool) (n : Nat) (i : Nat), 0 ≤ ln (tly b n (emk ts)) i ∧ ln (tly b n (emk ts)) i ≤ 1000000000 := fun b n i => by have := tly_le b n (emk ts) i; omega
  have htW := ht.below blW
  have hBA : Calls Tryd.prog 40 #[.slice (some ⟨tb, 0, none⟩) 286 286] W fun e w' => ∃ gl F, e = .returned (.slice (some ⟨gl, 0, none⟩) 286 286) ∧ W.heap.size ≤ gl ∧ w'.heap[gl]? = some (.cells (valA F) 3 (0, 0)) ∧ L.LGoodR (tly false 286 (emk ts)) 15 F ∧ Below W.heap.size W w' := by
    have := best_c (tb + 1) (some ⟨tb, 0, none⟩) 286 (tly false 286 (emk ts)) W htW.a (by rw [tly_length]; decide) (hb1 false 286)
    rw [tly_length] at this
    exact this
  have HBB : Hid (∀ w3, TlOf w3 tb ts → Calls Tryd.prog 40 #[.slice (some ⟨tb, 286, none⟩) 30 30] w3 fun e w' => ∃ gl F, e = .returned (.slice (some ⟨gl, 0, none⟩) 30 30) ∧ w3.heap.size ≤ gl ∧ w'.heap[gl]? = some (.cells (valA F) 3 (0, 0)) ∧ L.LGoodR (tly true 30 (emk ts)) 15 F ∧ Below w3.heap.size w3 w') := fun w3 h3 => by
    have := best_c (tb + 1) (some ⟨tb, 286, none⟩) 30 (tly true 30 (emk ts)) w3 h3.b (by rw [tly_length]; decide) (hb1 true 30)
    rw [tly_length] at this
    exact this
  have HTR : Hid (∀ (n least gl : Nat) (F : List Int) (w2 : World), w2.heap[gl]? = some (.cells (valA F) 3 (0, 0)) → F.length = n → n ≤ 1000 → 1 ≤ least → least ≤ n → Calls Tryd.prog 39 #[.slice (some ⟨gl, 0, none⟩) n n, .int .i64 (least : Int)] w2 fun e w' => e = .returned (.slice (some ⟨gl, 0, none⟩) (trm F least n) n) ∧ w' = w2) := fun n least gl F w2 h hn h1 h2 h3 => by
    subst hn
    exact trim_c gl least F w2 h h1 ⟨h2, h3⟩
  have HBA := hide hBA
  have HE : Hid ((w.alloc (.cells bZ 43)).alloc (.cells #[.slice ta ts.length ct, .int .i64 2, .slice none 0 0, .slice none 0 0, .int .i64 0] 43) = W) := hWW.symm
  have HGE : Hid (w.heap.size + 1 = g) := hg.symm
  have HZ := hide hz
  have HG := hide hgb
  have HBW := hide blW
  have HTL := hide htW
  have HT := hide hT
  have HI := hide hI
  have HWZ := hide hWz
  have hne : ¬ g = w.heap.size := by omega
  have hgw : w.heap.size < g := by omega
  clear hWW blW hz hgb hT hI ht hml hlen hb1 htW hBA hWz
  go_enter Tryd.func18, Tryd.ntmps18
  go_upto_region 2 with fail
  rw [HE.out, HGE.out]
  clear hg
  go_upto_region 3 with (first
    | (go_at_call 40; refine HBA.out.mono ?_; rintro e w2 ⟨g1, F1, rfl, hg1, r1, gd1, b1⟩; have TR1 := hide (HTR.out 286 257 g1 F1 w2 r1 (by rw [gd1.len, tly_length]) (by decide) (by decide) (by decide)); have R1 := hide r1; have GD1 := hide gd1; have HG1 := hide hg1; have B1 := hide b1; have hgb2 := (b1.block g (by have := HWZ.out; omega)).trans HG.out; have x2 := cells_of hgb2 2; have y2 := free_of hgb2 2; have HG2 := hide hgb2; simp at x2; clear hg1 r1 gd1 b1 hgb2 HBA)
    | (go_at_call 39; refine TR1.out.mono ?_; rintro e w2b ⟨rfl, hw2b⟩; obtain rfl : w2 = w2b := hw2b.symm; clear TR1))
  obtain ⟨n1, hn1⟩ : ∃ n1, trm F1 257 286 = n1 := ⟨_, rfl⟩
  rw [hn1]
  have HN1 := hide hn1
  have hg1g : ¬ g1 = g := by have := HG1.out; have := HWZ.out; omega
  have hg3 : (w2.setCell ⟨g, 2, none⟩ (.slice (some ⟨g1, 0, none⟩) n1 286)).heap[g]? = some (.cells #[.slice ta ts.length ct, .int .i64 2, .slice (some ⟨g1, 0, none⟩) n1 286, .slice none 0 0, .int .i64 0] 43 (0, 0)) := set_of HG2.out 2 _
  have hr3 : (w2.setCell ⟨g, 2, none⟩ (.slice (some ⟨g1, 0, none⟩) n1 286)).heap[g1]? = some (.cells (valA F1) 3 (0, 0)) := by rw [set_other hg1g]; exact R1.out
  have hk3 : Kept (fun i => i = g) W (w2.setCell ⟨g, 2, none⟩ (.slice (some ⟨g1, 0, none⟩) n1 286)) := Kept.setCell (M := fun i => i = g) ((Kept.of_below B1.out).mono (fun i hi e => by omega)) (fun _ => rfl) _
  have ht3 : TlOf (w2.setCell ⟨g, 2, none⟩ (.slice (some ⟨g1, 0, none⟩) n1 286)) tb ts := ⟨hk3.heap HTL.out.1 (by omega), HTL.out.2⟩
  generalize w2.setCell ⟨g, 2, none⟩ (.slice (some ⟨g1, 0, none⟩) n1 286) = w3 at hg3 hr3 hk3 ht3 ⊢
  have HB2 := hide (HBB.out w3 ht3)
  have HG3 := hide hg3
  have HR3 := hide hr3
  have HK3 := hide hk3
  have hg3lt := lt_of_block hg3
  have hg1lt := lt_of_block hr3
  clear hn1 hg3 hr3 hk3 ht3 x2 y2 HG2 R1 B1 HBB HG
  go_upto_region 4 with (first
    | (go_at_call 40; refine HB2.out.mono ?_; rintro e w4 ⟨g2, F2, rfl, hg2, r2, gd2, b2⟩; have TR2 := hide (HTR.out 30 1 g2 F2 w4 r2 (by rw [gd2.len, tly_length]) (by decide) (by decide) (by decide)); have R2 := hide r2; have GD2 := hide gd2; have HGG2 := hide hg2; have B2 := hide b2; have hgb4 := (b2.block g hg3lt).trans HG3.out; have x3 := cells_of hgb4 3; have y3 := free_of hgb4 3; have HG4 := hide hgb4; simp at x3; clear hg2 r2 gd2 b2 hgb4 HB2)
    | (go_at_call 39; refine TR2.out.mono ?_; rintro e w4b ⟨rfl, hw4b⟩; obtain rfl : w4 = w4b := hw4b.symm; clear TR2))
  obtain ⟨n2, hn2⟩ : ∃ n2, trm F2 1 30 = n2 := ⟨_, rfl⟩
  rw [hn2]
  have hg2g : ¬ g2 = g := by have := HGG2.out; omega
  have hg5 : (w4.setCell ⟨g, 3, none⟩ (.slice (some ⟨g2, 0, none⟩) n2 30)).heap[g]? = some (.cells #[.slice ta ts.length ct, .int .i64 2, .slice (some ⟨g1, 0, none⟩) n1 286, .slice (some ⟨g2, 0, none⟩) n2 30, .int .i64 0] 43 (0, 0)) := set_of HG4.out 3 _
  have hr5 : (w4.setCell ⟨g, 3, none⟩ (.slice (some ⟨g2, 0, none⟩) n2 30)).heap[g1]? = some (.cells (valA F1) 3 (0, 0)) := by rw [set_other hg1g]; exact (B2.out.block _ hg1lt).trans HR3.out
  have hs5 : (w4.setCell ⟨g, 3, none⟩ (.slice (some ⟨g2, 0, none⟩) n2 30)).heap[g2]? = some (.cells (valA F2) 3 (0, 0)) := by rw [set_other hg2g]; exact R2.out
  have hk5 : Kept (fun i => i = g) W (w4.setCell ⟨g, 3, none⟩ (.slice (some ⟨g2, 0, none⟩) n2 30)) := Kept.setCell (M := fun i => i = g) (HK3.out.trans (Kept.of_below B2.out) (fun i hi e => by have := HK3.out.size; omega)) (fun _ => rfl) _
  generalize w4.setCell ⟨g, 3, none⟩ (.slice (some ⟨g2, 0, none⟩) n2 30) = w5 at hg5 hr5 hs5 hk5 ⊢
  have bl5 : Below w.heap.size w w5 := HBW.out.trans (hk5.below HBW.out.size (fun i hi e => by omega))
  have hz5 : w5.heap[w.heap.size]? = some (.cells bZ 43 (0, 0)) := hk5.heap HZ.out (by omega)
  have hdyn : DynOk ts (F1.take n1) (F2.take n2) := ⟨F1, F2, GD1.out, by rw [HN1.out], GD2.out, by rw [hn2]⟩
  have hbk := hdyn.ok HI.out.ok HI.out.len
  have hl1 : (F1.take n1).length = n1 := by have := (trm_ok F1 257 286).1; rw [HN1.out] at this; rw [List.length_take, GD1.out.len, tly_length]; omega
  have hl2 : (F2.take n2).length = n2 := by have := (trm_ok F2 1 30).1; rw [hn2] at this; rw [List.length_take, GD2.out.len, tly_length]; omega
  have hI5 := HI.out.stay bl5
  have hat : BkAt w5.heap.size w5 ta (some ⟨g1, 0, none⟩) (some ⟨g2, 0, none⟩) ts (F1.take n1) (F2.take n2) := ⟨hI5.t, hI5.b, valA_pre hr5 (Nat.zero_le _) (lt_of_block hr5), valA_pre hs5 (Nat.zero_le _) (lt_of_block hs5)⟩
  have hM := measure_c w5 (HT.out.below bl5 h0) (Nat.lt_of_lt_of_le h0 bl5.size) ta (some ⟨g1, 0, none⟩) (some ⟨g2, 0, none⟩) ct 286 30 2 tb 0 ts (F1.take n1) (F2.take n2) hbk hat ⟨hk5.heap HTL.out.1 (by omega), HTL.out.2⟩
  have hM' : Calls Tryd.prog 35 #[.agg #[.slice ta ts.length ct, .int .i64 2, .slice (some ⟨g1, 0, none⟩) n1 286, .slice (some ⟨g2, 0, none⟩) n2 30, .int .i64 0], .pointer (some ⟨tb, 0, none⟩)] w5 (MsRet w5 2 (F1.take n1) (F2.take n2) ts) := by
    have e := hM
    unfold bA at e
    rw [hl1, hl2] at e
    exact e
  have HM := hide hM'
  obtain ⟨S, hS⟩ : ∃ S, F1.take n1 = S := ⟨_, rfl⟩
  obtain ⟨D, hD⟩ : ∃ D, F2.take n2 = D := ⟨_, rfl⟩
  have hT1 := valA_pre (n := n1) hr5 (lo := g + 1) (hi := w5.heap.size) (by have := HG1.out; have := HWZ.out; omega) (lt_of_block hr5)
  have hT2 := valA_pre (n := n2) hs5 (lo := g + 1) (hi := w5.heap.size) (by have := HGG2.out; have := HK3.out.size; have := HWZ.out; omega) (lt_of_block hs5)
  rw [hS] at HM hl1 hbk hdyn hT1
  rw [hD] at HM hl2 hbk hdyn hT2
  have HL1 := hide hl1
  have HL2 := hide hl2
  have HBKO := hide hbk
  have HDY := hide hdyn
  have HT1 := hide hT1
  have HT2 := hide hT2
  have c0 := cells_of hg5 0
  have c1 := cells_of hg5 1
  have c2 := cells_of hg5 2
  have c3 := cells_of hg5 3
  have c4 := cells_of hg5 4
  simp at c0 c1 c2 c3 c4
  have HG5 := hide hg5
  have HZ5 := hide hz5
  have HBL5 := hide bl5
  have HIN := hide HI.out
  clear hn2 hM hM' hS hD hT1 hT2 hl1 hl2 hbk hdyn hat hI5 hg5 hr5 hs5 hk5 hz5 bl5 x3 y3 HG4 HR3 HK3 R2 B2 HN1 GD1 GD2 HTL HT HI HTR hg3lt hg1lt HG1 HGG2 HG3
  go_upto_region 5 with (go_at_call 35; refine HM.out.mono ?_; rintro e w6 ⟨H, hH, rfl, b6⟩; have HHD := hide hH; have B6 := hide b6; have hb6 := (b6.block _ (lt_of_block HG5.out)).trans HG5.out; have hz6 := (b6.block _ (lt_of_block HZ5.out)).trans HZ5.out; have HB6 := hide hb6; have HZ6 := hide hz6; have d4 := cells_of hb6 4; have g4 := free_of hb6 4; simp at d4; clear b6 hH hb6 hz6 HM)
  obtain ⟨SZ, hSZ⟩ : ∃ SZ, szB 2 H S D ts = SZ := ⟨_, rfl⟩
  rw [hSZ]
  have hb7 : (w6.setCell ⟨g, 4, none⟩ (.int .i64 SZ)).heap[g]? = some (.cells #[.slice ta ts.length ct, .int .i64 2, .slice (some ⟨g1, 0, none⟩) n1 286, .slice (some ⟨g2, 0, none⟩) n2 30, .int .i64 SZ] 43 (0, 0)) := set_of HB6.out 4 (.int .i64 SZ)
  have hz7 : (w6.setCell ⟨g, 4, none⟩ (.int .i64 SZ)).heap[w.heap.size]? = some (.cells bZ 43 (0, 0)) := by rw [set_other (fun e => hne e.symm)]; exact HZ6.out
  have hk7 : Kept (fun i => i = w.heap.size ∨ i = g) w5 (w6.setCell ⟨g, 4, none⟩ (.int .i64 SZ)) := ((Kept.of_below B6.out).mono (fun i hi e => by omega)).setCell (fun _ => .inr rfl) _
  generalize w6.setCell ⟨g, 4, none⟩ (.int .i64 SZ) = w7 at hb7 hz7 hk7 ⊢
  have a0 := cells_of hb7 0
  have a1 := cells_of hb7 1
  have a2 := cells_of hb7 2
  have a3 := cells_of hb7 3
  have a4 := cells_of hb7 4
  have z0 := cells_of hz7 0
  have z1 := cells_of hz7 1
  have z2 := cells_of hz7 2
  have z3 := cells_of hz7 3
  have z4 := cells_of hz7 4
  have y0 := free_of hz7 0
  have y1 := free_of hz7 1
  have y2 := free_of hz7 2
  have y3 := free_of hz7 3
  have y4 := free_of hz7 4
  simp at a0 a1 a2 a3 a4 z0 z1 z2 z3 z4
  have HFIN : Hid (∀ wf, wf = setBk w7 w.heap.size (.slice ta ts.length ct) (.int .i64 2) (.slice (some ⟨g1, 0, none⟩) n1 286) (.slice (some ⟨g2, 0, none⟩) n2 30) (.int .i64 SZ) → wf.heap[w.heap.size]? = some (.cells #[.slice ta ts.length ct, .int .i64 2, .slice (some ⟨g1, 0, none⟩) n1 286, .slice (some ⟨g2, 0, none⟩) n2 30, .int .i64 SZ] 43 (0, 0)) ∧ BRet w ta ct ts 2 (.returned (.agg #[.slice ta ts.length ct, .int .i64 2, .slice (some ⟨g1, 0, none⟩) n1 286, .slice (some ⟨g2, 0, none⟩) n2 30, .int .i64 SZ])) wf) := fun wf hwf => by
    have hkf : Kept (fun i => i = w.heap.size ∨ i = g) w5 wf := by rw [hwf]; exact setBk_kept hk7 (.inl rfl)
    have hbf : Below w.heap.size w wf := HBL5.out.trans (hkf.below HBL5.out.size (fun i hi e => by omega))
    refine ⟨by rw [hwf]; exact setBk_at hz7, some ⟨g1, 0, none⟩, 286, some ⟨g2, 0, none⟩, 30, S, D, H, HBKO.out, fun _ => HDY.out, HHD.out, ?_, ⟨HIN.out.t.stay hbf, fun b off e => Nat.lt_of_lt_of_le (HIN.out.b b off e) hbf.size, ?_, ?_⟩, ⟨?_, ?_⟩, hbf⟩
    · unfold bA; rw [HL1.out, HL2.out, hSZ]; rfl
    · exact (HT1.out.kept hkf (fun b h1 h2 e => by omega)).wide (Nat.zero_le _) hkf.size
    · exact (HT2.out.kept hkf (fun b h1 h2 e => by omega)).wide (Nat.zero_le _) hkf.size
    · exact (HT1.out.kept hkf (fun b h1 h2 e => by omega)).wide (by omega) hkf.size
    · exact (HT2.out.kept hkf (fun b h1 h2 e => by omega)).wide (by omega) hkf.size
  clear hb7 hz7 hk7 hSZ HB6 HZ6 B6 d4 g4 c0 c1 c2 c3 c4
  go_wp2_with fail
  obtain ⟨hf1, hf2⟩ := HFIN.out _ rfl
  exact bodyPost_ret (results_cell_row rfl _ _ w.heap.size 43 _ (0, 0) _ (by rfl) hf1 Tryd.underlying43 rfl infoBk) rfl hf2
end Go.Proofs.YtlakgbckopjelabDoor

/- stream: blocks laid one behind the other: contract. -/
namespace Go.Proofs.YtlakgbckopjelabDoor
set_option maxRecDepth 100000
open Go Go.RowKit

/-- A block, told apart into its parts. -/
structure Bq where
  ta : Option Addr
  ct : Nat
  ts : List M.Tk
  k : Nat
  sa : Option Addr
  cs : Nat
  da : Option Addr
  cd : Nat
  S : List Int
  D : List Int
  sz : Int
def Bq.v (q : Bq) : Array Value := bA q.ta q.ts.length q.ct q.k q.sa q.S.length q.cs q.da q.D.length q.cd q.sz
structure Bq.In (B : Nat) (w : World) (q : Bq) : Prop where
  ok : BkOk q.k q.ts q.S q.D
  at_ : BkAt B w q.ta q.sa q.da q.ts q.S q.D
theorem Bq.In.below {B : Nat} {w w' : World} {q : Bq} (h : q.In B w) (k : Below B w w') : q.In B w' := ⟨h.ok, h.at_.below k⟩
theorem Bq.In.wide {B B' : Nat} {w : World} {q : Bq} (h : q.In B w) (k : B ≤ B') : q.In B' w := ⟨h.ok, h.at_.wide k⟩
/-- Blocks in a row. -/
def qAt (qs : List Bq) (i : Nat) : Bq := qs.getD i ⟨none, 0, [], 0, none, 0, none, 0, [], [], 0⟩
theorem qAt_in {qs : List Bq} {i : Nat} (h : i < qs.length) : qAt qs i = qs[i] := by simp [qAt, List.getD, h]
def Bqs (w : World) (b off : Nat) (qs : List Bq) : Prop := b < w.heap.size ∧ ∀ i, i < qs.length → w.cell? ⟨b, off + i * 5, none⟩ = some (.slice (qAt qs i).ta (qAt qs i).ts.length (qAt qs i).ct) ∧ w.cell? ⟨b, off + i * 5 + 1, none⟩ = some (.int .i64 ((qAt qs i).k : Int)) ∧ w.cell? ⟨b, off + i * 5 + 2, none⟩ = some (.slice (qAt qs i).sa (qAt qs i).S.length (qAt qs i).cs) ∧ w.cell? ⟨b, off + i * 5 + 3, none⟩ = some (.slice (qAt qs i).da (qAt qs i).D.length (qAt qs i).cd) ∧ w.cell? ⟨b, off + i * 5 + 4, none⟩ = some (.int .i64 (qAt qs i).sz)
theorem Bqs.below {B : Nat} {w w' : World} {b off : Nat} {qs : List Bq} (h : Bqs w b off qs) (k : Below B w w') (hb : b < B) : Bqs w' b off qs := by
  refine ⟨Nat.lt_of_lt_of_le h.1 k.size, fun i hi => ?_⟩
  obtain ⟨h1, h2, h3, h4, h5⟩ := h.2 i hi
  exact ⟨(k.cell (p := ⟨b, _, none⟩) hb).trans h1, (k.cell (p := ⟨b, _, none⟩) hb).trans h2, (k.cell (p := ⟨b, _, none⟩) hb).trans h3, (k.cell (p := ⟨b, _, none⟩) hb).trans h4, (k.cell (p := ⟨b, _, none⟩) hb).trans h5⟩
/-- The bits of the first blocks of n. -/
def strN (n : Nat) (xs : List (Bq × List Int)) : List Int := (xs.zipIdx).flatMap fun p => blB p.1.1.k (decide (p.2 + 1 = n)) p.1.2 p.1.1.S p.1.1.D p.1.1.ts
theorem strN_snoc (n : Nat) (xs : List (Bq × List Int)) (x : Bq × List Int) : strN n (xs ++ [x]) = strN n xs ++ blB x.1.k (decide (xs.length + 1 = n)) x.2 x.1.S x.1.D x.1.ts := by
  unfold strN
  rw [List.zipIdx_append, List.flatMap_append]
  simp
/-- Heads of the first blocks. -/
def Heads (qs : List Bq) (xs : List (Bq × List Int)) : Prop := xs.map (·.1) = qs ∧ ∀ x ∈ xs, HdIs x.1.k x.1.S x.1.D x.2
def StRet (w : World) (qs : List Bq) (e : Ending) (w' : World) : Prop := ∃ xs g cap, Heads qs xs ∧ e = .returned (.slice (some ⟨g, 0, none⟩) (dataL (strN qs.length xs)).length cap) ∧ OwnsB w' w.heap.size (.slice (some ⟨g, 0, none⟩) (dataL (strN qs.length xs)).length cap) (dataL (strN qs.length xs)) ∧ Below w.heap.size w w'
/-- The bits together are not too many. -/
def few (qs : List Bq) : Prop := (qs.map fun q => 60 * q.ts.length + 200000).sum ≤ 400000000
theorem bl_len {k : Nat} {last : Bool} {H S D : List Int} {ts : List M.Tk} (hb : BkOk k ts S D) (hH : HdIs k S D H) : (blB k last H S D ts).length ≤ 60 * ts.length + 200000 := by
  have h1 := hd_len hH
  have hmk := emk_ok hb.ok
  have h2 := eB_le (check_ok hb.cs).2.1 (check_ok hb.cd).2.1 (ms := emk ts) (fun x hx => (hmk x hx).2.2.2)
  have h3 := emk_len ts
  rw [eB_dat] at h2
  unfold blB
  rw [List.length_append, List.length_append, knd_length]
  omega
theorem OwnsB.low {w : World} {b b' : Nat} {v : Value} {D : List Int} (h : OwnsB w b v D) (hb : b' ≤ b) : OwnsB w b' v D := by
  obtain ⟨h1, h2⟩ := h
  refine ⟨h1, ?_⟩
  rcases h2 with h2 | ⟨g, cap, cur, e, hg, r⟩
  · exact .inl h2
  · exact .inr ⟨g, cap, cur, e, Nat.le_trans hb hg, r⟩
theorem str_len {n : Nat} : ∀ (xs : List (Bq × List Int)), (∀ x ∈ xs, BkOk x.1.k x.1.ts x.1.S x.1.D ∧ HdIs x.1.k x.1.S x.1.D x.2) → (strN n xs).length ≤ ((xs.map (·.1)).map fun q => 60 * q.ts.length + 200000).sum := by
  intro xs
  refine snoc_ind (P := fun xs => (∀ x ∈ xs, BkOk x.1.k x.1.ts x.1.S x.1.D ∧ HdIs x.1.k x.1.S x.1.D x.2) → (strN n xs).length ≤ ((xs.map (·.1)).map fun q => 60 * q.ts.length + 200000).sum) ?_ ?_ xs
  · intro _; simp [strN]
  · intro xs x ih h
    have h1 := ih (fun y hy => h y (by simp [hy]))
    have h2 := bl_len (last := decide (xs.length + 1 = n)) (h x (by simp)).1 (h x (by simp)).2
    rw [strN_snoc, List.length_append]
    simp only [List.map_append, List.sum_append, List.map_cons, List.map_nil, List.sum_cons, List.sum_nil]
    omega
theorem sum_take_le (f : Bq → Nat) : ∀ (qs : List Bq) (i : Nat), ((qs.take i).map f).sum ≤ (qs.map f).sum := by
  intro qs
  induction qs with
  | nil => intro i; simp
  | cons q qs ih =>
    intro i
    cases i with
    | zero => simp
    | succ i => have := ih i; simp only [List.take_succ_cons, List.map_cons, List.sum_cons]; omega
set_option maxHeartbeats 4000000 in
theorem stream_c (w : World) (hT : Tab w) (h0 : 0 < w.heap.size) (b off cap : Nat) (qs : List Bq) (hq : Bqs w b off qs) (hn : 0 < qs.length ∧ qs.length ≤ 1000000) (hin : ∀ q ∈ qs, q.In w.heap.size w) (hf : few qs) :
    Calls Tryd.prog 9 #[.slice (some ⟨b, off, none⟩) qs.length cap] w (StRet w qs) := by
  have HN := hide (newW w)
  have HT := hide hT
  have HQ := hide hq
  have HIN := hide hin
  have HF := hide hf
  have hbb := hq.1
  clear hT hq hin hf
  go_enter Tryd.func9, Tryd.ntmps9
  go_upto_region 2 with (go_at_call 12; refine HN.out.mono ?_; rintro e w1 ⟨rfl, s1, b1⟩; have S1 := hide s1; have B1 := hide b1; clear s1 b1 HN)
  have HS0 : Hid (∃ xs, Heads (qs.take 0) xs ∧ WTo w.heap.size w.heap.size none w1 (strN qs.length xs) w1) := ⟨[], ⟨rfl, by simp⟩, S1.out.to⟩
  go_wp2_with fail
  go_loopg [9] qs.length (fun gk v9 wx => ∃ i : Nat, i + gk = qs.length ∧ v9 = .int .i64 i ∧ Hid (∃ xs, Heads (qs.take i) xs ∧ WTo w.heap.size w.heap.size none w1 (strN qs.length xs) wx))
  case atStart => exact ⟨0, by omega, rfl, HS0⟩
  case round =>
    obtain ⟨i, hig, rfl, HI⟩ := hrel
    clear HS0
    obtain ⟨xs, hh, hk⟩ := HI.out
    have hxl : xs.length = i := by have := congrArg List.length hh.1; rw [List.length_map, List.length_take] at this; omega
    have hbl1 : Below w.heap.size w wr := B1.out.trans (hk.blw B1.out.size (Nat.le_refl _) (fun g e => by cases e))
    have hok : ∀ x ∈ xs, BkOk x.1.k x.1.ts x.1.S x.1.D ∧ HdIs x.1.k x.1.S x.1.D x.2 := fun x hx => by
      have hm : x.1 ∈ qs.take i := by rw [← hh.1]; exact List.mem_map.2 ⟨x, hx, rfl⟩
      exact ⟨(HIN.out x.1 (List.mem_of_mem_take hm)).ok, hh.2 x hx⟩
    have hlen : (strN qs.length xs).length ≤ 400000000 := by
      have h1 := str_len (n := qs.length) xs hok
      rw [hh.1] at h1
      have h2 := sum_take_le (fun q => 60 * q.ts.length + 200000) qs i
      have h3 : (qs.map fun q => 60 * q.ts.length + 200000).sum ≤ 400000000 := HF.out
      omega
    cases gk with
    | zero =>
      obtain rfl : i = qs.length := by omega
      rw [List.take_length] at hh
      obtain ⟨o, s, kk, oo⟩ := hk
      have HD := hide (dataW s (by omega))
      have HHH := hide hh
      have HBL := hide hbl1
      clear hh s kk oo hbl1 hxl hlen HI hok
      go_wp2_with (go_at_call 14; refine HD.out.mono ?_; rintro e w2 ⟨g, cp, rfl, ow, b2⟩; have HR := hide (show StRet w qs (.returned (.slice (some ⟨g, 0, none⟩) (dataL (strN qs.length xs)).length cp)) w2 from ⟨xs, g, cp, HHH.out, rfl, OwnsB.low ow HBL.out.size, HBL.out.trans (b2.mono HBL.out.size)⟩); clear ow b2 HD)
      go_ret
      exact HR.out
    | succ g1 =>
      have hi : i < qs.length := by omega
      have hlt : (i : Int) < (qs.length : Int) := by omega
      have hqb := HQ.out.below hbl1 hbb
      obtain ⟨c0, c1, c2, c3, c4⟩ := hqb.2 i hi
      have hin := (HIN.out _ (List.getElem_mem hi)).below hbl1
      have htk : qs.take (i + 1) = qs.take i ++ [qs[i]] := List.take_succ_eq_append_getElem hi
      rw [qAt_in hi] at c0 c1 c2 c3 c4
      have hbe : ((i : Int) == (qs.length : Int) - 1) = decide (xs.length + 1 = qs.length) := by
        rw [hxl]
        by_cases e : i + 1 = qs.length
        · rw [decide_eq_true e]; simp; omega
        · rw [decide_eq_false e]; simp; omega
      generalize qs[i] = q at c0 c1 c2 c3 c4 hin htk
      obtain ⟨ta, ct, ts, k, sa, cs, da, cd, S, D, sz⟩ := q
      simp only at c0 c1 c2 c3 c4
      obtain ⟨LB, hLB⟩ : ∃ LB, decide (xs.length + 1 = qs.length) = LB := ⟨_, rfl⟩
      rw [hLB] at hbe
      obtain ⟨W, hWW⟩ : ∃ W, W = wr.alloc (.cells (bA ta ts.length ct k sa S.length cs da D.length cd sz) 43) := ⟨_, rfl⟩
      have blW : Below wr.heap.size wr W := by rw [hWW]; exact (Below.refl _ _).alloc (Nat.le_refl _) _
      have hWb : W.heap[wr.heap.size]? = some (.cells (bA ta ts.length ct k sa S.length cs da D.length cd sz) 43 (0, 0)) := by rw [hWW]; exact heap_new wr _
      have hkW := hk.below blW
      have hzw := hbl1.size
      have HLY : Hid (Calls Tryd.prog 19 #[.agg (bA ta ts.length ct k sa S.length cs da D.length cd sz), .pointer (some ⟨w.heap.size, 0, none⟩), .bool LB] W fun e w' => e = .returned (.tuple #[]) ∧ ∃ xs, Heads (qs.take (i + 1)) xs ∧ WTo w.heap.size w.heap.size none w1 (strN qs.length xs) w') := by
        obtain ⟨o, s, kk, oo⟩ := hkW
        have hblW : Below w.heap.size w W := hbl1.trans (blW.mono hzw)
        refine (lay_b w.heap.size o W (strN qs.length xs) s hlen (HT.out.below hblW h0) h0 ta sa da ct cs cd k sz ts S D LB hin.ok (hin.at_.below (blW.mono hzw))).mono ?_
        rintro e w' ⟨rfl, H, hH, k2⟩
        refine ⟨rfl, xs ++ [(⟨ta, ct, ts, k, sa, cs, da, cd, S, D, sz⟩, H)], ⟨by rw [List.map_append, hh.1, htk]; rfl, fun x hx => ?_⟩, ?_⟩
        · rcases List.mem_append.1 hx with hx | hx
          · exact hh.2 x hx
          · rw [List.mem_singleton.1 hx]; exact hH
        · rw [strN_snoc, hLB]
          exact WTo.trans kk oo k2
      have d0 := cells_of hWb 0
      have d1 := cells_of hWb 1
      have d2 := cells_of hWb 2
      have d3 := cells_of hWb 3
      have d4 := cells_of hWb 4
      simp at d0 d1 d2 d3 d4
      have HE : Hid (wr.alloc (.cells (bA ta ts.length ct k sa S.length cs da D.length cd sz) 43) = W) := hWW.symm
      clear hh hk hxl hbl1 hlen hok hqb hin htk hLB hWW blW hWb hkW hzw HI
      go_upto_region 5 with fail
      rw [HE.out]
      go_wp2_with (go_at_call 19; refine HLY.out.mono ?_; rintro e w2 ⟨rfl, k2⟩; have HK2 := hide k2; clear k2 HLY)
      go_roundg g1
      case measure => omega
      case rel => exact ⟨i + 1, by omega, by go_num, HK2⟩
end Go.Proofs.YtlakgbckopjelabDoor

/- Fixed, Dynamic: contracts. -/
namespace Go.Proofs.YtlakgbckopjelabDoor
set_option maxRecDepth 100000
open Go Go.RowKit

/-- A stream of one block, told. -/
def OneRet (w : World) (ts : List M.Tk) (kk : Nat) (e : Ending) (w' : World) : Prop :=
  ∃ S D H g cap, BkOk kk ts S D ∧ (kk = 2 → DynOk ts S D) ∧ HdIs kk S D H ∧ e = .returned (.tuple #[.slice (some ⟨g, 0, none⟩) (dataL (blB kk true H S D ts)).length cap, .bool true]) ∧ OwnsB w' w.heap.size (.slice (some ⟨g, 0, none⟩) (dataL (blB kk true H S D ts)).length cap) (dataL (blB kk true H S D ts)) ∧ Below w.heap.size w w'
/-- A stream of one block. -/
def StOne (w : World) (ts : List M.Tk) (kk : Nat) (e : Ending) (w' : World) : Prop := ∃ S D H g cap, BkOk kk ts S D ∧ (kk = 2 → DynOk ts S D) ∧ HdIs kk S D H ∧ e = .returned (.slice (some ⟨g, 0, none⟩) (dataL (blB kk true H S D ts)).length cap) ∧ OwnsB w' w.heap.size (.slice (some ⟨g, 0, none⟩) (dataL (blB kk true H S D ts)).length cap) (dataL (blB kk true H S D ts)) ∧ Below w.heap.size w w'
theorem one_stream {w w1 : World} {ta sa da : Option Addr} {ct cs cd : Nat} {ts : List M.Tk} {kk : Nat} {S D : List Int} {sz : Int} (hT : Tab w) (h0 : 0 < w.heap.size) (hbk : BkOk kk ts S D) (hdy : kk = 2 → DynOk ts S D) (hat : BkAt w1.heap.size w1 ta sa da ts S D) (hb : Below w.heap.size w w1) :
    Calls Tryd.prog 9 #[.slice (some ⟨w1.heap.size, 0, none⟩) 1 1] (w1.alloc (.cells (bA ta ts.length ct kk sa S.length cs da D.length cd sz) 43)) (StOne w ts kk) := by
  have hl := hbk.len
  obtain ⟨W, hWW⟩ : ∃ W, W = w1.alloc (.cells (bA ta ts.length ct kk sa S.length cs da D.length cd sz) 43) := ⟨_, rfl⟩
  rw [← hWW]
  have blW : Below w1.heap.size w1 W := by rw [hWW]; exact (Below.refl _ _).alloc (Nat.le_refl _) _
  have hWb : W.heap[w1.heap.size]? = some (.cells (bA ta ts.length ct kk sa S.length cs da D.length cd sz) 43 (0, 0)) := by rw [hWW]; exact heap_new w1 _
  have hbl : Below w.heap.size w W := hb.trans (blW.mono hb.size)
  obtain ⟨q, hq⟩ : ∃ q : Bq, q = ⟨ta, ct, ts, kk, sa, cs, da, cd, S, D, sz⟩ := ⟨_, rfl⟩
  have hqs : Bqs W w1.heap.size 0 [q] := by
    refine ⟨lt_of_block hWb, fun i hi => ?_⟩
    obtain rfl : i = 0 := by simpa using hi
    have e : qAt [q] 0 = q := rfl
    rw [e, hq]
    simp only [Nat.zero_mul, Nat.add_zero, Nat.zero_add]
    refine ⟨?_, ?_, ?_, ?_, ?_⟩ <;> rw [cells_of hWb] <;> rfl
  refine (stream_c W (hT.below hbl h0) (Nat.lt_of_lt_of_le h0 hbl.size) w1.heap.size 0 1 [q] hqs (by simp) (fun x hx => ?_) ?_).mono ?_
  · rw [List.mem_singleton.1 hx, hq]
    exact ⟨hbk, (hat.below blW).wide blW.size⟩
  · unfold few; rw [hq]; simp; omega
  · rintro e w' ⟨xs, g, cap, hh, rfl, ow, hb2⟩
    obtain ⟨h1, h2⟩ := hh
    obtain ⟨x, rfl⟩ : ∃ x, xs = [x] := by
      have := congrArg List.length h1
      rw [List.length_map] at this
      exact List.length_eq_one_iff.1 this
    simp only [List.map_cons, List.map_nil, List.cons.injEq, and_true] at h1
    have hx := h2 x (by simp)
    obtain ⟨y, H2⟩ := x
    simp only at h1 hx
    subst h1
    rw [hq] at hx
    have hs : strN [y].length [(y, H2)] = blB kk true H2 S D ts := by rw [hq]; simp [strN]
    rw [hs] at ow ⊢
    exact ⟨S, D, H2, g, cap, hbk, hdy, hx, rfl, OwnsB.low ow hbl.size, hbl.trans (hb2.mono hbl.size)⟩
set_option maxHeartbeats 4000000 in
theorem fixed_yes (w : World) (hT : Tab w) (h0 : 0 < w.heap.size) (ta : Option Addr) (ct : Nat) (ts : List M.Tk) (hI : TkIn w ta ts) (hr : M.Rt ts) :
    Calls Tryd.prog 7 #[.slice ta ts.length ct] w (OneRet w ts 1) := by
  have hl := hI.len
  have HR := hide (M.right_yes ta ct ts w hI.t (by omega) hr)
  have HT := hide hT
  have HI := hide hI
  clear hT hI hr
  go_enter Tryd.func7, Tryd.ntmps7
  go_upto_region 3 with (go_at_call 15; refine HR.out.mono ?_; rintro e w1 ⟨rfl, b1⟩; have B1 := hide b1; clear b1 HR)
  have hI1 := HI.out.stay B1.out
  have hz1 : 0 < w1.heap.size := Nat.lt_of_lt_of_le h0 B1.out.size
  have hT1 : Tab w1 := HT.out.below B1.out h0
  have HC := hide (count_c ta ct ts w1 hI1.t hI1.ok (by omega))
  have HF : Hid (∀ w2, TlOf w2 w1.heap.size ts → Below w1.heap.size w1 w2 → Calls Tryd.prog 16 #[.slice ta ts.length ct, .pointer (some ⟨w1.heap.size, 0, none⟩)] w2 (BRet w2 ta ct ts 1)) := fun w2 ht hb => fixedBlock_c w2 (hT1.below hb hz1) (Nat.lt_of_lt_of_le hz1 hb.size) ta ct w1.heap.size ts (hI1.stay hb) ht
  clear hI1 hT1 HI
  go_wp2_with (first
    | (go_at_call 17; refine HC.out.mono ?_; rintro e w2 ⟨rfl, t2, b2⟩; have HF2 := hide (HF.out w2 t2 b2); have B2 := hide (B1.out.trans (b2.mono B1.out.size)); clear t2 b2 HC HF)
    | (go_at_call 16; refine HF2.out.mono ?_; rintro e w3 ⟨sa, cs, da, cd, S, D, H, hbk, hdy, hH, rfl, hat, -, hb⟩; have HS := hide (one_stream (w := w) (w1 := w3) (ct := ct) (cs := cs) (cd := cd) (sz := szB 1 H S D ts) HT.out h0 hbk hdy hat (B2.out.trans (hb.mono B2.out.size))); clear hbk hdy hH hat hb HF2)
    | (go_at_call 9; refine HS.out.mono ?_; rintro e w4 ⟨S4, D4, H4, g4, c4, q1, q2, q3, rfl, q5, q6⟩; have HQ := hide (show OneRet w ts 1 (.returned (.tuple #[.slice (some ⟨g4, 0, none⟩) (dataL (blB 1 true H4 S4 D4 ts)).length c4, .bool true])) w4 from ⟨S4, D4, H4, g4, c4, q1, q2, q3, rfl, q5, q6⟩); clear q1 q2 q3 q5 q6 HS))
  exact bodyPost_ret (v := .tuple #[.slice (some ⟨g4, 0, none⟩) (dataL (blB 1 true H4 S4 D4 ts)).length c4, .bool true]) ((results_tmp2 (t := 2) (u := 3) rfl _ _ _).trans rfl) rfl HQ.out
set_option maxHeartbeats 4000000 in
theorem dynamic_yes (w : World) (hT : Tab w) (h0 : 0 < w.heap.size) (ta : Option Addr) (ct : Nat) (ts : List M.Tk) (hI : TkIn w ta ts) (hr : M.Rt ts) :
    Calls Tryd.prog 8 #[.slice ta ts.length ct] w (OneRet w ts 2) := by
  have hl := hI.len
  have HR := hide (M.right_yes ta ct ts w hI.t (by omega) hr)
  have HT := hide hT
  have HI := hide hI
  clear hT hI hr
  go_enter Tryd.func8, Tryd.ntmps8
  go_upto_region 3 with (go_at_call 15; refine HR.out.mono ?_; rintro e w1 ⟨rfl, b1⟩; have B1 := hide b1; clear b1 HR)
  have hI1 := HI.out.stay B1.out
  have hz1 : 0 < w1.heap.size := Nat.lt_of_lt_of_le h0 B1.out.size
  have hT1 : Tab w1 := HT.out.below B1.out h0
  have HC := hide (count_c ta ct ts w1 hI1.t hI1.ok (by omega))
  have HF : Hid (∀ w2, TlOf w2 w1.heap.size ts → Below w1.heap.size w1 w2 → Calls Tryd.prog 18 #[.slice ta ts.length ct, .pointer (some ⟨w1.heap.size, 0, none⟩)] w2 (BRet w2 ta ct ts 2)) := fun w2 ht hb => dynamicBlock_c w2 (hT1.below hb hz1) (Nat.lt_of_lt_of_le hz1 hb.size) ta ct w1.heap.size ts (hI1.stay hb) ht
  clear hI1 hT1 HI
  go_wp2_with (first
    | (go_at_call 17; refine HC.out.mono ?_; rintro e w2 ⟨rfl, t2, b2⟩; have HF2 := hide (HF.out w2 t2 b2); have B2 := hide (B1.out.trans (b2.mono B1.out.size)); clear t2 b2 HC HF)
    | (go_at_call 18; refine HF2.out.mono ?_; rintro e w3 ⟨sa, cs, da, cd, S, D, H, hbk, hdy, hH, rfl, hat, -, hb⟩; have HS := hide (one_stream (w := w) (w1 := w3) (ct := ct) (cs := cs) (cd := cd) (sz := szB 2 H S D ts) HT.out h0 hbk hdy hat (B2.out.trans (hb.mono B2.out.size))); clear hbk hdy hH hat hb HF2)
    | (go_at_call 9; refine HS.out.mono ?_; rintro e w4 ⟨S4, D4, H4, g4, c4, q1, q2, q3, rfl, q5, q6⟩; have HQ := hide (show OneRet w ts 2 (.returned (.tuple #[.slice (some ⟨g4, 0, none⟩) (dataL (blB 2 true H4 S4 D4 ts)).length c4, .bool true])) w4 from ⟨S4, D4, H4, g4, c4, q1, q2, q3, rfl, q5, q6⟩); clear q1 q2 q3 q5 q6 HS))
  exact bodyPost_ret (v := .tuple #[.slice (some ⟨g4, 0, none⟩) (dataL (blB 2 true H4 S4 D4 ts)).length c4, .bool true]) ((results_tmp2 (t := 2) (u := 3) rfl _ _ _).trans rfl) rfl HQ.out
theorem fixed_no (w : World) (ta : Option Addr) (ct : Nat) (ts : List M.Tk) (ht : M.Toks w ta ts) (hl : ts.length ≤ 1000000000) (hr : ¬ M.Rt ts) :
    Calls Tryd.prog 7 #[.slice ta ts.length ct] w fun e w' => e = .returned (.tuple #[.slice none 0 0, .bool false]) ∧ Below w.heap.size w w' := by
  have HR := hide (M.right_no ta ct ts w ht hl hr)
  clear ht hr
  go_enter Tryd.func7, Tryd.ntmps7
  go_wp2_with (go_at_call 15; refine HR.out.mono ?_; rintro e w1 ⟨rfl, b1⟩; have B1 := hide b1; clear b1 HR)
  exact bodyPost_ret (results_tmp2 rfl _ _ _) rfl ⟨rfl, B1.out⟩
theorem dynamic_no (w : World) (ta : Option Addr) (ct : Nat) (ts : List M.Tk) (ht : M.Toks w ta ts) (hl : ts.length ≤ 1000000000) (hr : ¬ M.Rt ts) :
    Calls Tryd.prog 8 #[.slice ta ts.length ct] w fun e w' => e = .returned (.tuple #[.slice none 0 0, .bool false]) ∧ Below w.heap.size w w' := by
  have HR := hide (M.right_no ta ct ts w ht hl hr)
  clear ht hr
  go_enter Tryd.func8, Tryd.ntmps8
  go_wp2_with (go_at_call 15; refine HR.out.mono ?_; rintro e w1 ⟨rfl, b1⟩; have B1 := hide b1; clear b1 HR)
  exact bodyPost_ret (results_tmp2 rfl _ _ _) rfl ⟨rfl, B1.out⟩
end Go.Proofs.YtlakgbckopjelabDoor

/- layStored, Stored: contracts. -/
namespace Go.Proofs.YtlakgbckopjelabDoor
set_option maxRecDepth 100000
open Go Go.RowKit
set_option linter.unusedVariables false

theorem bits_eq {x y : Int} {n : Nat} (h : x % 2 ^ n = y % 2 ^ n) : bitsN x n = bitsN y n := by
  rw [← bitsN_mod x n n (Nat.le_refl _), ← bitsN_mod y n n (Nat.le_refl _), h]
theorem two_bytes (n : Nat) : bitsN (n : Int) 16 = bitsN ((n % 256 : Nat) : Int) 8 ++ bitsN ((n / 256 : Nat) : Int) 8 := by
  rw [show (16 : Nat) = 8 + 8 from rfl, bitsN_add]
  congr 1
  · exact bits_eq (by omega)
theorem two_nots (n : Nat) (hn : n ≤ 65535) : bitsN (-(n : Int) - 1) 16 = bitsN ((255 - n % 256 : Nat) : Int) 8 ++ bitsN ((255 - n / 256 : Nat) : Int) 8 := by
  rw [show (16 : Nat) = 8 + 8 from rfl, bitsN_add]
  congr 1
  · exact bits_eq (by omega)
  · exact bits_eq (by omega)
theorem row_head (l : Bool) (n : Nat) (hn : n ≤ 65535) : knd l 0 ++ bitsN 0 5 ++ bitsN (n : Int) 16 ++ bitsN (-(n : Int) - 1) 16 = rowOf (iHead (if l then 1 else 0) n) := by
  rw [two_bytes, two_nots n hn]
  have e : knd l 0 ++ bitsN 0 5 = bitsN ((if l then 1 else 0 : Nat) : Int) 8 := by cases l <;> rfl
  rw [e]
  unfold iHead rowOf
  simp
theorem not_int (n : Nat) (h : n ≤ 65535) : bits .xor .i64 (if IntKind.i64.signed = true then -1 else 9223372036854775807) (n : Int) = -(n : Int) - 1 := by
  have e : (if IntKind.i64.signed = true then (-1 : Int) else 9223372036854775807) = -1 := rfl
  rw [e]
  show IntKind.i64.wrap (((BitVec.ofInt 64 (-1) ^^^ BitVec.ofInt 64 (n : Int)).toNat : Nat) : Int) = _
  have h1 : BitVec.ofInt 64 (-1) = BitVec.allOnes 64 := by decide
  have h2 : (BitVec.ofInt 64 (n : Int)).toNat = n := ofInt_nat _ (by omega)
  have h3 : (BitVec.ofInt 64 (-1) ^^^ BitVec.ofInt 64 (n : Int)).toNat = 18446744073709551615 - n := by
    rw [h1, BitVec.xor_comm, BitVec.xor_allOnes, BitVec.toNat_not, h2]
  rw [h3, IntKind.wrap_i64]
  omega
/-- Stored blocks. -/
def stB (zs : List Int) : List Int := if h : 65535 < zs.length then iHead 0 65535 ++ (zs.take 65535 ++ stB (zs.drop 65535)) else iHead 1 zs.length ++ zs
termination_by zs.length
decreasing_by rw [List.length_drop]; omega
theorem stB_big {zs : List Int} (h : 65535 < zs.length) : stB zs = iHead 0 65535 ++ (zs.take 65535 ++ stB (zs.drop 65535)) := by rw [stB, dif_pos h]
theorem stB_small {zs : List Int} (h : zs.length ≤ 65535) : stB zs = iHead 1 zs.length ++ zs := by rw [stB, dif_neg (by omega)]
set_option maxHeartbeats 4000000 in
theorem layStored_c (bw B : Nat) (ow : Option Nat) (w : World) (Z : List Int) (hW : WS bw bw ow w (rowOf Z)) (hL : Z.length ≤ 100000000) (a : Option Addr) (len cap : Nat) (zs : List Int) (ht : Text B w a len zs) (hnil : a = none → len = 0 ∧ cap = 0) (hB : B ≤ bw) (hlen : len ≤ 65535) (last : Bool) :
    Calls Tryd.prog 13 #[.pointer (some ⟨bw, 0, none⟩), .slice a len cap, .bool last] w (WRet bw bw ow w (rowOf (Z ++ (iHead (if last then 1 else 0) len ++ zs))) (.tuple #[])) := by
  have hbb : bw ≤ w.heap.size := by have := hW.lt; omega
  have hzl : (rowOf Z).length = 8 * Z.length := rowOf_length Z
  have HK := hide (layKind_c bw ow w (rowOf Z) hW (by omega) 0 last)
  have HA : Hid (∀ w1, WTo bw bw ow w (rowOf Z ++ knd last 0) w1 → Calls Tryd.prog 28 #[.pointer (some ⟨bw, 0, none⟩)] w1 fun e w' => e = .returned (.tuple #[]) ∧ WTo bw bw ow w (rowOf Z ++ knd last 0 ++ bitsN 0 5) w') := fun w1 k => by
    obtain ⟨o, s, kk, oo⟩ := k
    have hl : (rowOf Z ++ knd last 0).length = 8 * Z.length + 3 := by rw [List.length_append, hzl, knd_length]
    have hp : pad (rowOf Z ++ knd last 0).length = 5 := by rw [hl]; exact pad_pos (by decide) (by decide)
    refine (alignW s (by have := kk.size; omega) (by omega)).mono ?_
    rintro e w' ⟨rfl, k2⟩
    rw [hp] at k2
    exact ⟨rfl, WTo.trans kk oo k2⟩
  have HB1 : Hid (∀ w1, WTo bw bw ow w (rowOf Z ++ knd last 0 ++ bitsN 0 5) w1 → Calls Tryd.prog 29 #[.pointer (some ⟨bw, 0, none⟩), .int .i64 (len : Int), .int .i64 16] w1 fun e w' => e = .returned (.tuple #[]) ∧ WTo bw bw ow w (rowOf Z ++ knd last 0 ++ bitsN 0 5 ++ bitsN (len : Int) 16) w') := fun w1 k => k.bits hbb (by simp only [List.length_append, hzl, knd_length, bitsN_length]; omega) (len : Int) 16 (by omega)
  have HB2 : Hid (∀ w1, WTo bw bw ow w (rowOf Z ++ knd last 0 ++ bitsN 0 5 ++ bitsN (len : Int) 16) w1 → Calls Tryd.prog 29 #[.pointer (some ⟨bw, 0, none⟩), .int .i64 (-(len : Int) - 1), .int .i64 16] w1 fun e w' => e = .returned (.tuple #[]) ∧ WTo bw bw ow w (rowOf (Z ++ iHead (if last then 1 else 0) len)) w') := fun w1 k => by
    refine (k.bits hbb (by simp only [List.length_append, hzl, knd_length, bitsN_length]; omega) (-(len : Int) - 1) 16 (by omega)).mono ?_
    rintro e w' ⟨rfl, k2⟩
    refine ⟨rfl, ?_⟩
    rw [show (16 : Int).toNat = 16 from rfl] at k2
    have := row_head last len hlen
    rw [rowOf_append, ← this]
    simpa only [List.append_assoc] using k2
  have HB3 : Hid (∀ w1, WTo bw bw ow w (rowOf (Z ++ iHead (if last then 1 else 0) len)) w1 → Calls Tryd.prog 30 #[.pointer (some ⟨bw, 0, none⟩), .slice a len cap] w1 fun e w' => e = .returned (.tuple #[]) ∧ WRet bw bw ow w (rowOf (Z ++ (iHead (if last then 1 else 0) len ++ zs))) (.tuple #[]) (.returned (.tuple #[])) w') := fun w1 k => by
    have hbl : Below bw w w1 := k.blw hbb (Nat.le_refl _) (fun g e => (hW.own e).1)
    obtain ⟨o, s, kk, oo⟩ := k
    have hl : (rowOf (Z ++ iHead (if last then 1 else 0) len)).length = 8 * (Z.length + 5) := by rw [rowOf_length, List.length_append, iHead_length]
    have hp : pad (rowOf (Z ++ iHead (if last then 1 else 0) len)).length = 0 := pad_zero (by omega)
    refine (bytesW (B := B) s (by have := kk.size; omega) (by omega) a len cap zs (ht.kept (Kept.of_below hbl) (fun b hb e => by omega)) hnil hB hB (by omega)).mono ?_
    rintro e w' ⟨rfl, k2⟩
    refine ⟨rfl, rfl, ?_⟩
    rw [hp] at k2
    rw [← List.append_assoc, rowOf_append (Z ++ _)]
    have := WTo.trans kk oo k2
    simpa [bitsN] using this
  generalize WRet bw bw ow w (rowOf (Z ++ (iHead (if last then 1 else 0) len ++ zs))) (.tuple #[]) = Q at HB3 ⊢
  clear hW ht hnil hzl
  go_enter Tryd.func13, Tryd.ntmps13
  go_upto_region 1 with (go_at_call 27; refine HK.out.mono ?_; rintro e w1 ⟨rfl, k1⟩; have H1 := hide (HA.out w1 k1); clear k1 HK HA)
  go_upto_region 2 with (go_at_call 28; refine H1.out.mono ?_; rintro e w2 ⟨rfl, k2⟩; have H2 := hide (HB1.out w2 k2); clear k2 H1 HB1)
  go_upto_region 3 with (go_at_call 29; refine H2.out.mono ?_; rintro e w3 ⟨rfl, k3⟩; have H3 := hide (HB2.out w3 k3); clear k3 H2 HB2)
  have hx := not_int len hlen
  go_upto_region 4 with (go_at_call 29; (try rw [hx]); refine H3.out.mono ?_; rintro e w4 ⟨rfl, k4⟩; have H4 := hide (HB3.out w4 k4); clear k4 H3 HB3)
  go_wp2_with (go_at_call 30; refine H4.out.mono ?_; rintro e w5 ⟨rfl, k5⟩; have H5 := hide k5; clear k5 H4)
  go_end0
  exact H5.out

theorem Text.part {B : Nat} {w : World} {b off n : Nat} {zs : List Int} (h : Text B w (some ⟨b, off, none⟩) zs.length zs) (i : Nat) (hi : i + n ≤ zs.length) : Text B w (some ⟨b, off + i, none⟩) n ((zs.drop i).take n) := by
  obtain ⟨_, h2, h3⟩ := h
  have hg : ∀ j, j < n → ((zs.drop i).take n).getD j 0 = zs.getD (i + j) 0 := fun j hj => by simp [List.getD, hj]
  refine ⟨by rw [List.length_take, List.length_drop]; omega, fun j => ?_, ?_⟩
  · by_cases hj : j < n
    · rw [hg j hj]; exact h2 _
    · rw [List.getD_eq_getElem?_getD, List.getElem?_eq_none (by rw [List.length_take]; omega)]; simp
  · by_cases h0 : n = 0
    · exact .inl h0
    · obtain ⟨b', o', hb, e, hc⟩ := h3.resolve_left (by omega)
      simp only [Option.some.injEq, Addr.mk.injEq, and_true] at e
      obtain ⟨rfl, rfl⟩ := e
      refine .inr ⟨b, off + i, hb, rfl, fun j hj => ?_⟩
      rw [hg j hj, Nat.add_assoc]
      exact hc (i + j) (by omega)
/-- Stored's answer. -/
def StoRet (w : World) (zs : List Int) (e : Ending) (w' : World) : Prop := ∃ g cap, e = .returned (.slice (some ⟨g, 0, none⟩) (stB zs).length cap) ∧ OwnsB w' w.heap.size (.slice (some ⟨g, 0, none⟩) (stB zs).length cap) (stB zs) ∧ Below w.heap.size w w'
theorem stB_len : ∀ (n : Nat) (zs : List Int), zs.length = n → (stB zs).length ≤ 2 * n + 5 := by
  intro n
  induction n using Nat.strongRecOn with
  | ind n ih =>
    intro zs hn
    by_cases h : 65535 < zs.length
    · have := ih (n - 65535) (by omega) (zs.drop 65535) (by rw [List.length_drop]; omega)
      rw [stB_big h]
      simp only [List.length_append, iHead_length, List.length_take]
      omega
    · rw [stB_small (by omega), List.length_append, iHead_length]; omega
theorem stB_bytes : ∀ (n : Nat) (zs : List Int), zs.length = n → (∀ x ∈ zs, 0 ≤ x ∧ x ≤ 255) → ∀ x ∈ stB zs, 0 ≤ x ∧ x ≤ 255 := by
  intro n
  have hd : ∀ (l n : Nat), l ≤ 1 → n ≤ 65535 → ∀ x ∈ iHead l n, 0 ≤ x ∧ x ≤ 255 := fun l n h1 h2 x hx => by
    unfold iHead at hx
    simp only [List.mem_cons, List.not_mem_nil, or_false] at hx
    rcases hx with rfl | rfl | rfl | rfl | rfl <;> omega
  induction n using Nat.strongRecOn with
  | ind n ih =>
    intro zs hn hz x hx
    by_cases h : 65535 < zs.length
    · rw [stB_big h] at hx
      rcases List.mem_append.1 hx with hx | hx
      · exact hd 0 65535 (by decide) (by decide) x hx
      · rcases List.mem_append.1 hx with hx | hx
        · exact hz x (List.mem_of_mem_take hx)
        · exact ih (n - 65535) (by omega) (zs.drop 65535) (by rw [List.length_drop]; omega) (fun y hy => hz y (List.mem_of_mem_drop hy)) x hx
    · rw [stB_small (by omega)] at hx
      rcases List.mem_append.1 hx with hx | hx
      · exact hd 1 _ (by decide) (by omega) x hx
      · exact hz x hx
theorem data_row {Z : List Int} (h : ∀ x ∈ Z, 0 ≤ x ∧ x ≤ 255) : dataL (rowOf Z) = Z := by
  have := dataL_row Z 0 0 h (by decide) (by decide) (by decide)
  simpa [bitsN, dataOf] using this
set_option maxHeartbeats 4000000 in
theorem stored_c (w : World) (a : Option Addr) (cap : Nat) (zs : List Int) (ht : Text w.heap.size w a zs.length zs) (hnil : a = none → zs.length = 0 ∧ cap = 0) (hcap : zs.length ≤ cap) (hl : zs.length ≤ 1000000) :
    Calls Tryd.prog 6 #[.slice a zs.length cap] w (StoRet w zs) := by
  have HN := hide (newW w)
  have hby : ∀ x ∈ zs, 0 ≤ x ∧ x ≤ 255 := ht.mem
  have HBY := hide (stB_bytes _ zs rfl hby)
  have hsl := stB_len _ zs rfl
  have HT := hide ht
  have HNIL := hide hnil
  obtain ⟨ST, hST⟩ : ∃ ST, stB zs = ST := ⟨_, rfl⟩
  have HS0 : Hid ([] ++ stB (zs.drop 0) = ST) := hide (by rw [← hST]; simp)
  have HST := hide hST
  rw [hST] at HBY hsl
  clear ht hnil hby hST
  go_enter Tryd.func6, Tryd.ntmps6
  go_upto_region 2 with (go_at_call 12; refine HN.out.mono ?_; rintro e w1 ⟨rfl, s1, b1⟩; have S1 := hide s1; have B1 := hide b1; clear s1 b1 HN)
  have HK0 : Hid (WTo w.heap.size w.heap.size none w1 (rowOf []) w1) := hide (by simpa [rowOf] using S1.out.to)
  go_loopg [0] zs.length (fun gk v0 wx => ∃ (k : Nat) (a' : Option Addr) (c' : Nat) (Z : List Int), k + gk = zs.length ∧ gk ≤ c' ∧ v0 = .slice a' gk c' ∧ (a' = none → gk = 0 ∧ c' = 0) ∧ (gk = 0 ∨ ∃ b off, a = some ⟨b, off, none⟩ ∧ a' = some ⟨b, off + k, none⟩) ∧ Hid (Z ++ stB (zs.drop k) = ST) ∧ Hid (WTo w.heap.size w.heap.size none w1 (rowOf Z) wx))
  case atStart =>
    refine ⟨0, a, cap, [], by omega, hcap, rfl, HNIL.out, ?_, HS0, HK0⟩
    rcases HT.out.2.2 with h | ⟨b, off, _, e, _⟩
    · exact .inl h
    · exact .inr ⟨b, off, e, e⟩
  case round =>
    obtain ⟨k, a', c', Z, hkg, hgc, rfl, hn', ha', HZ, HK⟩ := hrel
    clear HS0 HK0
    have hZl : Z.length ≤ 3000000 := by have := congrArg List.length HZ.out; rw [List.length_append] at this; omega
    have hbl : Below w.heap.size w wr := B1.out.trans (HK.out.blw B1.out.size (Nat.le_refl _) (fun g e => by cases e))
    have hTr : Text w.heap.size wr a zs.length zs := HT.out.kept (Kept.of_below hbl) (fun b hb e => by omega)
    have hdl : (zs.drop k).length = gk := by rw [List.length_drop]; omega
    by_cases hbig : 65535 < gk
    · obtain ⟨b, off, rfl, rfl⟩ := ha'.resolve_left (by omega)
      have htp := hTr.part (n := 65535) k (by omega)
      have hZ := HZ.out
      rw [stB_big (by omega), List.drop_drop] at hZ
      have HLS : Hid (Calls Tryd.prog 13 #[.pointer (some ⟨w.heap.size, 0, none⟩), .slice (some ⟨b, off + k, none⟩) 65535 c', .bool false] wr fun e w' => e = .returned (.tuple #[]) ∧ WTo w.heap.size w.heap.size none w1 (rowOf (Z ++ (iHead 0 65535 ++ (zs.drop k).take 65535))) w') := by
        obtain ⟨o, s, kk, oo⟩ := HK.out
        refine (layStored_c w.heap.size w.heap.size o wr Z s (by omega) (some ⟨b, off + k, none⟩) 65535 c' ((zs.drop k).take 65535) htp (fun e => by cases e) (Nat.le_refl _) (by omega) false).mono ?_
        rintro e w' ⟨rfl, k2⟩
        exact ⟨rfl, WTo.trans kk oo k2⟩
      have HZ2 : Hid (Z ++ (iHead 0 65535 ++ (zs.drop k).take 65535) ++ stB (zs.drop (k + 65535)) = ST) := hide (by rw [← hZ]; simp only [List.append_assoc])
      have hgt : (65535 : Int) < (gk : Int) := by omega
      have hc1 : (65535 : Int) ≤ (c' : Int) := by omega
      have hcn : ¬ (c' : Int) = 65535 := by omega
      have hcn2 : ¬ c' = 65535 := by omega
      have hc2 : 65535 ≤ c' := by omega
      have hc3 : 65535 ≤ gk := by omega
      clear htp hZ hbl hTr hdl HK HZ hn' ha' hbig
      go_wp2_with (go_at_call 13; refine HLS.out.mono ?_; rintro e w2 ⟨rfl, k2⟩; have HK2 := hide k2; clear k2 HLS)
      go_roundg (gk - 65535)
      case measure => omega
      case rel => exact ⟨k + 65535, some ⟨b, off + k + 65535, none⟩, c' - 65535, _, by omega, by omega, rfl, (fun e => by cases e), .inr ⟨b, off, rfl, by rw [Nat.add_assoc]⟩, HZ2, HK2⟩
    · have htp : Text w.heap.size wr a' gk (zs.drop k) := by
        rcases ha' with h0 | ⟨b, off, e1, e2⟩
        · subst h0
          refine ⟨hdl, fun i => ?_, .inl rfl⟩
          have := List.eq_nil_of_length_eq_zero hdl
          rw [this]; simp
        · subst e1 e2
          have := hTr.part (n := gk) k (by omega)
          rwa [List.take_of_length_le (by omega)] at this
      have hZ := HZ.out
      rw [stB_small (by omega), hdl] at hZ
      have HLS : Hid (Calls Tryd.prog 13 #[.pointer (some ⟨w.heap.size, 0, none⟩), .slice a' gk c', .bool true] wr fun e w' => e = .returned (.tuple #[]) ∧ WTo w.heap.size w.heap.size none w1 (rowOf ST) w') := by
        obtain ⟨o, s, kk, oo⟩ := HK.out
        refine (layStored_c w.heap.size w.heap.size o wr Z s (by omega) a' gk c' (zs.drop k) htp hn' (Nat.le_refl _) (by omega) true).mono ?_
        rintro e w' ⟨rfl, k2⟩
        rw [← hZ]
        exact ⟨rfl, WTo.trans kk oo k2⟩
      have hng : ¬ (65535 : Int) < (gk : Int) := by omega
      clear htp hZ hTr hdl HZ HK hn' ha' hbig hbl
      go_upto_region 6 with (go_at_call 13; refine HLS.out.mono ?_; rintro e w2 ⟨rfl, k2⟩; have HK2 := hide k2; clear k2 HLS)
      have hbl2 : Below w.heap.size w w2 := B1.out.trans (HK2.out.blw B1.out.size (Nat.le_refl _) (fun g e => by cases e))
      obtain ⟨o2, s2, kk2, oo2⟩ := HK2.out
      have hD := dataW s2 (by rw [rowOf_length]; omega)
      rw [data_row HBY.out] at hD
      have HD := hide hD
      have HBL2 := hide hbl2
      clear s2 kk2 oo2 hD hbl2 HK2
      go_wp2_with (go_at_call 14; refine HD.out.mono ?_; rintro e w3 ⟨g, cp, rfl, ow, b3⟩; have HR := hide (show StoRet w zs (.returned (.slice (some ⟨g, 0, none⟩) ST.length cp)) w3 from ⟨g, cp, by rw [HST.out], by rw [HST.out]; exact OwnsB.low ow HBL2.out.size, HBL2.out.trans (b3.mono HBL2.out.size)⟩); clear ow b3 HD)
      go_ret
      exact HR.out
end Go.Proofs.YtlakgbckopjelabDoor
