/- lay: a block laid: contract. -/
import Derived.Test.YteknifnadbmfiaaGreatDoorpDLay
namespace Go.Proofs.YteknifnadbmfiaaGreatDoor
set_option maxRecDepth 100000
open Go Go.RowKit

/-- A block whose tokens can be laid. -/
structure BkOk (k : Nat) (ts : List M.Tk) (S D : List Int) : Prop where
  kind : (k = 1 ∧ S = iFix ∧ D = iFive) ∨ (k = 2 ∧ SDOk S D)
  ok : TOk ts
  len : ts.length ≤ 1200000
  cs : check S true = 0
  cd : check D true = 0
  has : MHas S D ts
theorem BkOk.k12 {k : Nat} {ts : List M.Tk} {S D : List Int} (h : BkOk k ts S D) : k = 1 ∨ (k = 2 ∧ SDOk S D) := by
  rcases h.kind with h | h
  · exact .inl h.1
  · exact .inr h
/-- A block in memory, its parts in blocks below B. -/
structure BkAt (B : Nat) (w : World) (ta sa da : Option Addr) (ts : List M.Tk) (S D : List Int) : Prop where
  t : M.Toks w ta ts
  tb : ∀ b off, ta = some ⟨b, off, none⟩ → b < B
  s : Ints 0 B w sa S
  d : Ints 0 B w da D
theorem BkAt.below {B : Nat} {w w' : World} {ta sa da : Option Addr} {ts : List M.Tk} {S D : List Int} (h : BkAt B w ta sa da ts S D) (k : Below B w w') : BkAt B w' ta sa da ts S D :=
  ⟨h.t.below k h.tb, h.tb, h.s.below k (Nat.le_refl _), h.d.below k (Nat.le_refl _)⟩
theorem BkAt.wide {B B' : Nat} {w : World} {ta sa da : Option Addr} {ts : List M.Tk} {S D : List Int} (h : BkAt B w ta sa da ts S D) (k : B ≤ B') : BkAt B' w ta sa da ts S D :=
  ⟨h.t, fun b off e => Nat.lt_of_lt_of_le (h.tb b off e) k, h.s.wide (Nat.le_refl _) k, h.d.wide (Nat.le_refl _) k⟩
/-- What lay lays. -/
def blB (k : Nat) (last : Bool) (H S D : List Int) (ts : List M.Tk) : List Int := knd last k ++ (H ++ datB S D ts)
def LyRet (bw : Nat) (ow : Option Nat) (w : World) (L0 : List Int) (k : Nat) (last : Bool) (S D : List Int) (ts : List M.Tk) (e : Ending) (w' : World) : Prop := e = .returned (.tuple #[]) ∧ ∃ H, HdIs k S D H ∧ WTo bw bw ow w (L0 ++ blB k last H S D ts) w'
theorem hd_len {k : Nat} {S D H : List Int} (h : HdIs k S D H) : H.length ≤ 100000 := by
  rcases h with ⟨_, rfl⟩ | ⟨_, hsd, F, many, hll, rfl⟩
  · simp
  · have hf := inN_sym _ (S ++ D) rfl (fit_app hsd.fs hsd.fd)
    have hl := inN_len _ (S ++ D) rfl
    have hg := (check_good hll.inn.chk).fit
    have h1 : ((inN (S ++ D)).flatMap (mkB F)).length ≤ 22 * (inN (S ++ D)).length := flat_le (fun m hm => by have h1 := ln_fit hg m.1; have h2 := (hf m hm).2.2; rw [mkB_length]; omega)
    have h2 : (S ++ D).length = S.length + D.length := by simp
    have := hsd.s1; have := hsd.d1; have := hll.m1
    unfold hdB
    simp only [List.length_append, bitsN_length, innB_length] at h1 hl h2 ⊢
    omega
theorem byCode_p (bw bc : Nat) (w : World) : Calls Tryz.prog 68 #[.pointer (some ⟨bw, 0, none⟩), .pointer (some ⟨bc, 0, none⟩)] w fun e w' => ∃ b1 b2, e = .returned (.func (.func 88) #[] #[.pointer (some ⟨b1, 0, none⟩), .pointer (some ⟨b2, 0, none⟩)]) ∧ ByAt w' b1 b2 bw bc ∧ Below w.heap.size w w' := by
  refine (byCode_c bw bc w).mono ?_
  rintro e w' ⟨rfl, rfl⟩
  exact ⟨_, _, rfl, ⟨heap_new2 _ _ _, heap_new1 _ _ _⟩, ((Below.refl _ _).alloc (Nat.le_refl _) _).alloc (by simp) _⟩
/-- All marks of tokens, laid. -/
theorem each_lay {bw bc bd : Nat} {ow : Option Nat} {w3 w6 : World} {L1 S D : List Int} {ts : List M.Tk} {ta : Option Addr} {ct b1 b2 b3 b4 : Nat} (hK : WTo bw bw ow w3 L1 w6) (hL : L1.length ≤ 500000000) (hbw : bw ≤ w3.heap.size) (hgS : Good S) (hgD : Good D) (hok : TOk ts) (hlen : ts.length ≤ 1200000) (hh : MHas S D ts)
    (y1 : ByAt w6 b1 b2 bw bc) (y2 : ByAt w6 b3 b4 bw bd) (cS : CAt w6 bc S) (cD : CAt w6 bd D) (hT : M.Toks w6 ta ts) (hTb : ∀ b off, ta = some ⟨b, off, none⟩ → b < bw) :
    Calls Tryz.prog 67 #[.slice ta ts.length ct, .func (.func 88) #[] #[.pointer (some ⟨b1, 0, none⟩), .pointer (some ⟨b2, 0, none⟩)], .func (.func 88) #[] #[.pointer (some ⟨b3, 0, none⟩), .pointer (some ⟨b4, 0, none⟩)]] w6 fun e w' => e = .returned (.tuple #[]) ∧ WTo bw bw ow w3 (L1 ++ datB S D ts) w' := by
  have hmk := emk_ok hok
  have hml := emk_len ts
  obtain ⟨I, hI⟩ : ∃ I : List (Bool × Mk) → World → Prop, I = fun ms w' => WTo bw bw ow w3 (L1 ++ ms.flatMap (eB S D)) w' ∧ ByAt w' b1 b2 bw bc ∧ ByAt w' b3 b4 bw bd ∧ CAt w' bc S ∧ CAt w' bd D ∧ M.Toks w' ta ts := ⟨_, rfl⟩
  have hpre : ∀ {ms : List (Bool × Mk)} {x : Bool × Mk}, ms ++ [x] <+: emk ts → (L1 ++ ms.flatMap (eB S D)).length ≤ 900000000 := fun {ms x} hp => by
    have h1 : ∀ y ∈ ms, y.2.2.2 ≤ 13 := fun y hy => (hmk y (hp.subset (by simp [hy]))).2.2.2
    have h2 := eB_le hgS.fit hgD.fit h1
    have h3 := pre_len hp
    rw [List.length_append]
    omega
  refine (each_by I (.pointer (some ⟨b1, 0, none⟩)) (.pointer (some ⟨b2, 0, none⟩)) (.pointer (some ⟨b3, 0, none⟩)) (.pointer (some ⟨b4, 0, none⟩)) ta ct ts ?_ ?_ ?_ ?_ hok (by omega) w6 ?_).mono ?_
  · intro ms w1 w2 h k
    rw [hI] at h ⊢
    obtain ⟨i1, i2, i3, i4, i5, i6⟩ := h
    exact ⟨i1.below k, i2.below k, i3.below k, i4.below k, i5.below k, i6.stay k⟩
  · intro ms w1 h
    rw [hI] at h
    exact h.2.2.2.2.2
  · intro ms m w1 h hp
    rw [hI] at h
    obtain ⟨i1, i2, i3, i4, i5, i6⟩ := h
    have hm := hmk _ (pre_mem hp)
    have hs := (hh _ (pre_mem hp)).1 rfl
    refine (i1.mark hbw i2 i4 hgS hs (by have := hm.2.2.2; simp only at this; omega) (hpre hp)).mono ?_
    rintro e w2 ⟨rfl, k1, k2, k3, o, s, k4⟩
    refine ⟨rfl, ?_, k4.size, fun b cs hb => k4.heap hb (s.apart hb (by decide) (by decide))⟩
    rw [hI]
    refine ⟨?_, k2, i3.kept s k4, k3, i5.kept s k4, ?_⟩
    · rw [List.flatMap_append, ← List.append_assoc]
      simpa [eB] using k1
    · refine i6.below (k4.blw (by have := i1.size; omega) (Nat.le_refl _) (fun g e => (s.own e).1)) hTb
  · intro ms m w1 h hp
    rw [hI] at h
    obtain ⟨i1, i2, i3, i4, i5, i6⟩ := h
    have hm := hmk _ (pre_mem hp)
    have hs := (hh _ (pre_mem hp)).2 rfl
    refine (i1.mark hbw i3 i5 hgD hs (by have := hm.2.2.2; simp only at this; omega) (hpre hp)).mono ?_
    rintro e w2 ⟨rfl, k1, k2, k3, o, s, k4⟩
    refine ⟨rfl, ?_, k4.size, fun b cs hb => k4.heap hb (s.apart hb (by decide) (by decide))⟩
    rw [hI]
    refine ⟨?_, i2.kept s k4, k2, i4.kept s k4, k3, ?_⟩
    · rw [List.flatMap_append, ← List.append_assoc]
      simpa [eB] using k1
    · refine i6.below (k4.blw (by have := i1.size; omega) (Nat.le_refl _) (fun g e => (s.own e).1)) hTb
  · rw [hI]
    exact ⟨by simpa using hK, y1, y2, cS, cD, hT⟩
  · rintro e w' ⟨rfl, h⟩
    rw [hI] at h
    rw [← eB_dat]
    exact ⟨rfl, h.1⟩
set_option maxHeartbeats 4000000 in
theorem lay_b (bw : Nat) (ow : Option Nat) (w : World) (L0 : List Int) (hW : WS bw bw ow w L0) (hL : L0.length ≤ 400000000) (hT : Tab w) (h0 : 2 < bw) (ta sa da : Option Addr) (ct cs cd k : Nat) (sz : Int) (ts : List M.Tk) (S D : List Int) (last : Bool) (hb : BkOk k ts S D) (ha : BkAt bw w ta sa da ts S D) :
    Calls Tryz.prog 48 #[.agg (bA ta ts.length ct k sa S.length cs da D.length cd sz), .pointer (some ⟨bw, 0, none⟩), .bool last] w (LyRet bw ow w L0 k last S D ts) := by
  have hbw := hW.lt
  obtain ⟨W, hWW⟩ : ∃ W, W = w.alloc (.cells (bA ta ts.length ct k sa S.length cs da D.length cd sz) 99) := ⟨_, rfl⟩
  have blW : Below w.heap.size w W := by rw [hWW]; exact (Below.refl _ _).alloc (Nat.le_refl _) _
  have hWb : W.heap[w.heap.size]? = some (.cells (bA ta ts.length ct k sa S.length cs da D.length cd sz) 99 (0, 0)) := by rw [hWW]; exact heap_new w _
  have hW0 := hW.below blW
  have ha0 := ha.below (blW.mono (Nat.le_of_lt hbw))
  have hT0 : Tab W := hT.below blW (by omega)
  have HH := hide (layHead_c bw ow W L0 hW0 (by omega) hT0 h0 ta sa da ts.length ct cs cd k sz S D last hb.k12 ha0.s ha0.d)
  have d0 := cells_of hWb 0
  have d1 := cells_of hWb 1
  have d2 := cells_of hWb 2
  have d3 := cells_of hWb 3
  have d4 := cells_of hWb 4
  simp at d0 d1 d2 d3 d4
  have HE : Hid (w.alloc (.cells (bA ta ts.length ct k sa S.length cs da D.length cd sz) 99) = W) := hWW.symm
  have HWB := hide hWb
  have HW0 := hide hW0
  have HA0 := hide ha0
  have HKW : Hid (Kept (fun k => k = bw ∨ ow = some k) w W) := (Kept.of_below blW).mono (fun i hi e => by omega)
  have HB := hide hb
  have hbW : bw < W.heap.size := hW0.lt
  have hmf : ∀ (fn : Fn) (first cap : Array Value) (w : World), (Instr.makeFunc fn first cap).run Tryz.prog w = .ok (.func fn first cap) w := fun _ _ _ _ => rfl
  clear hWW blW hWb hW0 ha0 hT0 hW ha hT hb
  go_enter Tryz.func48, Tryz.ntmps48
  go_upto_region 1 with fail
  rw [HE.out]
  go_upto_region 2 with (go_at_call 65; refine HH.out.mono ?_; rintro e w1 ⟨rfl, H, hH, k1⟩; have HHD := hide hH; have HK1 := hide k1; clear k1 hH HH)
  have hwb1 := HK1.out.heap HWB.out (HW0.out.apart HWB.out (by decide) (by decide))
  have e2 := cells_of hwb1 2
  have e3 := cells_of hwb1 3
  have e0 := cells_of hwb1 0
  simp at e0 e2 e3
  have HB1 := hide hwb1
  have hbl1 : Below bw W w1 := HK1.out.blw (by omega) (Nat.le_refl _) (fun g e => (HW0.out.own e).1)
  have ha1 := HA0.out.below hbl1
  have hz1 : bw ≤ w1.heap.size := by have := hbl1.size; omega
  have HM1 := hide (make_ok bw sa cs S true w1 HB.out.cs ha1.s)
  have HA1 := hide ha1
  clear d0 d1 d2 d3 d4 hwb1 hbl1 ha1 HWB
  go_upto_region 3 with (go_at_call 66; refine HM1.out.mono ?_; rintro e w2 ⟨bc, gl2, gc2, vo2, N2, rfl, c2, b2⟩; have C2 := hide (show CAt w2 bc S from ⟨_, _, _, _, _, _, c2⟩); have B2 := hide b2; clear c2 b2 HM1)
  have hb2 := (B2.out.block _ (lt_of_block HB1.out)).trans HB1.out
  have f3 := cells_of hb2 3
  have f0 := cells_of hb2 0
  simp at f0 f3
  have HB2 := hide hb2
  have HM2 := hide (make_ok bw da cd D true w2 HB.out.cd ((HA1.out.below (B2.out.mono hz1)).d))
  clear e0 e2 e3 hb2
  go_upto_region 4 with (go_at_call 66; refine HM2.out.mono ?_; rintro e w3 ⟨bd, gl3, gc3, vo3, N3, rfl, c3, b3⟩; have C3 := hide (show CAt w3 bd D from ⟨_, _, _, _, _, _, c3⟩); have B3 := hide b3; clear c3 b3 HM2)
  have hb3 := (B3.out.block _ (lt_of_block HB2.out)).trans HB2.out
  have g0 := cells_of hb3 0
  simp at g0
  have HCS := hide (C2.out.below B3.out)
  have bl13 : Below w1.heap.size w1 w3 := B2.out.trans (B3.out.mono B2.out.size)
  have HK3 := hide (HK1.out.below bl13)
  have HA3 := hide (HA1.out.below (bl13.mono hz1))
  have hz3 : bw ≤ w3.heap.size := by have := bl13.size; omega
  clear f0 f3 hb3 bl13 C2 B2 B3 HB1 HB2 HK1 HA1
  have HBY1 := fun W => hide (byCode_p bw bc W)
  have HBY2 := fun W => hide (byCode_p bw bd W)
  have HEA : Hid (∀ b1 b2 b3 b4 w6, ByAt w6 b1 b2 bw bc → ByAt w6 b3 b4 bw bd → Below w3.heap.size w3 w6 → Calls Tryz.prog 67 #[.slice ta ts.length ct, .func (.func 88) #[] #[.pointer (some ⟨b1, 0, none⟩), .pointer (some ⟨b2, 0, none⟩)], .func (.func 88) #[] #[.pointer (some ⟨b3, 0, none⟩), .pointer (some ⟨b4, 0, none⟩)]] w6 fun e w' => e = .returned (.tuple #[]) ∧ LyRet bw ow w L0 k last S D ts (.returned (.tuple #[])) w') := fun b1 b2 b3 b4 w6 y1 y2 b6 => by
    have hlH := hd_len HHD.out
    refine (each_lay (HK3.out.below b6) (by rw [List.length_append, List.length_append, knd_length]; omega) (by omega) (check_good HB.out.cs) (check_good HB.out.cd) HB.out.ok HB.out.len HB.out.has y1 y2 (HCS.out.below b6) (C3.out.below b6) (HA3.out.below (b6.mono hz3)).t HA3.out.tb).mono ?_
    rintro e w' ⟨rfl, kk⟩
    refine ⟨rfl, rfl, H, HHD.out, ?_⟩
    unfold blB
    rw [List.append_assoc, List.append_assoc] at kk
    exact WTo.trans HKW.out (.inl rfl) kk
  have HC0 : Hid (∀ w6, Below w3.heap.size w3 w6 → w6.cell? ⟨w.heap.size, 0, none⟩ = some (.slice ta ts.length ct)) := fun w6 b => (b.cell (p := ⟨w.heap.size, 0, none⟩) (lt_of_cell g0)).trans g0
  generalize LyRet bw ow w L0 k last S D ts = Q at HEA ⊢
  have HD3 : Hid (Below w3.heap.size w3 w3.drew) := (Below.refl _ _).drew
  clear HK3 HA3 HCS C3 HHD HB HA0 HKW HW0 HE
  go_region_with (first
    | (go_at_call 68; refine (HBY1 _).out.mono ?_; rintro e w5 ⟨b1, b2, rfl, y5, l5⟩; have L5 := hide (HD3.out.trans (l5.mono HD3.out.size)); have Y5 := hide y5; have q5 := HC0.out w5 L5.out; clear y5 l5 HBY1)
    | (go_at_call 68; refine (HBY2 _).out.mono ?_; rintro e w6 ⟨b3, b4, rfl, y6, l6⟩; have L6 := hide (L5.out.trans (l6.mono L5.out.size)); have Y6 := hide y6; have Y56 := hide (Y5.out.below l6); have q6 := HC0.out w6 L6.out; clear y6 l6 HBY2)
    | (go_at_call 67; refine (HEA.out b1 b2 b3 b4 w6 Y56.out Y6.out L6.out).mono ?_; rintro e w7 ⟨rfl, hq⟩; have HQ := hide hq; clear hq HEA))
  all_goals (go_wp2_with fail)
  all_goals go_end0
  all_goals exact HQ.out
end Go.Proofs.YteknifnadbmfiaaGreatDoor
