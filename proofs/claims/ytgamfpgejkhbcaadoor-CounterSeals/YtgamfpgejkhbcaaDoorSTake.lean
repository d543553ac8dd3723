/- A block is taken in: contract of take. -/
import Derived.Test.YtgamfpgejkhbcaaDoorSSpread
namespace Go.Proofs.YtgamfpgejkhbcaaDoor.S
set_option maxRecDepth 100000
open Go Go.RowKit

/-- A hash's cells: the state, how many bytes there were, and those that wait. -/
def hA (s : St) (n : Nat) (q : List Nat) : Array Value :=
  (([.int .u32 (s.a : Int), .int .u32 (s.b : Int), .int .u32 (s.c : Int), .int .u32 (s.d : Int), .int .u32 (s.e : Int), .int .u64 (n : Int)] : List Value) ++ q.map fun (x : Nat) => Value.int .u8 (x : Int)).toArray
theorem hA_size (s : St) (n : Nat) (q : List Nat) : (hA s n q).size = 6 + q.length := by simp [hA]; omega
theorem hA_0 (s : St) (n : Nat) (q : List Nat) : (hA s n q)[0]? = some (.int .u32 (s.a : Int)) := rfl
theorem hA_1 (s : St) (n : Nat) (q : List Nat) : (hA s n q)[1]? = some (.int .u32 (s.b : Int)) := rfl
theorem hA_2 (s : St) (n : Nat) (q : List Nat) : (hA s n q)[2]? = some (.int .u32 (s.c : Int)) := rfl
theorem hA_3 (s : St) (n : Nat) (q : List Nat) : (hA s n q)[3]? = some (.int .u32 (s.d : Int)) := rfl
theorem hA_4 (s : St) (n : Nat) (q : List Nat) : (hA s n q)[4]? = some (.int .u32 (s.e : Int)) := rfl
theorem hA_5 (s : St) (n : Nat) (q : List Nat) : (hA s n q)[5]? = some (.int .u64 (n : Int)) := rfl
theorem hA_q (s : St) (n : Nat) (q : List Nat) {i : Nat} (h : i < q.length) : (hA s n q)[6 + i]? = some (.int .u8 (q.getD i 0 : Nat)) := by
  simp only [hA, List.getElem?_toArray]
  rw [List.getElem?_append_right (by simp)]
  simp [h, show 6 + i - 6 = i by omega]
theorem hA_one (s : St) (n : Nat) (q : List Nat) : (hA s n q).all (·.oneCell') = true := by simp [hA, Value.oneCell']
def HashIn (w : World) (b : Nat) (s : St) (n : Nat) (q : List Nat) : Prop := w.heap[b]? = some (.cells (hA s n q) 97 (0, 0))
theorem HashIn.bs {w : World} {b : Nat} {s : St} {n : Nat} {q : List Nat} (h : HashIn w b s n q) : Bs w b 6 q := fun i hi => by rw [cells_of h]; exact hA_q s n q hi
theorem HashIn.kept {M : Nat → Prop} {w w' : World} {b : Nat} {s : St} {n : Nat} {q : List Nat} (h : HashIn w b s n q) (k : Kept M w w') (hn : ¬ M b) : HashIn w' b s n q := k.heap h hn
theorem HashIn.below {B : Nat} {w w' : World} {b : Nat} {s : St} {n : Nat} {q : List Nat} (h : HashIn w b s n q) (k : Below B w w') (hb : b < B) : HashIn w' b s n q := (k.block b hb).trans h
theorem HashIn.drewN {w : World} {b : Nat} {s : St} {n : Nat} {q : List Nat} (h : HashIn w b s n q) (m : Nat) : HashIn (w.drewN m) b s n q := h
theorem HashIn.set0 {w : World} {b : Nat} {s : St} {n : Nat} {q : List Nat} (h : HashIn w b s n q) (x : Nat) : HashIn (w.setCell ⟨b, 0, none⟩ (.int .u32 (x : Int))) b ⟨x, s.b, s.c, s.d, s.e⟩ n q := set_of h 0 _
theorem HashIn.set1 {w : World} {b : Nat} {s : St} {n : Nat} {q : List Nat} (h : HashIn w b s n q) (x : Nat) : HashIn (w.setCell ⟨b, 1, none⟩ (.int .u32 (x : Int))) b ⟨s.a, x, s.c, s.d, s.e⟩ n q := set_of h 1 _
theorem HashIn.set2 {w : World} {b : Nat} {s : St} {n : Nat} {q : List Nat} (h : HashIn w b s n q) (x : Nat) : HashIn (w.setCell ⟨b, 2, none⟩ (.int .u32 (x : Int))) b ⟨s.a, s.b, x, s.d, s.e⟩ n q := set_of h 2 _
theorem HashIn.set3 {w : World} {b : Nat} {s : St} {n : Nat} {q : List Nat} (h : HashIn w b s n q) (x : Nat) : HashIn (w.setCell ⟨b, 3, none⟩ (.int .u32 (x : Int))) b ⟨s.a, s.b, s.c, x, s.e⟩ n q := set_of h 3 _
theorem HashIn.set4 {w : World} {b : Nat} {s : St} {n : Nat} {q : List Nat} (h : HashIn w b s n q) (x : Nat) : HashIn (w.setCell ⟨b, 4, none⟩ (.int .u32 (x : Int))) b ⟨s.a, s.b, s.c, s.d, x⟩ n q := set_of h 4 _
theorem HashIn.set5 {w : World} {b : Nat} {s : St} {n : Nat} {q : List Nat} (h : HashIn w b s n q) (x : Nat) : HashIn (w.setCell ⟨b, 5, none⟩ (.int .u64 (x : Int))) b s x q := set_of h 5 _

theorem add32 (a b : Nat) : ((a : Int) + (b : Int)) % 4294967296 = (((a + b) % 4294967296 : Nat) : Int) := by omega
set_option maxHeartbeats 4000000 in
theorem take_c (bh : Nat) (s : St) (n : Nat) (q : List Nat) (f : Nat → Nat) (w : World) (hh : HashIn w bh s n q) (hs : s.Ok) (hq : By q) (hl : q.length = 64) (hf : Wds q f) :
    Calls Tryd.prog 65 #[.pointer (some ⟨bh, 0, none⟩), .pointer (some ⟨bh, 6, none⟩)] w fun e w' => e = .returned (.tuple #[]) ∧ HashIn w' bh (add5 s (rnds f 80 s)) n q ∧ Kept (fun k => k = bh) w w' := by
  have hbw := lt_of_block hh
  have HSP := hide (spread_c bh 6 q f w hh.bs hq hl hbw hf)
  have HH := hide hh
  have HS := hide hs
  have HF := hide hf
  have HI := hide (info80 f 80)
  have hz : ∀ w, (zeroValue 101).run Tryd.prog w = .ok (.agg (fA .u32 80 f 0)) w := (zero80 f).1
  clear hh hs hf hq hl
  go_enter Tryd.func65, Tryd.ntmps65
  go_upto_region 1 with (first
    | (go_at_call 68; refine HSP.out.mono ?_; rintro e w1 ⟨rfl, k1⟩; have B1 := hide k1; clear k1)
    | (refine wpList_store_row rfl 101 (.tmp 4) (.tmp 15) rfl w1.heap.size (fA .u32 80 f 80) (by rfl) (by rfl) (fA .u32 80 f 0) 101 (heap_new _ _) HI.out (by rw [fA_size, fA_size]) (fA_one _ _ _ _) ?_; intro w2 G2 K2))
  have hsz1 := B1.out.size
  have BW := hide (((B1.out.alloc hsz1 (.cells (fA .u32 80 f 0) 101)).trans (K2.out.below (by simp; omega) (fun i hi e => by omega))) : Below w.heap.size w w2)
  have hg : bh < w1.heap.size := by omega
  obtain ⟨g, hgd⟩ : ∃ g, g = w1.heap.size := ⟨_, rfl⟩
  rw [← hgd] at G2 hg ⊢
  clear hsz1 B1 K2 HSP hgd
  have HH2 := hide (HH.out.below BW.out hbw)
  have c0 := (cells_of HH2.out 0).trans (hA_0 s n q)
  have c1 := (cells_of HH2.out 1).trans (hA_1 s n q)
  have c2 := (cells_of HH2.out 2).trans (hA_2 s n q)
  have c3 := (cells_of HH2.out 3).trans (hA_3 s n q)
  have c4 := (cells_of HH2.out 4).trans (hA_4 s n q)
  go_quiet (fail)
  go_wp2_with fail
  have BW2 := hide (⟨BW.out.os, BW.out.tape, BW.out.output, BW.out.size, BW.out.block⟩ : Below w.heap.size w (w2.drewN nq))
  have G3 := hide (show (w2.drewN nq).heap[g]? = some (.cells (fA .u32 80 f 80) 101 (0, 0)) from G2.out)
  clear c0 c1 c2 c3 c4 HH2 BW G2 HI hz
  generalize w2.drewN nq = w3 at BW2 G3 ⊢
  go_loopg [5, 6, 7, 8, 9, 36] 80 (fun gk v5 v6 v7 v8 v9 v36 wx => ∃ t : Nat, t + gk = 80 ∧ v36 = .int .i64 t ∧ v5 = .int .u32 ((rnds f t s).a : Int) ∧ v6 = .int .u32 ((rnds f t s).b : Int) ∧ v7 = .int .u32 ((rnds f t s).c : Int) ∧ v8 = .int .u32 ((rnds f t s).d : Int) ∧ v9 = .int .u32 ((rnds f t s).e : Int) ∧ Hid (wx.heap[g]? = some (.cells (fA .u32 80 f 80) 101 (0, 0))) ∧ Hid (Below w.heap.size w wx))
  case atStart => exact ⟨0, by omega, rfl, rfl, rfl, rfl, rfl, rfl, G3, BW2⟩
  case round =>
    obtain ⟨t, htg, rfl, rfl, rfl, rfl, rfl, rfl, GX, BX⟩ := hrel
    clear BW2 G3
    have HR := hide (rnds_ok f t HS.out)
    obtain ⟨r, hr⟩ : ∃ r, r = rnds f t s := ⟨_, rfl⟩
    have HRE := hide hr
    rw [← hr] at HR ⊢
    clear hr
    obtain ⟨ra, rb, rc, rd, re⟩ := r
    simp only at *
    have hra := HR.out.a
    have hrb := HR.out.b
    have hrc := HR.out.c
    have hrd := HR.out.d
    have hre := HR.out.e
    simp only at hra hrb hrc hrd hre
    cases gk with
    | zero =>
      obtain rfl : t = 80 := by omega
      have HE := hide (show add5 s (rnds f 80 s) = ⟨(s.a + ra) % 4294967296, (s.b + rb) % 4294967296, (s.c + rc) % 4294967296, (s.d + rd) % 4294967296, (s.e + re) % 4294967296⟩ by rw [← HRE.out]; rfl)
      have H0 := hide (HH.out.below BX.out hbw)
      have K0 := hide (Kept.mono (M' := fun k => k = bh) (Kept.of_below BX.out) (fun i hi h => by omega))
      clear HRE GX BX HH HF HS HR
      obtain ⟨sa, sb, sc, sd, se⟩ := s
      simp only at *
      have hge : ¬ ((80 : Nat) : Int) < 80 := by omega
      have c0 := (cells_of H0.out 0).trans (hA_0 _ n q)
      have f0 := free_of H0.out 0
      simp only at c0
      go_upto_region 9 with fail
      go_region
      go_upto_region 10 with fail
      rw [add32 sa ra]
      have H1 : Hid (HashIn (wr.setCell ⟨bh, 0, none⟩ (.int .u32 (((sa + ra) % 4294967296 : Nat) : Int))).drew bh ⟨(sa + ra) % 4294967296, sb, sc, sd, se⟩ n q) := (H0.out.set0 ((sa + ra) % 4294967296)).drewN 1
      have K1 : Hid (Kept (fun k => k = bh) w (wr.setCell ⟨bh, 0, none⟩ (.int .u32 (((sa + ra) % 4294967296 : Nat) : Int))).drew) := (K0.out.setCell (p := ⟨bh, 0, none⟩) (fun _ => rfl) _).drewN 1
      generalize (wr.setCell ⟨bh, 0, none⟩ (.int .u32 (((sa + ra) % 4294967296 : Nat) : Int))).drew = w1 at H1 K1 ⊢
      clear c0 f0 H0 K0
      have c1 := (cells_of H1.out 1).trans (hA_1 _ n q)
      have f1 := free_of H1.out 1
      simp only at c1
      go_region
      go_upto_region 11 with fail
      rw [add32 sb rb]
      have H2 : Hid (HashIn (w1.setCell ⟨bh, 1, none⟩ (.int .u32 (((sb + rb) % 4294967296 : Nat) : Int))).drew bh ⟨(sa + ra) % 4294967296, (sb + rb) % 4294967296, sc, sd, se⟩ n q) := (H1.out.set1 ((sb + rb) % 4294967296)).drewN 1
      have K2 : Hid (Kept (fun k => k = bh) w (w1.setCell ⟨bh, 1, none⟩ (.int .u32 (((sb + rb) % 4294967296 : Nat) : Int))).drew) := (K1.out.setCell (p := ⟨bh, 1, none⟩) (fun _ => rfl) _).drewN 1
      generalize (w1.setCell ⟨bh, 1, none⟩ (.int .u32 (((sb + rb) % 4294967296 : Nat) : Int))).drew = w2 at H2 K2 ⊢
      clear c1 f1 H1 K1
      have c2 := (cells_of H2.out 2).trans (hA_2 _ n q)
      have f2 := free_of H2.out 2
      simp only at c2
      go_region
      go_upto_region 12 with fail
      rw [add32 sc rc]
      have H3 : Hid (HashIn (w2.setCell ⟨bh, 2, none⟩ (.int .u32 (((sc + rc) % 4294967296 : Nat) : Int))).drew bh ⟨(sa + ra) % 4294967296, (sb + rb) % 4294967296, (sc + rc) % 4294967296, sd, se⟩ n q) := (H2.out.set2 ((sc + rc) % 4294967296)).drewN 1
      have K3 : Hid (Kept (fun k => k = bh) w (w2.setCell ⟨bh, 2, none⟩ (.int .u32 (((sc + rc) % 4294967296 : Nat) : Int))).drew) := (K2.out.setCell (p := ⟨bh, 2, none⟩) (fun _ => rfl) _).drewN 1
      generalize (w2.setCell ⟨bh, 2, none⟩ (.int .u32 (((sc + rc) % 4294967296 : Nat) : Int))).drew = w3 at H3 K3 ⊢
      clear c2 f2 H2 K2
      have c3 := (cells_of H3.out 3).trans (hA_3 _ n q)
      have f3 := free_of H3.out 3
      simp only at c3
      go_region
      go_upto_region 13 with fail
      rw [add32 sd rd]
      have H4 : Hid (HashIn (w3.setCell ⟨bh, 3, none⟩ (.int .u32 (((sd + rd) % 4294967296 : Nat) : Int))).drew bh ⟨(sa + ra) % 4294967296, (sb + rb) % 4294967296, (sc + rc) % 4294967296, (sd + rd) % 4294967296, se⟩ n q) := (H3.out.set3 ((sd + rd) % 4294967296)).drewN 1
      have K4 : Hid (Kept (fun k => k = bh) w (w3.setCell ⟨bh, 3, none⟩ (.int .u32 (((sd + rd) % 4294967296 : Nat) : Int))).drew) := (K3.out.setCell (p := ⟨bh, 3, none⟩) (fun _ => rfl) _).drewN 1
      generalize (w3.setCell ⟨bh, 3, none⟩ (.int .u32 (((sd + rd) % 4294967296 : Nat) : Int))).drew = w4 at H4 K4 ⊢
      clear c3 f3 H3 K3
      have c4 := (cells_of H4.out 4).trans (hA_4 _ n q)
      have f4 := free_of H4.out 4
      simp only at c4
      go_region
      go_wp2_with fail
      rw [add32 se re]
      have H5 : Hid (HashIn (w4.setCell ⟨bh, 4, none⟩ (.int .u32 (((se + re) % 4294967296 : Nat) : Int))).drew bh ⟨(sa + ra) % 4294967296, (sb + rb) % 4294967296, (sc + rc) % 4294967296, (sd + rd) % 4294967296, (se + re) % 4294967296⟩ n q) := (H4.out.set4 ((se + re) % 4294967296)).drewN 1
      have K5 : Hid (Kept (fun k => k = bh) w (w4.setCell ⟨bh, 4, none⟩ (.int .u32 (((se + re) % 4294967296 : Nat) : Int))).drew) := (K4.out.setCell (p := ⟨bh, 4, none⟩) (fun _ => rfl) _).drewN 1
      generalize (w4.setCell ⟨bh, 4, none⟩ (.int .u32 (((se + re) % 4294967296 : Nat) : Int))).drew = w5 at H5 K5 ⊢
      clear c4 f4 H4 K4
      go_end0
      exact ⟨rfl, by rw [HE.out]; exact H5.out, K5.out⟩
    | succ g1 =>
      have hlt : (t : Int) < 80 := by omega
      have HM := fun W => hide (mix_c t rb rc rd hrb hrc hrd W)
      have HR5 := fun W => hide (rot5_c ra hra W)
      have HR30 := fun W => hide (rot30_c rb hrb W)
      have ct := (cells_of GX.out t).trans (fA_at .u32 f (t := 80) (show t < 80 by omega) (by omega))
      have HN := hide (show rnds f (t + 1) s = ⟨(rot 5 ra + fF t rb rc rd + re + kF t + f t) % 4294967296, ra, rot 30 rb, rc, rd⟩ by rw [rnds, ← HRE.out]; rfl)
      have hfl := fF_lt t hrb hrc hrd
      have hkl := kF_lt t
      have h5l := rot_lt 5 hra
      have hwl := HF.out.lt t
      generalize fF t rb rc rd = Ff at *
      generalize kF t = Kk at *
      generalize rot 5 ra = R5 at *
      generalize rot 30 rb = R30 at *
      generalize f t = Fw at *
      go_upto_region 6 with (go_at_call 69; refine (HM _).out.mono ?_; rintro e w' ⟨rfl, rfl⟩)
      go_quiet ((go_at_call 70; exact Calls.quiet_of_same (HR5 _).out))
      go_wp2_with (go_at_call 70; refine (HR30 _).out.mono ?_; rintro e w' ⟨rfl, rfl⟩)
      go_roundg g1
      case measure => omega
      case rel => exact ⟨t + 1, by omega, by go_num, by rw [HN.out]; rfl, by rw [HN.out], by rw [HN.out], by rw [HN.out], by rw [HN.out], GX, (⟨BX.out.os, BX.out.tape, BX.out.output, BX.out.size, BX.out.block⟩ : Below w.heap.size w (w'.drewN nq))⟩
end Go.Proofs.YtgamfpgejkhbcaaDoor.S
