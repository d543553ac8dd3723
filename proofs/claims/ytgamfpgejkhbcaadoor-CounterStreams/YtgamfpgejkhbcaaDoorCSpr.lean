/- The program's spread: contract. -/
import Derived.Test.YtgamfpgejkhbcaaDoorCEnc
import Derived.Deep.CutBlock
namespace Go.Proofs.YtgamfpgejkhbcaaDoor.K
set_option maxRecDepth 100000
open Go Go.RowKit

/-- Byte j of all words that a key is spread to. -/
def kwo (key : List Nat) (n m : Nat) : List Nat := nxt key n (kws key n m) m
def kby (key : List Nat) (n j : Nat) : Nat := (kwo key n (j / 4)).getD (j % 4) 0
theorem kwo_wd {key : List Nat} (hk : By key) {n : Nat} (hn : 1 ≤ n) (m : Nat) : Wd (kwo key n m) := nxt_wd hk hn m
theorem kwo_low (key : List Nat) {n m : Nat} (h : m < n) : kwo key n m = kwd key m := by rw [kwo, nxt, if_pos h]
theorem kwo_high (key : List Nat) {n m : Nat} (hn : 1 ≤ n) (h : n ≤ m) : kwo key n m = List.zipWith (· ^^^ ·) (trn n m (kwo key n (m - 1))) (kwo key n (m - n)) := by
  rw [kwo, nxt, if_neg (by omega), kws_at key n m (show m - 1 < m by omega), kws_at key n m (show m - n < m by omega)]
  rfl
theorem kby_at (key : List Nat) (n m : Nat) {b : Nat} (hb : b < 4) : kby key n (4 * m + b) = (kwo key n m).getD b 0 := by
  unfold kby
  rw [show (4 * m + b) / 4 = m by omega, show (4 * m + b) % 4 = b by omega]
theorem kby_lt {key : List Nat} (hk : By key) {n : Nat} (hn : 1 ≤ n) (j : Nat) : kby key n j < 256 := (kwo_wd hk hn _).2.getD _
theorem zip_at {x y : List Nat} (hx : x.length = 4) (hy : y.length = 4) {b : Nat} (hb : b < 4) : (List.zipWith (· ^^^ ·) x y).getD b 0 = x.getD b 0 ^^^ y.getD b 0 := by
  simp [List.getD, hx, hy, hb]
theorem kby_high {key : List Nat} (hk : By key) {n i : Nat} (hn : 1 ≤ n) (h : n ≤ i) {b : Nat} (hb : b < 4) : kby key n (4 * i + b) = (trn n i (kwo key n (i - 1))).getD b 0 ^^^ kby key n (4 * (i - n) + b) := by
  rw [kby_at _ _ _ hb, kby_at _ _ _ hb, kwo_high key hn h, zip_at (trn_wd (kwo_wd hk hn _)).1 (kwo_wd hk hn _).1 hb]
/-- All words as cells, the first t bytes of them laid. -/
def sA (g : Nat → Nat) (t : Nat) : Array Value := fA .u8 240 g t
theorem sA_size (g : Nat → Nat) (t : Nat) : (sA g t).size = 240 := fA_size _ _ _ _
theorem zero60 (g : Nat → Nat) : (∀ w, (zeroValue 61).run Tryd.prog w = .ok (.agg (sA g 0)) w) ∧ (Tryd.prog.info? 61).map (·.size) = some 240 := by
  rw [sA, fA_zero]
  exact zero_of_info (by kernel_rfl)
theorem info60 (g : Nat → Nat) (t : Nat) : (Tryd.prog.info? 61).map (·.size) = some (sA g t).size := by rw [sA_size]; exact (zero60 g).2
theorem sA_set (g : Nat → Nat) {t : Nat} (h : t < 240) : (sA g t).setIfInBounds t (.int .u8 (g t : Nat)) = sA g (t + 1) := fA_set .u8 g h
/-- A word as cells. -/
def wL (x : List Nat) : Array Value := wA (x.getD 0 0) (x.getD 1 0) (x.getD 2 0) (x.getD 3 0)
theorem wL_at (x : List Nat) {b : Nat} (hb : b < 4) : (wL x)[b]? = some (.int .u8 (x.getD b 0 : Nat)) := by
  rcases (show b = 0 ∨ b = 1 ∨ b = 2 ∨ b = 3 by omega) with rfl | rfl | rfl | rfl <;> rfl
/-- What stands in memory meanwhile. -/
structure SP (w : World) (g : Nat → Nat) (t : Nat) (wx : World) : Prop where
  res : wx.heap[w.heap.size]? = some (.cells (sA g 0) 61 (0, 0))
  arr : wx.heap[w.heap.size + 1]? = some (.cells (sA g t) 61 (0, 0))
  bel : Below w.heap.size w wx
theorem SP.stay {w : World} {g : Nat → Nat} {t : Nat} {wx wy : World} (h : SP w g t wx) (hs : Below wx.heap.size wx wy) : SP w g t wy :=
  ⟨(hs.block _ (lt_of_block h.res)).trans h.res, (hs.block _ (lt_of_block h.arr)).trans h.arr, h.bel.trans (hs.mono h.bel.size)⟩
theorem SP.set {w : World} {g : Nat → Nat} {t : Nat} {wx : World} (h : SP w g t wx) (ht : t < 240) : SP w g (t + 1) (wx.setCell ⟨w.heap.size + 1, t, none⟩ (.int .u8 (g t : Nat))) :=
  ⟨(set_other (by omega)).trans h.res, by rw [set_of h.arr, sA_set _ ht], h.bel.setCell (p := ⟨w.heap.size + 1, t, none⟩) (by show w.heap.size ≤ w.heap.size + 1; omega) _⟩
theorem SP.lay4 {w : World} {g : Nat → Nat} {t : Nat} {wx : World} (h : SP w g t wx) (ht : t + 3 < 240) : SP w g (t + 4) (wx.setCells (w.heap.size + 1) t (four g t)) := by
  have := (((h.set (by omega)).set (by omega)).set (by omega)).set (show t + 1 + 1 + 1 < 240 by omega)
  exact this
theorem SP.kept {w : World} {g : Nat → Nat} {t : Nat} {wx wy : World} {M : Nat → Prop} (h : SP w g t wx) (k : Kept M wx wy) (h0 : ∀ i, i ≤ w.heap.size + 1 → ¬ M i) : SP w g t wy :=
  ⟨k.heap h.res (h0 _ (by omega)), k.heap h.arr (h0 _ (by omega)), h.bel.trans (k.below h.bel.size (fun i hi => h0 i (by omega)))⟩
theorem SP.range {w : World} {g : Nat → Nat} {t : Nat} {wx : World} (h : SP w g t wx) {o : Nat} (ho : o + 4 ≤ t) (ht : t ≤ 240) : wx.rangeAt (w.heap.size + 1) o (four g o) := four_range fun i hi => by
  rw [cells_of h.arr (o + i)]
  exact fA_at .u8 g (by omega) (by omega)
theorem SP.there {w : World} {g : Nat → Nat} {t : Nat} {wx : World} (h : SP w g t wx) {o : Nat} (ho : o + 4 ≤ 240) : wx.there (w.heap.size + 1) o 4 := fun j hj => by
  refine ⟨?_, free_of h.arr _⟩
  rw [cells_of h.arr (o + j), sA, fA_get .u8 g (by omega)]
  rfl
/-- .. while a word is made: it lies at bt. -/
structure TS (w : World) (g : Nat → Nat) (t bt : Nat) (x : List Nat) (wx : World) : Prop where
  sp : SP w g t wx
  wd : wx.heap[bt]? = some (.cells (wL x) 60 (0, 0))
theorem TS.stay {w : World} {g : Nat → Nat} {t bt : Nat} {x : List Nat} {wx wy : World} (h : TS w g t bt x wx) (hs : Below wx.heap.size wx wy) : TS w g t bt x wy :=
  ⟨h.sp.stay hs, (hs.block _ (lt_of_block h.wd)).trans h.wd⟩
theorem TS.put {w : World} {g : Nat → Nat} {t bt : Nat} {x y : List Nat} {wx wy : World} (h : TS w g t bt x wx) (hb : w.heap.size + 1 < bt) (k : Kept (fun k => k = bt) wx wy) (hy : wy.heap[bt]? = some (.cells (wL y) 60 (0, 0))) : TS w g t bt y wy :=
  ⟨h.sp.kept k (fun i hi e => by omega), hy⟩
theorem TS.set {w : World} {g : Nat → Nat} {t bt : Nat} {x : List Nat} {wx : World} (h : TS w g t bt x wx) (hb : w.heap.size + 1 < bt) (ht : t < 240) : TS w g (t + 1) bt x (wx.setCell ⟨w.heap.size + 1, t, none⟩ (.int .u8 (g t : Nat))) :=
  ⟨h.sp.set ht, (set_other (by omega)).trans h.wd⟩
theorem TS.set0 {w : World} {g : Nat → Nat} {t bt : Nat} {x y : List Nat} {wx : World} {v : Value} (h : TS w g t bt x wx) (hb : w.heap.size + 1 < bt) (hv : (wL x).setIfInBounds 0 v = wL y) : TS w g t bt y (wx.setCell ⟨bt, 0, none⟩ v) :=
  ⟨⟨(set_other (by omega)).trans h.sp.res, (set_other (by omega)).trans h.sp.arr, h.sp.bel.setCell (p := ⟨bt, 0, none⟩) (by show w.heap.size ≤ bt; omega) _⟩, by rw [set_of h.wd, hv]⟩
set_option maxHeartbeats 8000000 in
theorem spread_c (a : Addr) (cap n : Nat) (key : List Nat) (w : World) (hn : n = 4 ∨ n = 6 ∨ n = 8) (hkl : key.length = 4 * n) (hk : By key) (hkt : TextAt w (some a) key) (hcap : 4 * n ≤ cap) (hT : Tab w) :
    Calls Tryd.prog 32 #[.slice (some a) (4 * n : Nat) cap, .int .i64 (n : Int)] w fun e w' => e = .returned (.agg (sA (kby key n) (16 * (n + 7)))) ∧ Below w.heap.size w w' := by
  have hz : ∀ w, (zeroValue 61).run Tryd.prog w = .ok (.agg (sA (kby key n) 0)) w := (zero60 _).1
  have hz4 : ∀ w, (zeroValue 60).run Tryd.prog w = .ok (.agg (wA 0 0 0 0)) w := zero4.1
  have HN := hide hn
  have HKL := hide hkl
  have HKB := hide hk
  have HT := hide hT
  obtain ⟨kb, ko, rfl, hkw, hks⟩ : ∃ b off, a = ⟨b, off, none⟩ ∧ b < w.heap.size ∧ Bs w b off key := by
    rcases hkt with h | ⟨b, off, e, h1, h2⟩
    · omega
    · exact ⟨b, off, Option.some.inj e, h1, h2⟩
  have HKS := hide hks
  have n1 : 4 ≤ n ∧ n ≤ 8 := by omega
  obtain ⟨q0, q1⟩ := heap2w w (.cells (sA (kby key n) 0) 61) (.cells (sA (kby key n) 0) 61)
  have S0 : Hid (SP w (kby key n) (4 * 0) ((w.alloc (.cells (sA (kby key n) 0) 61)).alloc (.cells (sA (kby key n) 0) 61))) := ⟨q0, q1, ((Below.refl _ w).alloc (Nat.le_refl _) _).alloc (by simp) _⟩
  have HLO := hide (show ∀ i, i < n → ∀ b, b < 4 → key.getD (4 * i + b) 0 = kby key n (4 * i + b) from fun i hi b hb => by
    rw [kby_at _ _ _ hb, kwo_low key hi]
    rcases (show b = 0 ∨ b = 1 ∨ b = 2 ∨ b = 3 by omega) with rfl | rfl | rfl | rfl <;> rfl)
  clear q0 q1 hks hkt hT hk hkl hn
  obtain ⟨g, hg⟩ : ∃ g, g = kby key n := ⟨_, rfl⟩
  have HG := hide hg
  rw [← hg] at S0 HLO hz
  clear hg
  go_enter Tryd.func32, Tryd.ntmps32
  go_wp2_with fail
  generalize (w.alloc _).alloc _ = wz at S0 ⊢
  go_loopg [12] n (fun gk u12 wx => ∃ i : Nat, i + gk = n ∧ u12 = .int .i64 i ∧ Hid (SP w g (4 * i) wx))
  case atStart => exact ⟨0, by omega, rfl, S0⟩
  case round =>
    obtain ⟨i, hig, rfl, SX⟩ := hrel
    clear S0
    cases gk with
    | zero =>
      obtain rfl : n = i := by omega
      have hge : ¬ (n : Int) < (n : Int) := by omega
      go_wp2_with fail
      go_loopg [7, 8, 9] (4 * (n + 7)) (fun gk u7 u8 u9 wx => ∃ i p : Nat, i + gk ≤ 4 * (n + 7) + n ∧ 4 * (n + 7) ≤ i + gk ∧ n ≤ i ∧ i ≤ 4 * (n + 7) ∧ n * p < i ∧ i ≤ n * (p + 1) ∧ u7 = .int .u8 (rcn p : Nat) ∧ u8 = .int .i64 i ∧ Hid (SP w g (4 * i) wx))
      case atStart => exact ⟨n, 0, by omega, by omega, by omega, by omega, by omega, by omega, rfl, rfl, SX⟩
      case round =>
        obtain ⟨i, p, hg1, hg2, hni, hi4, hp1, hp2, rfl, rfl, SX⟩ := hrel
        by_cases hie : i = 4 * (n + 7)
        · have hge2 : ¬ (i : Int) < 4 * ((n : Int) + 7) := by omega
          have X0 := hide SX.out.res
          have X1 := hide SX.out.arr
          have XB := hide SX.out.bel
          rw [show 4 * i = 16 * (n + 7) by omega] at X1
          rw [HG.out] at X0 X1
          have HI := hide (info60 (kby key n) (16 * (n + 7)))
          have HS := hide (show (sA (kby key n) 0).size = (sA (kby key n) (16 * (n + 7))).size by rw [sA_size, sA_size])
          have HO := hide (show (sA (kby key n) (16 * (n + 7))).all (·.oneCell') = true from fA_one _ _ _ _)
          obtain ⟨oc, hoc⟩ : ∃ oc, oc = sA (kby key n) (16 * (n + 7)) := ⟨_, rfl⟩
          have HOC := hide hoc
          rw [← hoc] at X1 HI HS HO
          clear hoc SX hie hp1 hp2 hg1 hg2 hi4 hni HLO HKS HKL
          generalize rcn p = P
          go_wp2_with (first
            | (refine wpList_load_row rfl 61 (.tmp 5) rfl (w.heap.size + 1) (by rfl) oc 61 (0, 0) X1.out _ Tryd.underlying61 rfl HI.out ?_)
            | (refine wpList_store_row rfl 61 (.tmp 4) (.tmp 93) rfl w.heap.size oc (by rfl) (by rfl) (sA (kby key n) 0) 61 X0.out HI.out HS.out HO.out ?_; intro w6 G6 K6))
          have hld : (loadVar 61 ⟨w.heap.size, 0, none⟩).run Tryd.prog w6 = .ok (.agg oc) w6 :=
            run_loadVar_row _ _ 61 61 oc (0, 0) _ G6.out Tryd.underlying61 rfl HI.out
          refine bodyPost_ret (v := .agg oc) ?_ rfl ⟨by rw [HOC.out], XB.out.trans (K6.out.below XB.out.size (fun i hi e => by omega))⟩
          simp [results, asAddr, hld]
        · have hlt2 : (i : Int) < 4 * ((n : Int) + 7) := by omega
          obtain ⟨W0, hW0⟩ : ∃ W0, W0 = wr := ⟨_, rfl⟩
          rw [← hW0] at SX ⊢
          clear hW0
          obtain ⟨x, hx⟩ : ∃ x, x = kwo key n (i - 1) := ⟨_, rfl⟩
          have HXW : Hid (Wd x) := by rw [hx]; exact kwo_wd HKB.out (by omega) _
          have HKH := hide (show ∀ b, b < 4 → g (4 * i + b) = (trn n i x).getD b 0 ^^^ g (4 * (i - n) + b) from fun b hb => by rw [HG.out, hx]; exact kby_high HKB.out (by omega) hni hb)
          obtain ⟨i1, hi1⟩ : ∃ i1, i = i1 + 1 := ⟨i - 1, by omega⟩
          have s1 : (i : Int) - 1 = (i1 : Int) := by omega
          have s0 : (0 : Int) ≤ (i1 : Int) := by omega
          have s2 : (i1 : Int) < 60 := by omega
          have HF4 := hide (show (four g (i1 * 4)).toArray = wL x by
            have e : ∀ b, b < 4 → g (i1 * 4 + b) = x.getD b 0 := fun b hb => by rw [HG.out, hx, show i - 1 = i1 by omega, Nat.mul_comm, kby_at _ _ _ hb]
            rw [four_arr, show g (i1 * 4) = _ from e 0 (by omega), e 1 (by omega), e 2 (by omega), e 3 (by omega)]
            rfl)
          have RG := hide (show W0.rangeAt (w.heap.size + 1) (i1 * 4) (four g (i1 * 4)) from SX.out.range (by omega) (by omega))
          have HI4 := hide (show (Tryd.prog.info? 60).map (·.size) = some (four g (i1 * 4)).length from zero4.2)
          have HJ4 := hide (show (Tryd.prog.info? 60).map (·.size) = some (wL x).size from zero4.2)
          have HO4 := hide (show (wL x).all (·.oneCell') = true from wA_one _ _ _ _)
          have HS4 := hide (show (wA 0 0 0 0).size = (wL x).size from rfl)
          generalize four g (i1 * 4) = F4 at RG HI4 HF4
          have HP := hide (And.intro hp1 hp2)
          have HI1 := hide hi1
          have HSZ := hide (show w.heap.size + 1 < W0.heap.size from lt_of_block SX.out.arr)
          clear hx hi1 hp1 hp2
          go_upto_block 4 with (first
            | (refine wpList_load_mid rfl 60 (.tmp 37) rfl (w.heap.size + 1) (i1 * 4) (by rfl) F4 _ RG.out Tryd.underlying60 rfl HI4.out ?_; rw [HF4.out])
            | (refine wpList_store_row rfl 60 (.tmp 9) (.tmp 38) rfl W0.heap.size (wL x) (by rfl) (by rfl) (wA 0 0 0 0) 60 (heap_new W0 _) HJ4.out HS4.out HO4.out ?_; intro w2 X2 K2))
          have TX : Hid (TS w g (4 * i) W0.heap.size x w2) := ⟨(SX.out.stay ((Below.refl _ W0).alloc (Nat.le_refl _) (.cells (wA 0 0 0 0) 60))).kept K2.out (fun k hk e => by have := HSZ.out; omega), X2.out⟩
          obtain ⟨bt, hbt⟩ : ∃ bt, bt = W0.heap.size := ⟨_, rfl⟩
          rw [← hbt] at TX HSZ ⊢
          clear hbt X2 K2 SX RG HI4 HF4
          have rm : (i : Int) % (n : Int) = ((i % n : Nat) : Int) := by push_cast; rfl
          have hn0 : ¬ (n : Int) = 0 := by omega
          simp only [Act.put]
          go_cut [7] (fun v7 wx => ∃ p' : Nat, v7 = .int .u8 (rcn p' : Nat) ∧ n * p' < i + 1 ∧ i + 1 ≤ n * (p' + 1) ∧ Hid (TS w g (4 * i) bt (trn n i x) wx))
          case first =>
            have l0 := HXW.out.2.getD 0
            have l1 := HXW.out.2.getD 1
            have l2 := HXW.out.2.getD 2
            have l3 := HXW.out.2.getD 3
            by_cases hm0 : i % n = 0
            · have rm0 : (i : Int) % (n : Int) = 0 := by rw [rm, hm0]; rfl
              have c0 := (cells_of TX.out.wd 0).trans (wL_at x (by omega))
              have c1 := (cells_of TX.out.wd 1).trans (wL_at x (by omega))
              have c2 := (cells_of TX.out.wd 2).trans (wL_at x (by omega))
              have c3 := (cells_of TX.out.wd 3).trans (wL_at x (by omega))
              have HBX := hide (boxed_c (x.getD 1 0) (x.getD 2 0) (x.getD 3 0) (x.getD 0 0) w2 l1 l2 l3 l0 (HT.out.stay TX.out.sp.bel))
              have HTW := fun W => hide (twice_c (rcn p) W (rcn_lt p))
              have hxr := xor8 _ _ (bx_lt l1) (rcn_lt p)
              obtain ⟨y, hy⟩ : ∃ y, y = [bx (x.getD 1 0), bx (x.getD 2 0), bx (x.getD 3 0), bx (x.getD 0 0)] := ⟨_, rfl⟩
              have hwy : wA (bx (x.getD 1 0)) (bx (x.getD 2 0)) (bx (x.getD 3 0)) (bx (x.getD 0 0)) = wL y := by rw [hy]; rfl
              rw [hwy] at HBX
              have HZ := hide (show (wL y).setIfInBounds 0 (.int .u8 ((bx (x.getD 1 0) ^^^ rcn p : Nat) : Int)) = wL (trn n i x) by
                have e : i / n - 1 = p := by
                  have h := HP.out
                  rcases HN.out with rfl | rfl | rfl <;> omega
                rw [hy, trn, if_pos hm0, e]
                rfl)
              have HC := hide (show (wL y)[0]? = some (.int .u8 (bx (x.getD 1 0) : Nat)) by rw [hy]; rfl)
              have HI5 := hide (show (Tryd.prog.info? 60).map (·.size) = some (wL y).size from zero4.2)
              have HO5 := hide (show (wL y).all (·.oneCell') = true from wA_one _ _ _ _)
              have HS5 := hide (show (wL x).size = (wL y).size from rfl)
              have HQ := hide (show rcn (p + 1) = tm 2 (rcn p) from rfl)
              have HPP := hide (show n * (p + 1) < i + 1 ∧ i + 1 ≤ n * (p + 1 + 1) by
                have h := HP.out
                rcases HN.out with rfl | rfl | rfl <;> omega)
              clear hy hwy l0 l1 l2 l3 hm0 rm
              generalize bx (x.getD 1 0) ^^^ rcn p = V0 at HZ hxr
              generalize bx (x.getD 1 0) = V1 at HC hxr
              generalize tm 2 (rcn p) = Q2 at HTW HQ
              generalize rcn p = Q1 at HTW hxr ⊢
              generalize x.getD 0 0 = x0 at c0 HBX
              generalize x.getD 1 0 = x1 at c1 HBX
              generalize x.getD 2 0 = x2 at c2 HBX
              generalize x.getD 3 0 = x3 at c3 HBX
              go_wp2_with (first
                | (go_at_call 44; refine HBX.out.mono ?_; rintro e w3 ⟨rfl, b3⟩; have TX3 := hide (TX.out.stay b3); clear b3)
                | (refine wpList_store_row rfl 60 (.tmp 9) (.tmp 53) rfl bt (wL y) (by rfl) (by rfl) (wL x) 60 TX3.out.wd HI5.out HS5.out HO5.out ?_; intro w4 X4 K4; have TX4 := hide (TX3.out.put HSZ.out K4.out X4.out); have d0 := (cells_of X4.out 0).trans HC.out; have f0 := free_of X4.out 0)
                | (go_at_call 45; refine (HTW _).out.mono ?_; rintro e w5 ⟨rfl, hw5⟩; rw [hw5]; clear hw5 w5))
              go_meet
              exact ⟨p + 1, by rw [HQ.out], HPP.out.1, HPP.out.2, TX4.out.set0 HSZ.out HZ.out⟩
            · have rm0 : ¬ (i : Int) % (n : Int) = 0 := by rw [rm]; omega
              have HPP := hide (show n * p < i + 1 ∧ i + 1 ≤ n * (p + 1) by
                have h := HP.out
                rcases HN.out with rfl | rfl | rfl <;> omega)
              by_cases h8 : n = 8
              · by_cases h4 : i % 8 = 4
                · have HE := hide (show (n : Int) = 8 by omega)
                  have b8 : ((n : Int) == 8) = true := by rw [HE.out]; rfl
                  have b4 : ((i : Int) % (n : Int) == (n : Int) / 2) = true := by rw [HE.out]; simp; omega
                  have HTR := hide (show tr4 x = trn n i x by rw [trn, if_neg hm0, if_pos ⟨h8, h4⟩])
                  have HBX := hide (boxed_c (x.getD 0 0) (x.getD 1 0) (x.getD 2 0) (x.getD 3 0) w2 l0 l1 l2 l3 (HT.out.stay TX.out.sp.bel))
                  rw [show wA (x.getD 0 0) (x.getD 1 0) (x.getD 2 0) (x.getD 3 0) = wL x from rfl, show wA (bx (x.getD 0 0)) (bx (x.getD 1 0)) (bx (x.getD 2 0)) (bx (x.getD 3 0)) = wL (trn n i x) by rw [← HTR.out]; rfl] at HBX
                  have HI5 := hide (show (Tryd.prog.info? 60).map (·.size) = some (wL (trn n i x)).size from zero4.2)
                  have HO5 := hide (show (wL (trn n i x)).all (·.oneCell') = true from wA_one _ _ _ _)
                  have HS5 := hide (show (wL x).size = (wL (trn n i x)).size from rfl)
                  clear h8 h4 l0 l1 l2 l3 rm hm0 HTR
                  obtain ⟨z, hz⟩ : ∃ z, z = trn n i x := ⟨_, rfl⟩
                  have HZ := hide hz
                  rw [← hz] at HBX HI5 HO5 HS5
                  clear hz
                  obtain ⟨Q1, hQ1⟩ : ∃ Q, Q = rcn p := ⟨_, rfl⟩
                  have HQ1 := hide hQ1
                  rw [← hQ1]
                  clear hQ1
                  go_wp2_with (first
                    | (refine wpList_load_row rfl 60 (.tmp 9) rfl bt (by rfl) (wL x) 60 (0, 0) TX.out.wd _ Tryd.underlying60 rfl HJ4.out ?_)
                    | (go_at_call 44; refine HBX.out.mono ?_; rintro e w3 ⟨rfl, b3⟩; have TX3 := hide (TX.out.stay b3); clear b3)
                    | (refine wpList_store_row rfl 60 (.tmp 9) (.tmp 73) rfl bt (wL z) (by rfl) (by rfl) (wL x) 60 TX3.out.wd HI5.out HS5.out HO5.out ?_; intro w4 X4 K4; have TX4 := hide (TX3.out.put HSZ.out K4.out X4.out)))
                  simp only [Act.put]
                  go_meet
                  exact ⟨p, by rw [HQ1.out], HPP.out.1, HPP.out.2, by rw [← HZ.out]; exact TX4⟩
                · have HE := hide (show (n : Int) = 8 by omega)
                  have b8 : ((n : Int) == 8) = true := by rw [HE.out]; rfl
                  have b4 : ((i : Int) % (n : Int) == (n : Int) / 2) = false := by rw [HE.out]; simp; omega
                  have HTR := hide (show x = trn n i x by rw [trn, if_neg hm0, if_neg (by omega)])
                  clear h8 h4 l0 l1 l2 l3 rm hm0
                  obtain ⟨Q1, hQ1⟩ : ∃ Q, Q = rcn p := ⟨_, rfl⟩
                  have HQ1 := hide hQ1
                  rw [← hQ1]
                  clear hQ1
                  go_wp2_with fail
                  go_meet
                  exact ⟨p, by rw [HQ1.out], HPP.out.1, HPP.out.2, by rw [← HTR.out]; exact TX⟩
              · have b8 : ((n : Int) == 8) = false := by simp; omega
                have HTR := hide (show x = trn n i x by rw [trn, if_neg hm0, if_neg (by omega)])
                clear h8 l0 l1 l2 l3 rm hm0
                obtain ⟨Q1, hQ1⟩ : ∃ Q, Q = rcn p := ⟨_, rfl⟩
                have HQ1 := hide hQ1
                rw [← hQ1]
                clear hQ1
                go_wp2_with fail
                go_meet
                exact ⟨p, by rw [HQ1.out], HPP.out.1, HPP.out.2, by rw [← HTR.out]; exact TX⟩
          case rest =>
            obtain ⟨p', rfl, hp1, hp2, TZ⟩ := hcut
            have HPP := hide (And.intro hp1 hp2)
            have HTW : Hid (Wd (trn n i x)) := trn_wd HXW.out
            clear hp1 hp2 TX HP HJ4 HO4 HS4 HXW
            generalize trn n i x = z at HTW TZ HKH
            obtain ⟨Q1, hQ1⟩ : ∃ Q, Q = rcn p' := ⟨_, rfl⟩
            have HQ1 := hide hQ1
            rw [← hQ1]
            clear hQ1
            have T0 : Hid (TS w g (4 * i + 0) bt z wc) := TZ
            clear TZ
            go_wp2_with fail
            go_loopg [74] 4 (fun gk u74 wx => ∃ b : Nat, b + gk = 4 ∧ u74 = .int .i64 b ∧ Hid (TS w g (4 * i + b) bt z wx))
            case atStart => exact ⟨0, by omega, rfl, T0⟩
            case round =>
              obtain ⟨b, hbg, rfl, TB⟩ := hrel
              clear T0
              cases gk with
              | zero =>
                obtain rfl : b = 4 := by omega
                have hge4 : ¬ ((4 : Nat) : Int) < 4 := by omega
                obtain ⟨g0, hg0⟩ : ∃ g0, gk = g0 + 1 := ⟨gk - 1, by omega⟩
                subst hg0
                go_wp2_with fail
                go_roundg g0
                case measure => omega
                case rel => exact ⟨i + 1, p', by omega, by omega, by omega, by omega, HPP.out.1, HPP.out.2, by rw [HQ1.out], by go_num, by rw [show 4 * (i + 1) = 4 * i + 4 by omega]; exact TB.out.sp⟩
              | succ g2 =>
                have hlt4 : (b : Int) < 4 := by omega
                have hb4 : b < 4 := by omega
                have b0 : (0 : Int) ≤ (b : Int) := by omega
                obtain ⟨i2, hi2⟩ : ∃ i2, i = i2 + n := ⟨i - n, by omega⟩
                have s3 : (i : Int) - (n : Int) = (i2 : Int) := by omega
                have s3w : IntKind.i64.wrap ((i : Int) - (n : Int)) = (i2 : Int) := by rw [IntKind.wrap_i64]; omega
                have s3v : IntKind.i64.wrap (i2 : Int) = (i2 : Int) := by rw [IntKind.wrap_i64]; omega
                have s5 : (0 : Int) ≤ (i2 : Int) := by omega
                have s6 : (i2 : Int) < 60 := by omega
                have s7 : (0 : Int) ≤ (i : Int) := by omega
                have s8 : (i : Int) < 60 := by omega
                have cA1 : wr.drew.cell? ⟨w.heap.size + 1, i2 * 4 + b, none⟩ = some (.int .u8 (g (i2 * 4 + b) : Nat)) := (cells_of (show wr.drew.heap[w.heap.size + 1]? = _ from TB.out.sp.arr) (i2 * 4 + b)).trans (fA_at .u8 g (by omega) (by omega))
                have cA2 : wr.drew.cell? ⟨bt, b, none⟩ = some (.int .u8 (z.getD b 0 : Nat)) := (cells_of (show wr.drew.heap[bt]? = _ from TB.out.wd) b).trans (wL_at z hb4)
                have cA3 : wr.drew.cell? ⟨w.heap.size + 1, i * 4 + b, none⟩ = some (.int .u8 0) := (cells_of (show wr.drew.heap[w.heap.size + 1]? = _ from TB.out.sp.arr) (i * 4 + b)).trans (by rw [show i * 4 + b = 4 * i + b by omega]; exact fA_not .u8 g (by omega))
                have fA3 : wr.drew.frozen? ⟨w.heap.size + 1, i * 4 + b, none⟩ = false := free_of (show wr.drew.heap[w.heap.size + 1]? = _ from TB.out.sp.arr) _
                have hkh := HKH.out b hb4
                rw [show i - n = i2 by omega, Nat.mul_comm 4 i2, Nat.mul_comm 4 i] at hkh
                have hz8 := HTW.out.2.getD b
                have hg8 : g (i2 * 4 + b) < 256 := by rw [HG.out]; exact kby_lt HKB.out (by omega) _
                have hxr : bits .xor .u8 ((g (i2 * 4 + b) : Nat) : Int) ((z.getD b 0 : Nat) : Int) = ((g (i * 4 + b) : Nat) : Int) := by rw [xor8 _ _ hg8 hz8, hkh, Nat.xor_comm]
                have NX : Hid (TS w g (4 * i + (b + 1)) bt z (wr.drew.setCell ⟨w.heap.size + 1, i * 4 + b, none⟩ (.int .u8 (g (i * 4 + b) : Nat)))) := by
                  have := (TB.out.stay (below_drew wr)).set HSZ.out (show 4 * i + b < 240 by omega)
                  rw [Nat.mul_comm i 4]
                  exact this
                generalize g (i * 4 + b) = G1 at hxr NX
                generalize g (i2 * 4 + b) = G2 at hxr cA1
                generalize z.getD b 0 = G3 at hxr cA2
                clear hkh hz8 hg8 TB hi2 hb4 hni hi4 hg1 hg2
                go_upto_region 21 with fail
                go_region_with (fail)
                all_goals go_wp2_with fail
                all_goals (go_roundg g2; (case measure => omega); (case rel => exact ⟨b + 1, by omega, by go_num, NX⟩))
    | succ g1 =>
      have hlt : (i : Int) < (n : Int) := by omega
      have RG := hide (show wr.rangeAt kb (ko + 4 * i) (four g (4 * i)) from four_range fun b hb => by
        rw [SX.out.bel.cell (p := ⟨kb, ko + 4 * i + b, none⟩) hkw, Nat.add_assoc, HKS.out (4 * i + b) (by rw [HKL.out]; omega), HLO.out i (by omega) b hb])
      have TH := hide (SX.out.there (o := i * 4) (by omega))
      have NX : Hid (SP w g (4 * i + 4) (wr.setCells (w.heap.size + 1) (i * 4) (four g (4 * i)))) := by
        rw [Nat.mul_comm i 4]
        exact SX.out.lay4 (show 4 * i + 3 < 240 by omega)
      have HI4 := hide (show (Tryd.prog.info? 60).map (·.size) = some (four g (4 * i)).length from zero4.2)
      have HJ4 := hide (show (Tryd.prog.info? 60).map (·.size) = some (four g (4 * i)).toArray.size from zero4.2)
      have HO4 := hide (show (four g (4 * i)).toArray.all (·.oneCell') = true from wA_one _ _ _ _)
      have HL4 := hide (show (four g (4 * i)).toArray.size = 4 from rfl)
      have HT4 := hide (show (four g (4 * i)).toArray.toList = four g (4 * i) from rfl)
      have har : ∀ (W : World) (a : Option Addr) (c : Nat), (Instr.arrayAt 60 (.slice a (4 * (i + 1) - 4 * i) c)).run Tryd.prog W = .ok (.pointer a) W := fun W a c => by rw [show 4 * (i + 1) - 4 * i = 4 by omega]; exact arrWord W a c
      generalize four g (4 * i) = F4 at RG NX HI4 HJ4 HO4 HL4 HT4
      have i0 : (0 : Int) ≤ (i : Int) := by omega
      have i60 : (i : Int) < 60 := by omega
      go_wp2_with (first
        | (refine wpList_load_mid rfl 60 (.tmp 23) rfl kb (ko + 4 * i) (by rfl) F4 _ RG.out Tryd.underlying60 rfl HI4.out ?_)
        | (refine wpList_store_mid rfl 60 (.tmp 25) (.tmp 24) rfl (w.heap.size + 1) (i * 4) F4.toArray (by rfl) (by rfl) (by rw [HL4.out]; exact TH.out) HJ4.out HO4.out ?_; rw [HT4.out]))
      all_goals go_roundg g1
      all_goals first
        | omega
        | exact ⟨i + 1, by omega, by go_num, by rw [show 4 * (i + 1) = 4 * i + 4 by omega]; exact NX⟩
end Go.Proofs.YtgamfpgejkhbcaaDoor.K
