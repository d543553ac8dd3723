/- The reference's message: contract. The reference's Sum: contract. -/
import Derived.Test.YtgamfpgejkhbcaaDoorSOwn
import Derived.Test.YtgamfpgejkhbcaaDoorSG1
namespace Go.Proofs.YtgamfpgejkhbcaaDoor.S
set_option maxRecDepth 100000
open Go Go.RowKit

/-- Eight bytes of which the last j are laid. -/
def tF (v j i : Nat) : Nat := if 8 ≤ i + j then v / 256 ^ (7 - i) % 256 else 0
def tA (v j : Nat) : Array Value := fA .u8 8 (tF v j) 8
theorem tA_zero (v : Nat) : tA v 0 = Array.replicate 8 (.int .u8 0) := by
  rw [← fA_zero .u8 8 (tF v 0), tA]
  apply Array.ext_getElem?
  intro i
  by_cases hi : i < 8
  · rw [fA_at .u8 _ hi hi, fA_get .u8 _ hi, tF, if_neg (by omega), if_neg (by omega)]
  · rw [Array.getElem?_eq_none (by rw [fA_size]; omega), Array.getElem?_eq_none (by rw [fA_size]; omega)]
theorem tA_set {v j : Nat} (hj : j < 8) : (tA v j).setIfInBounds (7 - j) (.int .u8 ((v / 256 ^ j % 256 : Nat) : Int)) = tA v (j + 1) := by
  apply Array.ext_getElem?
  intro i
  rw [Array.getElem?_setIfInBounds]
  by_cases hi : i < 8
  · rw [tA, tA, fA_size, fA_at .u8 _ hi hi, fA_at .u8 _ hi hi]
    by_cases e : 7 - j = i
    · rw [if_pos e, if_pos (by omega), tF, if_pos (by omega), show 7 - i = j by omega]
    · rw [if_neg e]
      unfold tF
      by_cases h1 : 8 ≤ i + j
      · rw [if_pos h1, if_pos (by omega)]
      · rw [if_neg h1, if_neg (by omega)]
  · rw [if_neg (by omega), tA, tA, Array.getElem?_eq_none (by rw [fA_size]; omega), Array.getElem?_eq_none (by rw [fA_size]; omega)]
theorem tA_be (v i : Nat) (hi : i < 8) : (tA v 8)[i]? = some (.int .u8 ((be8 v).getD i 0 : Nat)) := by
  rw [tA, fA_at .u8 _ hi hi, tF, if_pos (by omega)]
  simp [be8, hi]
theorem zeroU8 : ∀ w, (zeroValue 5).run Tryd.prog w = .ok (.int .u8 0) w := (zero_of_info (n := 1) (by kernel_rfl)).1
def mid (ys : List Nat) (j : Nat) : List Nat := ys ++ 128 :: List.replicate j 0
theorem mid_length (ys : List Nat) (j : Nat) : (mid ys j).length = ys.length + 1 + j := by simp [mid]; omega
theorem mid_push (ys : List Nat) (j : Nat) : mid ys j ++ [0] = mid ys (j + 1) := by simp [mid, List.replicate_succ']
theorem mid_msg (ys : List Nat) : mid ys (zs ys.length) ++ be8 (8 * ys.length % 18446744073709551616) = msg ys := by simp [mid, msg, ending]
theorem made_full (n : Nat) (hn : n ≤ 16777216) (W : World) :
    (Instr.makeSlice 22 (.int .i64 (n : Int)) (.int .i64 (n : Int))).run Tryd.prog W = .ok (.slice (some ⟨W.heap.size, 0, none⟩) n n) (W.alloc (.cells (fA .u8 n (fun _ => 0) 0) 5)) := by
  obtain ⟨i, hi, hz, hs, hb⟩ := info_parts infoB
  have h := run_makeSlice (P := Tryd.prog) W 22 5 i (.int .u8 0) Tryd.underlying22 hi hz .i64 .i64 (n : Int) (n : Int) (by omega) (by omega) (by rw [hs]; simpa using hn) (by rw [hb]; omega) (by omega)
  rw [h, hs, fA_zero, Int.toNat_natCast, Nat.mul_one]
  have e : madeCells (Value.int .u8 0).cells n = Array.replicate n (.int .u8 0) := by
    have := toList_madeCells_one (Value.int .u8 0) n
    rw [← Array.toList_inj]
    simpa [Value.cells] using this
  rw [e]
/-- What message answers. -/
def QMsg (ys : List Nat) (w : World) (e : Ending) (w' : World) : Prop := ∃ v, e = .returned v ∧ OwnsB w' w.heap.size v (msg ys) ∧ Below w.heap.size w w'

set_option maxHeartbeats 4000000 in
theorem message_c (a : Option Addr) (cap : Nat) (ys : List Nat) (w : World) (hb : TextAt w a ys) (hnone : a = none → ys.length = 0 ∧ cap = 0) (hl : ys.length ≤ 140737488351360) :
    Calls Tryd.prog 51 #[.slice a ys.length cap] w (QMsg ys w) := by
  have HB := hide hb
  have HNN := hide hnone
  have hz8 := zeroU8
  obtain ⟨N, hN⟩ : ∃ N, N = ys.length := ⟨_, rfl⟩
  have HN := hide hN
  rw [← hN] at hl HNN ⊢
  clear hb hnone hN
  have E0 := hide (OwnsB.empty w w.heap.size (Nat.le_refl _))
  have BE := hide ((Below.refl _ w).alloc (Nat.le_refl _) (.cells #[] 5) : Below w.heap.size w _)
  go_enter Tryd.func51, Tryd.ntmps51
  go_upto_region 2 with (refine wpList_appB _ rfl (.tmp 7) (.tmp 8) rfl w.heap.size (.slice (some ⟨w.heap.size, 0, none⟩) 0 0) [] (by rfl) E0.out a N cap (by rfl) ys ys (by rfl) HN.out.symm (HB.out.below ((Below.refl _ w).alloc (Nat.le_refl _) _)) HNN.out (by simp; omega) (by simp) ?_; intro v3 w1 h1 k1; have O1 := hide h1; have B1 := hide (growB E0.out BE.out k1); clear h1 k1)
  have hs1 := B1.out.size
  go_wp2_with (refine wpList_appB _ rfl (.tmp 10) (.tmp 11) rfl w.heap.size v3 ys (by rfl) (World.ownsRow.alloc O1.out _) (some ⟨w1.heap.size, 0, none⟩) 1 1 (by rfl) [128] (mid ys 0) (by rfl) rfl (one_byte w1 128) (fun e => by cases e) (by rw [← HN.out]; omega) (by simp; omega) ?_; intro v4 w2 h2 k2; have O2 := hide h2; have B2 := hide (growB (World.ownsRow.alloc O1.out _) (B1.out.alloc hs1 _) k2); clear h2 k2)
  clear E0 BE O1 B1 hs1
  have hzl := zs_lt N
  go_loopg [3] (zs N) (fun gk u3 wx => ∃ j : Nat, j + gk = zs N ∧ Hid (OwnsB wx w.heap.size u3 (mid ys j)) ∧ Hid (Below w.heap.size w wx))
  case atStart => exact ⟨0, by omega, O2, B2⟩
  case round =>
    obtain ⟨j, hjg, OX, BX⟩ := hrel
    clear O2 B2
    obtain ⟨a3, c3, rfl, hc3, hm3, hn3⟩ := OX.out.form
    have hml : (mid ys j).length = N + 1 + j := by rw [mid_length, HN.out]
    have hsx := BX.out.size
    rw [hml] at OX hc3 hn3 ⊢
    obtain ⟨r, hr⟩ : ∃ r : Nat, ((N + 1 + j : Nat) : Int).tmod 64 = (r : Int) ∧ r = (N + 1 + j) % 64 := ⟨(N + 1 + j) % 64, by rw [Int.tmod_eq_emod_of_nonneg (by omega)]; omega, rfl⟩
    obtain ⟨hr1, hr2⟩ := hr
    have hr3 : ((N + 1 + j : Nat) : Int) % 64 = (r : Int) := by omega
    cases gk with
    | zero =>
      have hre : r = 56 := by rw [hr2, show j = zs N by omega, zs]; omega
      subst hre
      obtain rfl : j = zs N := by omega
      have hv : (N : Int) * 8 = ((8 * N % 18446744073709551616 : Nat) : Int) := by omega
      obtain ⟨v, hvd⟩ : ∃ v, v = 8 * N % 18446744073709551616 := ⟨_, rfl⟩
      have HV := hide hvd
      rw [← hvd] at hv
      have hvl : v < 18446744073709551616 := by omega
      obtain ⟨M, hM, hMl⟩ : ∃ M, M = N + 1 + zs N ∧ M ≤ 140737488351425 := ⟨_, rfl, by omega⟩
      rw [← hM] at OX hc3 hn3 hr1 hr3 ⊢
      have HM := hide hM
      clear hvd hM hml hr2
      have hmk : (Instr.makeSlice 22 (.int .i64 8) (.int .i64 8)).run Tryd.prog wr = .ok (.slice (some ⟨wr.heap.size, 0, none⟩) 8 8) (wr.alloc (.cells (fA .u8 8 (fun _ => 0) 0) 5)) := made_full 8 (by omega) wr
      have HT0 := hide (heap_new wr (.cells (fA .u8 8 (fun _ => 0) 0) 5))
      have HB0 := hide (BX.out.alloc hsx (.cells (fA .u8 8 (fun _ => 0) 0) 5))
      have OX0 := hide (World.ownsRow.alloc OX.out (.cells (fA .u8 8 (fun _ => 0) 0) 5) : OwnsB _ w.heap.size _ _)
      go_wp2_with fail
      generalize wr.alloc (.cells (fA .u8 8 (fun _ => 0) 0) 5) = w5 at HT0 HB0 OX0 ⊢
      have HT : Hid (w5.heap[wr.heap.size]? = some (.cells (tA v 0) 5 (0, 0))) := by rw [tA_zero, ← fA_zero .u8 8 (fun _ => 0)]; exact HT0
      have HGO := hide (fun g (hg : (Value.slice a3 M c3).ownBlock = some g) => (ownsRow_lt OX.out hg).2)
      clear HT0 hmk
      obtain ⟨G, hG⟩ : ∃ G, G = wr.heap.size := ⟨_, rfl⟩
      rw [← hG] at HT HGO hsx ⊢
      clear hG OX BX
      go_loopg [4, 6] 8 (fun gk u4 u6 wx => ∃ j : Nat, j + gk = 8 ∧ u4 = .int .u64 ((v / 256 ^ j : Nat) : Int) ∧ u6 = .int .i64 (7 - (j : Int)) ∧ Hid (wx.heap[G]? = some (.cells (tA v j) 5 (0, 0))) ∧ Hid (Kept (fun k => k = G) w5 wx))
      case atStart => exact ⟨0, by omega, by simp, rfl, HT, Kept.refl _ _⟩
      case round =>
        obtain ⟨j, hj8, rfl, rfl, HX, KX⟩ := hrel
        cases gk with
        | zero =>
          obtain rfl : j = 8 := by omega
          have hneg : ¬ (0 : Int) ≤ 7 - ((8 : Nat) : Int) := by omega
          have hneg2 : (7 : Int) - ((8 : Nat) : Int) < 0 := by omega
          have OK : Hid (OwnsB wr w.heap.size (.slice a3 M c3) (mid ys (zs N))) := ownsRow_kept OX0.out KX.out (fun g hg e => by have := HGO.out g hg; omega)
          have BK : Hid (Below w.heap.size w wr) := HB0.out.trans (KX.out.below HB0.out.size (fun i hi e => by omega))
          have TK : Hid (TextAt wr (some ⟨G, 0, none⟩) (be8 v)) := .inr ⟨G, 0, rfl, lt_of_block HX.out, fun i hi => by rw [be8_length] at hi; rw [Nat.zero_add, cells_of HX.out, tA_be v i hi]⟩
          have hbk := BK.out.size
          have HMS : Hid (mid ys (zs N) ++ be8 v = msg ys) := by rw [HV.out, HN.out]; exact mid_msg ys
          go_wp2_with (refine wpList_appB _ rfl (.tmp 37) (.tmp 38) rfl w.heap.size (.slice a3 M c3) (mid ys (zs N)) (by rfl) OK.out (some ⟨G, 0, none⟩) 8 8 (by rfl) (be8 v) (msg ys) HMS.out (be8_length v) TK.out (fun e => by cases e) (by rw [mid_length, ← HN.out]; omega) hbk ?_; intro v6 w6 h6 k6; have O6 := hide h6; have B6 := hide (growB OK.out BK.out k6); clear h6 k6)
          go_ret
          exact ⟨v6, rfl, O6.out, B6.out⟩
        | succ g1 =>
          obtain ⟨i, hi⟩ : ∃ i : Nat, 7 - (j : Int) = (i : Int) := ⟨7 - j, by omega⟩
          have hpos : (0 : Int) ≤ (i : Int) := by omega
          have hi8 : (i : Int) < 8 := by omega
          have hij : 7 - j = i := by omega
          have hc := (cells_of HX.out i).trans (fA_at .u8 _ (show i < 8 by omega) (show i < 8 by omega))
          have hf := free_of HX.out i
          have HD := hide (show v / 256 ^ j / 256 = v / 256 ^ (j + 1) by rw [Nat.div_div_eq_div_mul, ← Nat.pow_succ])
          have hset : Hid ((wr.setCell ⟨G, i, none⟩ (.int .u8 ((v / 256 ^ j % 256 : Nat) : Int))).heap[G]? = some (.cells (tA v (j + 1)) 5 (0, 0))) := by
            rw [set_of HX.out, ← hij, tA_set (by omega)]; exact rfl
          have hDl : v / 256 ^ j < 18446744073709551616 := Nat.lt_of_le_of_lt (Nat.div_le_self _ _) hvl
          generalize v / 256 ^ j = D at hset HD hDl ⊢
          have m1 : (D : Int).tmod 256 = ((D % 256 : Nat) : Int) := by rw [Int.tmod_eq_emod_of_nonneg (by omega)]; omega
          have m2 : (D : Int) % 256 = ((D % 256 : Nat) : Int) := by omega
          have m3 : (D : Int).tdiv 256 = ((D / 256 : Nat) : Int) := by rw [Int.tdiv_eq_ediv_of_nonneg (by omega)]; omega
          have m4 : (D : Int) / 256 = ((D / 256 : Nat) : Int) := by omega
          have hq : D % 256 < 256 := by omega
          generalize D % 256 = Q at hset m1 m2 hq
          rw [HD.out] at m3 m4
          obtain ⟨D2, hD2⟩ : ∃ D2, D2 = v / 256 ^ (j + 1) := ⟨_, rfl⟩
          have HD2 := hide hD2
          rw [← hD2] at m3 m4
          rw [hi]
          have hnx : (i : Int) - 1 = 7 - ((j + 1 : Nat) : Int) := by omega
          have HNX := hide hnx
          have hK : Hid (Kept (fun k => k = G) w5 (wr.setCell ⟨G, i, none⟩ (.int .u8 (Q : Int)))) := KX.out.setCell (p := ⟨G, i, none⟩) (fun _ => rfl) _
          clear HD hD2 hnx hi hij
          go_wp2_with fail
          go_roundg g1
          case measure => omega
          case rel => exact ⟨j + 1, by omega, by rw [HD2.out], by rw [HNX.out], hset, hK⟩
    | succ g1 =>
      have hne : r ≠ 56 := by
        rw [hr2]
        have : zs N = (119 - N % 64) % 64 := rfl
        omega
      have hne2 : ((r : Int) == 56) = false := by simp; omega
      have hne3 : ¬ (r : Int) = 56 := by omega
      obtain ⟨M, hM⟩ : ∃ M, M = N + 1 + j := ⟨_, rfl⟩
      rw [← hM] at OX hc3 hn3 hr1 hr3 ⊢
      have HM := hide hM
      clear hM hml hr2
      go_wp2_with (refine wpList_appB _ rfl (.tmp 17) (.tmp 18) rfl w.heap.size (.slice a3 M c3) (mid ys j) (by rfl) (World.ownsRow.alloc OX.out _) (some ⟨wr.heap.size, 0, none⟩) 1 1 (by rfl) [0] (mid ys (j + 1)) (mid_push ys j) rfl (one_byte wr 0) (fun e => by cases e) (by rw [mid_length, ← HN.out]; omega) (by simp; omega) ?_; intro v4 w2 h2 k2; have O2 := hide h2; have B2 := hide (growB (World.ownsRow.alloc OX.out _) (BX.out.alloc hsx _) k2); clear h2 k2)
      go_roundg g1
      case measure => omega
      case rel => exact ⟨j + 1, by omega, O2, B2⟩
end Go.Proofs.YtgamfpgejkhbcaaDoor.S
namespace Go.Proofs.YtgamfpgejkhbcaaDoor.S
set_option maxRecDepth 100000
open Go Go.RowKit

theorem built_st0 : Tryd.prog.built 80 [(0, .int .u32 1732584193), (1, .int .u32 4023233417), (2, .int .u32 2562383102), (3, .int .u32 271733878), (4, .int .u32 3285377520)] = some (stA st0) := by kernel_rfl
theorem slice_64 (a : Option Addr) (g len cap i : Nat) (ha : a = some ⟨g, 0, none⟩) (h : i + 64 ≤ len) (hc : len ≤ cap) (W : World) :
    (Instr.sliceAt 22 (.slice a len cap) (some (.int .i64 (i : Int))) (some (.int .i64 ((i : Int) + 64))) none).run Tryd.prog W = .ok (.slice (some ⟨g, 0 + i, none⟩) 64 (cap - i)) W := by
  rw [run_sliceAt_slice _ _ _ _ _ _ (by kernel_rfl), run_slice_lh W 22 a len cap (by kernel_rfl) .i64 .i64 (i : Int) ((i : Int) + 64) (by omega) (by omega) (by omega), elemB, size5]
  simp only [Result.andThen_ok, sliced, Int.toNat_natCast]
  rw [if_neg (by omega), show ((i : Int) + 64).toNat - i = 64 by omega, ha]
  simp [addr_plain]

/-- What stands in memory while blocks are taken in. -/
structure RS (ys : List Nat) (w w2 wx : World) (v : Value) (k : Nat) : Prop where
  st : wx.heap[w.heap.size + 1]? = some (.cells (stA (blks (msg ys) k)) 80 (0, 0))
  out : wx.heap[w.heap.size]? = some (.cells (oA (sum ys) 0) 55 (0, 0))
  own : OwnsB wx w2.heap.size v (msg ys)
  bel : Below w.heap.size w wx
theorem RS.next {ys : List Nat} {w w2 wx wy wz : World} {v : Value} {k : Nat} (h : RS ys w w2 wx v k) (h2 : w.heap.size + 2 ≤ w2.heap.size) (hb : Below wx.heap.size wx wy) (hk : Kept (fun i => i = w.heap.size + 1) wy wz) (hs : wz.heap[w.heap.size + 1]? = some (.cells (stA (blks (msg ys) (k + 1))) 80 (0, 0))) : RS ys w w2 wz v (k + 1) := by
  have l1 := lt_of_block h.st
  have hy : Below w.heap.size w wy := h.bel.trans (hb.mono h.bel.size)
  refine ⟨hs, hk.heap ((hb.block _ (by omega)).trans h.out) (by omega), ownsRow_kept (h.own.stay hb) hk (fun g hg e => ?_), hy.trans (hk.below hy.size (fun i hi e => by omega))⟩
  have := (ownsRow_lt h.own hg).1
  omega
theorem RS.drewN {ys : List Nat} {w w2 wx : World} {v : Value} {k : Nat} (h : RS ys w w2 wx v k) (n : Nat) : RS ys w w2 (wx.drewN n) v k := ⟨h.st, h.out, h.own, ⟨h.bel.os, h.bel.tape, h.bel.output, h.bel.size, h.bel.block⟩⟩
theorem st_in {w : World} {b : Nat} {s : St} (h : w.heap[b]? = some (.cells (stA s) 80 (0, 0))) : StIn w b s := ⟨cells_of h 0, cells_of h 1, cells_of h 2, cells_of h 3, cells_of h 4⟩
/-- What stands in memory while the reference tells the bytes. -/
structure OutR (s : St) (w wx : World) (t : Nat) : Prop where
  r1 : wx.heap[w.heap.size]? = some (.cells (oA s t) 55 (0, 0))
  bel : Below w.heap.size w wx
theorem OutR.set {s : St} {w wx : World} {t : Nat} (h : OutR s w wx t) (ht : t < 20) : OutR s w (wx.setCell ⟨w.heap.size, t, none⟩ (.int .u8 (oB s t : Nat))) (t + 1) :=
  ⟨by rw [set_of h.r1, oA, fA_set .u8 _ ht]; rfl, h.bel.setCell (by simp) _⟩
theorem OutR.start (s : St) (w : World) : OutR s w (w.alloc (.cells (oA s 0) 55)) 0 := ⟨heap_new _ _, (Below.refl _ w).alloc (Nat.le_refl _) _⟩
/-- Five words stored one behind the other. -/
def five (w : World) (b : Nat) (s : St) : World :=
  ((((w.setCell ⟨b, 0, none⟩ (.int .u32 (s.a : Int))).setCell ⟨b, 1, none⟩ (.int .u32 (s.b : Int))).setCell ⟨b, 2, none⟩ (.int .u32 (s.c : Int))).setCell ⟨b, 3, none⟩ (.int .u32 (s.d : Int))).setCell ⟨b, 4, none⟩ (.int .u32 (s.e : Int))
theorem five_kept (w : World) (b : Nat) (s : St) : Kept (fun i => i = b) w (five w b s) :=
  (((((Kept.refl (fun i => i = b) w).setCell (p := ⟨b, 0, none⟩) (fun _ => rfl) _).setCell (p := ⟨b, 1, none⟩) (fun _ => rfl) _).setCell (p := ⟨b, 2, none⟩) (fun _ => rfl) _).setCell (p := ⟨b, 3, none⟩) (fun _ => rfl) _).setCell (p := ⟨b, 4, none⟩) (fun _ => rfl) _
theorem five_set {w : World} {b : Nat} {s s' : St} (h : w.heap[b]? = some (.cells (stA s') 80 (0, 0))) : (five w b s).heap[b]? = some (.cells (stA s) 80 (0, 0)) := by
  unfold five
  rw [set_of (set_of (set_of (set_of (set_of h 0 _) 1 _) 2 _) 3 _) 4 _]
  rfl
set_option maxHeartbeats 4000000 in
theorem rsum_big (a : Option Addr) (cap : Nat) (ys : List Nat) (w : World) (hy : By ys) (hb : TextAt w a ys) (hnone : a = none → ys.length = 0 ∧ cap = 0) (hl : ys.length ≤ 140737488351360) :
    Calls Tryd.prog 42 #[.slice a ys.length cap] w fun e w' => e = .returned (.agg (oA (sum ys) 20)) ∧ Below w.heap.size w w' := by
  have hz : ∀ w, (zeroValue 55).run Tryd.prog w = .ok (.agg (oA (sum ys) 0)) w := (zero20 _).1
  have hz5 := zero5w
  have HBU := hide built_st0
  have HI := hide (info5w st0)
  have HON := hide (stA_one st0)
  have HB := hide hb
  have HNN := hide hnone
  have HY := hide (msg_by hy)
  have hmm := msg_mod ys
  have hml : (msg ys).length ≤ 140737488351360 + 73 := by rw [msg, List.length_append, ending_length]; have := zs_lt ys.length; omega
  clear hb hnone hy
  go_enter Tryd.func42, Tryd.ntmps42
  go_upto_region 2 with (first
    | (refine wpList_build rfl 80 _ rfl _ (stA st0) HBU.out (by simp [Act.eval]) ?_)
    | (refine wpList_store_row rfl 80 (.tmp 3) (.tmp 8) rfl (w.heap.size + 1) (stA st0) (by rfl) (by rfl) (stA ⟨0, 0, 0, 0, 0⟩) 80 (heap_new2 _ _ _) HI.out rfl HON.out ?_; intro w2 G2 K2))
  have B2 : Hid (Below w.heap.size w w2) := (((Below.refl _ w).alloc (Nat.le_refl _) _).alloc (by simp) _).trans (K2.out.below (by simp; omega) (fun i hi e => by omega))
  have O2 : Hid (w2.heap[w.heap.size]? = some (.cells (oA (sum ys) 0) 55 (0, 0))) := K2.out.heap (heap_new1 _ _ _) (by omega)
  have h22 : w.heap.size + 2 ≤ w2.heap.size := lt_of_block' G2.out
  have HMS := hide (message_c a cap ys w2 (HB.out.below B2.out) HNN.out hl)
  clear K2 HBU
  go_upto_region 3 with (go_at_call 51; refine HMS.out.mono ?_; rintro e w3 ⟨v4, rfl, h3, k3⟩; have O3 := hide h3; have B3 := hide k3; clear h3 k3)
  have R0 : Hid (RS ys w w2 w3 v4 0) := ⟨(B3.out.block _ (by omega)).trans G2.out, (B3.out.block _ (by omega)).trans O2.out, O3.out, B2.out.trans (B3.out.mono B2.out.size)⟩
  obtain ⟨a4, c4, rfl, hc4, hm4, hn4⟩ := O3.out.form
  have ha4 : ∃ g, a4 = some ⟨g, 0, none⟩ := by
    rcases O3.out.bs with h | ⟨g, e, _⟩
    · rw [msg, List.length_append, ending_length] at h; omega
    · exact ⟨g, e⟩
  obtain ⟨g, rfl⟩ := ha4
  obtain ⟨L, hL⟩ : ∃ L, L = (msg ys).length := ⟨_, rfl⟩
  have HL := hide hL
  rw [← hL] at hc4 hml hmm R0 ⊢
  clear hL G2 O2 B2 B3 O3 hn4 HMS HB HNN
  obtain ⟨NB, hNB⟩ : ∃ NB, L = 64 * NB := ⟨L / 64, by omega⟩
  have HNB := hide hNB
  go_wp2_with fail
  go_loopg [5] NB (fun gk v5 wx => ∃ k : Nat, k + gk = NB ∧ v5 = .int .i64 ((64 * k : Nat) : Int) ∧ Hid (RS ys w w2 wx (.slice (some ⟨g, 0, none⟩) L c4) k))
  case atStart => exact ⟨0, by omega, rfl, R0⟩
  case round =>
    obtain ⟨k, hkg, rfl, HR⟩ := hrel
    clear R0
    cases gk with
    | zero =>
      obtain rfl : k = NB := by omega
      have hge : ¬ ((64 * k : Nat) : Int) < (L : Int) := by omega
      have HSE : Hid (blks (msg ys) k = sum ys) := by
        show _ = blks (msg ys) ((msg ys).length / 64)
        rw [← HL.out, HNB.out, Nat.mul_div_cancel_left _ (by omega)]
      have ST : Hid (wr.heap[w.heap.size + 1]? = some (.cells (stA (sum ys)) 80 (0, 0))) := by rw [← HSE.out]; exact HR.out.st
      have OT := hide HR.out.out
      have BR := hide HR.out.bel
      have hs1 := lt_of_block' ST.out
      have H20 := hide (info20 (oB (sum ys)) 20)
      clear HR HSE hNB hmm hml HY
      obtain ⟨i, hi⟩ : ∃ i, i = 64 * k := ⟨_, rfl⟩
      rw [← hi] at hge ⊢
      clear hi
      have OA := hide (OutR.start (sum ys) wr)
      go_wp2_with fail
      generalize wr.alloc (.cells (oA (sum ys) 0) 55) = w6 at OA ⊢
      obtain ⟨W, hW⟩ : ∃ W, W = wr := ⟨_, rfl⟩
      rw [← hW] at OA ST OT BR hs1 ⊢
      clear hW
      go_loopg [7] 20 (fun gk v7 wx => ∃ t : Nat, t + gk = 20 ∧ v7 = .int .i64 t ∧ Hid (OutR (sum ys) W wx t))
      case atStart => exact ⟨0, by omega, rfl, OA⟩
      case round =>
        obtain ⟨t, htg, rfl, HO⟩ := hrel
        clear OA
        cases gk with
        | zero =>
          obtain rfl : t = 20 := by omega
          have O0 : Hid (wr.heap[w.heap.size]? = some (.cells (oA (sum ys) 0) 55 (0, 0))) := (HO.out.bel.block _ (by omega)).trans OT.out
          have BX := hide (BR.out.trans (HO.out.bel.mono BR.out.size))
          go_wp2_with (first
            | (refine wpList_load_row rfl 55 (.tmp 6) rfl W.heap.size (by rfl) (oA (sum ys) 20) 55 (0, 0) HO.out.r1 _ Tryd.underlying55 rfl H20.out ?_)
            | (refine wpList_store_row rfl 55 (.tmp 2) (.tmp 40) rfl w.heap.size (oA (sum ys) 20) (by rfl) (by rfl) (oA (sum ys) 0) 55 O0.out H20.out (by rw [oA, oA, fA_size, fA_size]) (fA_one _ _ _ _) ?_; intro w9 G9 K9))
          have hld : (loadVar 55 ⟨w.heap.size, 0, none⟩).run Tryd.prog w9 = .ok (.agg (oA (sum ys) 20)) w9 :=
            run_loadVar_row _ _ 55 55 (oA (sum ys) 20) (0, 0) _ G9.out Tryd.underlying55 rfl H20.out
          refine bodyPost_ret (v := .agg (oA (sum ys) 20)) ?_ rfl ⟨rfl, BX.out.trans (K9.out.below BX.out.size (fun i hi e => by omega))⟩
          simp [results, asAddr, hld]
        | succ g1 =>
          have hlt : (t : Int) < 20 := by omega
          have hn := (cells_of HO.out.r1 t).trans (fA_not .u8 (oB (sum ys)) (show t < 20 by omega))
          have hf := free_of HO.out.r1 t
          have hset := hide (HO.out.set (show t < 20 by omega))
          have hg := ((st_in ST.out).below HO.out.bel hs1).get (show t / 4 < 5 by omega)
          have d1 : (t : Int).tdiv 4 = ((t / 4 : Nat) : Int) := by rw [Int.tdiv_eq_ediv_of_nonneg (by omega)]; omega
          have d2 : (t : Int) / 4 = ((t / 4 : Nat) : Int) := by omega
          have d3 : (t : Int).tmod 4 = ((t % 4 : Nat) : Int) := by rw [Int.tmod_eq_emod_of_nonneg (by omega)]; omega
          have d4 : (t : Int) % 4 = ((t % 4 : Nat) : Int) := by omega
          have hoB : oB (sum ys) t = (sum ys).get (t / 4) / 2 ^ (24 - 8 * (t % 4)) % 256 := rfl
          rw [hoB] at hset
          have hj : t / 4 < 5 := by omega
          have hr : t % 4 < 4 := by omega
          generalize (sum ys).get (t / 4) = Gv at *
          generalize t / 4 = j at *
          generalize t % 4 = r at *
          have hj' : (j : Int) < 5 := by omega
          have hr' : (r : Int) < 4 := by omega
          have hset2 : Hid (OutR (sum ys) W (wr.setCell ⟨W.heap.size, t, none⟩ (.int .u8 ((Gv : Int) / 2 ^ (24 - 8 * r) % 256))) (t + 1)) := by
            have := hset.out
            push_cast at this
            exact this
          clear hset hoB
          go_wp2_with fail
          go_roundg g1
          case measure => omega
          case rel => exact ⟨t + 1, by omega, by go_num, hset2⟩
    | succ g1 =>
      obtain ⟨i, hi⟩ : ∃ i, i = 64 * k := ⟨_, rfl⟩
      have HIK := hide hi
      have hlt : (i : Int) < (L : Int) := by omega
      have hsl := fun W => slice_64 (some ⟨g, 0, none⟩) g L c4 i rfl (by omega) hc4 W
      have hbs : Hid (Bs wr g (0 + i) (((msg ys).drop (64 * k)).take 64) ∧ g < wr.heap.size) := by
        rcases HR.out.own.bs with h | ⟨g', e, _, h2, h3⟩
        · have := HL.out; omega
        · simp only [Option.some.injEq, Addr.mk.injEq, and_true] at e
          subst e
          refine ⟨fun j hj => ?_, h2⟩
          have hjl : j < 64 := by simp at hj; omega
          have := h3 (64 * k + j) (by simp at hj; omega)
          rw [show 0 + i + j = 0 + (64 * k + j) by omega, this]
          simp [List.getD, List.getElem?_drop, hjl]
      have hbl : (((msg ys).drop (64 * k)).take 64).length = 64 := by simp; have := HL.out; omega
      have hby : By (((msg ys).drop (64 * k)).take 64) := (HY.out.drop _).take _
      have HBC := hide (fun m => block_c g (0 + i) (c4 - i) _ (blks (msg ys) k) _ (wr.drewN m) (blks_ok _ _) hbs.out.1 hby hbl hbs.out.2 (wds hby))
      rw [← hi]
      have HNX := hide (show blks (msg ys) (k + 1) = add5 (blks (msg ys) k) (rnds (wF (((msg ys).drop (64 * k)).take 64)) 80 (blks (msg ys) k)) from rfl)
      rw [← HNX.out] at HBC
      have HI2 := hide (info5w (blks (msg ys) (k + 1)))
      clear hbs hbl hby hi hNB
      obtain ⟨S, hS⟩ : ∃ S, S = blks (msg ys) k := ⟨_, rfl⟩
      obtain ⟨S2, hS2⟩ : ∃ S2, S2 = blks (msg ys) (k + 1) := ⟨_, rfl⟩
      have HST : Hid (wr.heap[w.heap.size + 1]? = some (.cells (stA S) 80 (0, 0))) := by rw [hS]; exact HR.out.st
      rw [← hS, ← hS2] at HBC
      rw [← hS2] at HI2
      have HS2 := hide hS2
      have c0 : wr.cell? ⟨w.heap.size + 1, 0, none⟩ = some (.int .u32 (S.a : Int)) := cells_of HST.out 0
      have c1 : wr.cell? ⟨w.heap.size + 1, 1, none⟩ = some (.int .u32 (S.b : Int)) := cells_of HST.out 1
      have c2 : wr.cell? ⟨w.heap.size + 1, 2, none⟩ = some (.int .u32 (S.c : Int)) := cells_of HST.out 2
      have c3 : wr.cell? ⟨w.heap.size + 1, 3, none⟩ = some (.int .u32 (S.d : Int)) := cells_of HST.out 3
      have c4' : wr.cell? ⟨w.heap.size + 1, 4, none⟩ = some (.int .u32 (S.e : Int)) := cells_of HST.out 4
      have HBD : Hid (Calls Tryd.prog 52 #[.agg #[.int .u32 (S.a : Int), .int .u32 (S.b : Int), .int .u32 (S.c : Int), .int .u32 (S.d : Int), .int .u32 (S.e : Int)], .slice (some ⟨g, i, none⟩) 64 (c4 - i)] wr.drew fun e w' => e = .returned (.agg #[.int .u32 (S2.a : Int), .int .u32 (S2.b : Int), .int .u32 (S2.c : Int), .int .u32 (S2.d : Int), .int .u32 (S2.e : Int)]) ∧ Below wr.heap.size wr.drew w') := by
        have := HBC.out 1
        rw [Nat.zero_add] at this
        exact this
      have l1 := lt_of_block' HST.out
      clear hS hS2 HNX HBC
      have hw64 : IntKind.i64.wrap ((i : Int) + 64) = (i : Int) + 64 := by rw [IntKind.wrap_i64]; omega
      go_upto_region 6 with fail
      go_region_with ((go_at_call 52; refine HBD.out.mono ?_; rintro e w5 ⟨rfl, k5⟩; have B5 := hide k5; have H5 := hide ((k5.block _ l1).trans HST.out); have d0 := cells_of H5.out 0; have d1 := cells_of H5.out 1; have d2 := cells_of H5.out 2; have d3 := cells_of H5.out 3; have d4 := cells_of H5.out 4; have f0 := free_of H5.out 0; have f1 := free_of H5.out 1; have f2 := free_of H5.out 2; have f3 := free_of H5.out 3; have f4 := free_of H5.out 4; simp only [stA] at d0 d1 d2 d3 d4; clear k5))
      all_goals (have HZ := hide (HR.out.next (k := k) h22 (⟨B5.out.os, B5.out.tape, B5.out.output, B5.out.size, B5.out.block⟩ : Below wr.heap.size wr w5) (five_kept w5 (w.heap.size + 1) S2) (by rw [five_set H5.out, HS2.out])); unfold five at HZ; clear d0 d1 d2 d3 d4 f0 f1 f2 f3 f4 H5)
      all_goals go_wp2_with fail
      all_goals (go_roundg g1; (case measure => omega); (case rel => exact ⟨k + 1, by omega, by have := HIK.out; go_num, HZ⟩))
theorem rsum_c (a : Option Addr) (cap : Nat) (ys : List Nat) (w : World) (hy : By ys) (hb : TextAt w a ys) (hnone : a = none → ys.length = 0 ∧ cap = 0) (hl : ys.length ≤ 140737488351232) :
    Calls Tryd.prog 42 #[.slice a ys.length cap] w fun e w' => e = .returned (.agg (oA (sum ys) 20)) ∧ Below w.heap.size w w' := rsum_big a cap ys w hy hb hnone (by omega)
end Go.Proofs.YtgamfpgejkhbcaaDoor.S
