/- The reference's message: contract. -/
import Derived.Test.YtgafejgmjenfaaaSOwn
namespace Go.Proofs.Ytgafejgmjenfaaa.S
set_option maxRecDepth 100000
open Go Go.RowKit

/-- Eight bytes of which the last j are laid. -/
def tF (v j i : Nat) : Nat := if 8 ≤ i + j then v / 256 ^ (7 - i) % 256 else 0
def tA (v j : Nat) : Array Value := fA .u8 8 (tF v j) 8
theorem tA_zero (v : Nat) : tA v 0 = Array.replicate 8 (.int .u8 0) := by
  rw [← fA_zero .u8 8 (tF v 0), tA]
  apply Array.ext_getElem?
  intro i
  by_cases hi : i < 8
  · rw [fA_at .u8 _ hi hi, fA_get .u8 _ hi, tF, if_neg (by omega), if_neg (by omega)]
  · rw [Array.getElem?_eq_none (by rw [fA_size]; omega), Array.getElem?_eq_none (by rw [fA_size]; omega)]
theorem tA_set {v j : Nat} (hj : j < 8) : (tA v j).setIfInBounds (7 - j) (.int .u8 ((v / 256 ^ j % 256 : Nat) : Int)) = tA v (j + 1) := by
  apply Array.ext_getElem?
  intro i
  rw [Array.getElem?_setIfInBounds]
  by_cases hi : i < 8
  · rw [tA, tA, fA_size, fA_at .u8 _ hi hi, fA_at .u8 _ hi hi]
    by_cases e : 7 - j = i
    · rw [if_pos e, if_pos (by omega), tF, if_pos (by omega), show 7 - i = j by omega]
    · rw [if_neg e]
      unfold tF
      by_cases h1 : 8 ≤ i + j
      · rw [if_pos h1, if_pos (by omega)]
      · rw [if_neg h1, if_neg (by omega)]
  · rw [if_neg (by omega), tA, tA, Array.getElem?_eq_none (by rw [fA_size]; omega), Array.getElem?_eq_none (by rw [fA_size]; omega)]
theorem tA_be (v i : Nat) (hi : i < 8) : (tA v 8)[i]? = some (.int .u8 ((be8 v).getD i 0 : Nat)) := by
  rw [tA, fA_at .u8 _ hi hi, tF, if_pos (by omega)]
  simp [be8, hi]
theorem zeroU8 : ∀ w, (zeroValue 5).run Try.prog w = .ok (.int .u8 0) w := (zero_of_info (n := 1) (by kernel_rfl)).1
def mid (ys : List Nat) (j : Nat) : List Nat := ys ++ 128 :: List.replicate j 0
theorem mid_length (ys : List Nat) (j : Nat) : (mid ys j).length = ys.length + 1 + j := by simp [mid]; omega
theorem mid_push (ys : List Nat) (j : Nat) : mid ys j ++ [0] = mid ys (j + 1) := by simp [mid, List.replicate_succ']
theorem mid_msg (ys : List Nat) : mid ys (zs ys.length) ++ be8 (8 * ys.length % 18446744073709551616) = msg ys := by simp [mid, msg, ending]
theorem made_full (n : Nat) (hn : n ≤ 16777216) (W : World) :
    (Instr.makeSlice 22 (.int .i64 (n : Int)) (.int .i64 (n : Int))).run Try.prog W = .ok (.slice (some ⟨W.heap.size, 0, none⟩) n n) (W.alloc (.cells (fA .u8 n (fun _ => 0) 0) 5)) := by
  obtain ⟨i, hi, hz, hs, hb⟩ := info_parts infoB
  have h := run_makeSlice (P := Try.prog) W 22 5 i (.int .u8 0) Try.underlying22 hi hz .i64 .i64 (n : Int) (n : Int) (by omega) (by omega) (by rw [hs]; simpa using hn) (by rw [hb]; omega) (by omega)
  rw [h, hs, fA_zero, Int.toNat_natCast, Nat.mul_one]
  have e : madeCells (Value.int .u8 0).cells n = Array.replicate n (.int .u8 0) := by
    have := toList_madeCells_one (Value.int .u8 0) n
    rw [← Array.toList_inj]
    simpa [Value.cells] using this
  rw [e]
/-- What message answers. -/
def QMsg (ys : List Nat) (w : World) (e : Ending) (w' : World) : Prop := ∃ v, e = .returned v ∧ OwnsB w' w.heap.size v (msg ys) ∧ Below w.heap.size w w'

set_option maxHeartbeats 4000000 in
theorem message_c (a : Option Addr) (cap : Nat) (ys : List Nat) (w : World) (hb : TextAt w a ys) (hnone : a = none → ys.length = 0 ∧ cap = 0) (hl : ys.length ≤ 140737488351360) :
    Calls Try.prog 19 #[.slice a ys.length cap] w (QMsg ys w) := by
  have HB := hide hb
  have HNN := hide hnone
  have hz8 := zeroU8
  obtain ⟨N, hN⟩ : ∃ N, N = ys.length := ⟨_, rfl⟩
  have HN := hide hN
  rw [← hN] at hl HNN ⊢
  clear hb hnone hN
  have E0 := hide (OwnsB.empty w w.heap.size (Nat.le_refl _))
  have BE := hide ((Below.refl _ w).alloc (Nat.le_refl _) (.cells #[] 5) : Below w.heap.size w _)
  go_enter Try.func19, Try.ntmps19
  go_upto_region 2 with (refine wpList_appB _ rfl (.tmp 7) (.tmp 8) rfl w.heap.size (.slice (some ⟨w.heap.size, 0, none⟩) 0 0) [] (by rfl) E0.out a N cap (by rfl) ys ys (by rfl) HN.out.symm (HB.out.below ((Below.refl _ w).alloc (Nat.le_refl _) _)) HNN.out (by simp; omega) (by simp) ?_; intro v3 w1 h1 k1; have O1 := hide h1; have B1 := hide (growB E0.out BE.out k1); clear h1 k1)
  have hs1 := B1.out.size
  go_wp2_with (refine wpList_appB _ rfl (.tmp 10) (.tmp 11) rfl w.heap.size v3 ys (by rfl) (World.ownsRow.alloc O1.out _) (some ⟨w1.heap.size, 0, none⟩) 1 1 (by rfl) [128] (mid ys 0) (by rfl) rfl (one_byte w1 128) (fun e => by cases e) (by rw [← HN.out]; omega) (by simp; omega) ?_; intro v4 w2 h2 k2; have O2 := hide h2; have B2 := hide (growB (World.ownsRow.alloc O1.out _) (B1.out.alloc hs1 _) k2); clear h2 k2)
  clear E0 BE O1 B1 hs1
  have hzl := zs_lt N
  go_loopg [3] (zs N) (fun gk u3 wx => ∃ j : Nat, j + gk = zs N ∧ Hid (OwnsB wx w.heap.size u3 (mid ys j)) ∧ Hid (Below w.heap.size w wx))
  case atStart => exact ⟨0, by omega, O2, B2⟩
  case round =>
    obtain ⟨j, hjg, OX, BX⟩ := hrel
    clear O2 B2
    obtain ⟨a3, c3, rfl, hc3, hm3, hn3⟩ := OX.out.form
    have hml : (mid ys j).length = N + 1 + j := by rw [mid_length, HN.out]
    have hsx := BX.out.size
    rw [hml] at OX hc3 hn3 ⊢
    obtain ⟨r, hr⟩ : ∃ r : Nat, ((N + 1 + j : Nat) : Int).tmod 64 = (r : Int) ∧ r = (N + 1 + j) % 64 := ⟨(N + 1 + j) % 64, by rw [Int.tmod_eq_emod_of_nonneg (by omega)]; omega, rfl⟩
    obtain ⟨hr1, hr2⟩ := hr
    have hr3 : ((N + 1 + j : Nat) : Int) % 64 = (r : Int) := by omega
    cases gk with
    | zero =>
      have hre : r = 56 := by rw [hr2, show j = zs N by omega, zs]; omega
      subst hre
      obtain rfl : j = zs N := by omega
      have hv : (N : Int) * 8 = ((8 * N % 18446744073709551616 : Nat) : Int) := by omega
      obtain ⟨v, hvd⟩ : ∃ v, v = 8 * N % 18446744073709551616 := ⟨_, rfl⟩
      have HV := hide hvd
      rw [← hvd] at hv
      have hvl : v < 18446744073709551616 := by omega
      obtain ⟨M, hM, hMl⟩ : ∃ M, M = N + 1 + zs N ∧ M ≤ 140737488351425 := ⟨_, rfl, by omega⟩
      rw [← hM] at OX hc3 hn3 hr1 hr3 ⊢
      have HM := hide hM
      clear hvd hM hml hr2
      have hmk : (Instr.makeSlice 22 (.int .i64 8) (.int .i64 8)).run Try.prog wr = .ok (.slice (some ⟨wr.heap.size, 0, none⟩) 8 8) (wr.alloc (.cells (fA .u8 8 (fun _ => 0) 0) 5)) := made_full 8 (by omega) wr
      have HT0 := hide (heap_new wr (.cells (fA .u8 8 (fun _ => 0) 0) 5))
      have HB0 := hide (BX.out.alloc hsx (.cells (fA .u8 8 (fun _ => 0) 0) 5))
      have OX0 := hide (World.ownsRow.alloc OX.out (.cells (fA .u8 8 (fun _ => 0) 0) 5) : OwnsB _ w.heap.size _ _)
      go_wp2_with fail
      generalize wr.alloc (.cells (fA .u8 8 (fun _ => 0) 0) 5) = w5 at HT0 HB0 OX0 ⊢
      have HT : Hid (w5.heap[wr.heap.size]? = some (.cells (tA v 0) 5 (0, 0))) := by rw [tA_zero, ← fA_zero .u8 8 (fun _ => 0)]; exact HT0
      have HGO := hide (fun g (hg : (Value.slice a3 M c3).ownBlock = some g) => (ownsRow_lt OX.out hg).2)
      clear HT0 hmk
      obtain ⟨G, hG⟩ : ∃ G, G = wr.heap.size := ⟨_, rfl⟩
      rw [← hG] at HT HGO hsx ⊢
      clear hG OX BX
      go_loopg [4, 6] 8 (fun gk u4 u6 wx => ∃ j : Nat, j + gk = 8 ∧ u4 = .int .u64 ((v / 256 ^ j : Nat) : Int) ∧ u6 = .int .i64 (7 - (j : Int)) ∧ Hid (wx.heap[G]? = some (.cells (tA v j) 5 (0, 0))) ∧ Hid (Kept (fun k => k = G) w5 wx))
      case atStart => exact ⟨0, by omega, by simp, rfl, HT, Kept.refl _ _⟩
      case round =>
        obtain ⟨j, hj8, rfl, rfl, HX, KX⟩ := hrel
        cases gk with
        | zero =>
          obtain rfl : j = 8 := by omega
          have hneg : ¬ (0 : Int) ≤ 7 - ((8 : Nat) : Int) := by omega
          have hneg2 : (7 : Int) - ((8 : Nat) : Int) < 0 := by omega
          have OK : Hid (OwnsB wr w.heap.size (.slice a3 M c3) (mid ys (zs N))) := ownsRow_kept OX0.out KX.out (fun g hg e => by have := HGO.out g hg; omega)
          have BK : Hid (Below w.heap.size w wr) := HB0.out.trans (KX.out.below HB0.out.size (fun i hi e => by omega))
          have TK : Hid (TextAt wr (some ⟨G, 0, none⟩) (be8 v)) := .inr ⟨G, 0, rfl, lt_of_block HX.out, fun i hi => by rw [be8_length] at hi; rw [Nat.zero_add, cells_of HX.out, tA_be v i hi]⟩
          have hbk := BK.out.size
          have HMS : Hid (mid ys (zs N) ++ be8 v = msg ys) := by rw [HV.out, HN.out]; exact mid_msg ys
          go_wp2_with (refine wpList_appB _ rfl (.tmp 37) (.tmp 38) rfl w.heap.size (.slice a3 M c3) (mid ys (zs N)) (by rfl) OK.out (some ⟨G, 0, none⟩) 8 8 (by rfl) (be8 v) (msg ys) HMS.out (be8_length v) TK.out (fun e => by cases e) (by rw [mid_length, ← HN.out]; omega) hbk ?_; intro v6 w6 h6 k6; have O6 := hide h6; have B6 := hide (growB OK.out BK.out k6); clear h6 k6)
          go_ret
          exact ⟨v6, rfl, O6.out, B6.out⟩
        | succ g1 =>
          obtain ⟨i, hi⟩ : ∃ i : Nat, 7 - (j : Int) = (i : Int) := ⟨7 - j, by omega⟩
          have hpos : (0 : Int) ≤ (i : Int) := by omega
          have hi8 : (i : Int) < 8 := by omega
          have hij : 7 - j = i := by omega
          have hc := (cells_of HX.out i).trans (fA_at .u8 _ (show i < 8 by omega) (show i < 8 by omega))
          have hf := free_of HX.out i
          have HD := hide (show v / 256 ^ j / 256 = v / 256 ^ (j + 1) by rw [Nat.div_div_eq_div_mul, ← Nat.pow_succ])
          have hset : Hid ((wr.setCell ⟨G, i, none⟩ (.int .u8 ((v / 256 ^ j % 256 : Nat) : Int))).heap[G]? = some (.cells (tA v (j + 1)) 5 (0, 0))) := by
            rw [set_of HX.out, ← hij, tA_set (by omega)]; exact rfl
          have hDl : v / 256 ^ j < 18446744073709551616 := Nat.lt_of_le_of_lt (Nat.div_le_self _ _) hvl
          generalize v / 256 ^ j = D at hset HD hDl ⊢
          have m1 : (D : Int).tmod 256 = ((D % 256 : Nat) : Int) := by rw [Int.tmod_eq_emod_of_nonneg (by omega)]; omega
          have m2 : (D : Int) % 256 = ((D % 256 : Nat) : Int) := by omega
          have m3 : (D : Int).tdiv 256 = ((D / 256 : Nat) : Int) := by rw [Int.tdiv_eq_ediv_of_nonneg (by omega)]; omega
          have m4 : (D : Int) / 256 = ((D / 256 : Nat) : Int) := by omega
          have hq : D % 256 < 256 := by omega
          generalize D % 256 = Q at hset m1 m2 hq
          rw [HD.out] at m3 m4
          obtain ⟨D2, hD2⟩ : ∃ D2, D2 = v / 256 ^ (j + 1) := ⟨_, rfl⟩
          have HD2 := hide hD2
          rw [← hD2] at m3 m4
          rw [hi]
          have hnx : (i : Int) - 1 = 7 - ((j + 1 : Nat) : Int) := by omega
          have HNX := hide hnx
          have hK : Hid (Kept (fun k => k = G) w5 (wr.setCell ⟨G, i, none⟩ (.int .u8 (Q : Int)))) := KX.out.setCell (p := ⟨G, i, none⟩) (fun _ => rfl) _
          clear HD hD2 hnx hi hij
          go_wp2_with fail
          go_roundg g1
          case measure => omega
          case rel => exact ⟨j + 1, by omega, by rw [HD2.out], by rw [HNX.out], hset, hK⟩
    | succ g1 =>
      have hne : r ≠ 56 := by
        rw [hr2]
        have : zs N = (119 - N % 64) % 64 := rfl
        omega
      have hne2 : ((r : Int) == 56) = false := by simp; omega
      have hne3 : ¬ (r : Int) = 56 := by omega
      obtain ⟨M, hM⟩ : ∃ M, M = N + 1 + j := ⟨_, rfl⟩
      rw [← hM] at OX hc3 hn3 hr1 hr3 ⊢
      have HM := hide hM
      clear hM hml hr2
      go_wp2_with (refine wpList_appB _ rfl (.tmp 17) (.tmp 18) rfl w.heap.size (.slice a3 M c3) (mid ys j) (by rfl) (World.ownsRow.alloc OX.out _) (some ⟨wr.heap.size, 0, none⟩) 1 1 (by rfl) [0] (mid ys (j + 1)) (mid_push ys j) rfl (one_byte wr 0) (fun e => by cases e) (by rw [mid_length, ← HN.out]; omega) (by simp; omega) ?_; intro v4 w2 h2 k2; have O2 := hide h2; have B2 := hide (growB (World.ownsRow.alloc OX.out _) (BX.out.alloc hsx _) k2); clear h2 k2)
      go_roundg g1
      case measure => omega
      case rel => exact ⟨j + 1, by omega, O2, B2⟩
end Go.Proofs.Ytgafejgmjenfaaa.S
