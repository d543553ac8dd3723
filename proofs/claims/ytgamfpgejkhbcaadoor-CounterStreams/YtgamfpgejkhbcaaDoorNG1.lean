/- What a key makes of data, over lists of numbers. No Go text in sight. The program's written: contract. The program's Stream: contracts. -/
import Derived.Test.YtgamfpgejkhbcaaDoorKKey
import Derived.Test.YtgamfpgejkhbcaaDoorCEnc
import Derived.Test.YtgamfpgejkhbcaaDoorCNew
namespace Go.Proofs.YtgamfpgejkhbcaaDoor.K
set_option maxRecDepth 100000
open Go Go.RowKit

/-- Byte i of a number, the lowest first. -/
def wrB (m i : Nat) : Nat := m / 256 ^ i % 256
theorem wrB_lt (m i : Nat) : wrB m i < 256 := Nat.mod_lt _ (by decide)
theorem wrB_by (m : Nat) : By16 (wrB m) := fun i _ => wrB_lt m i
theorem wrB_low (m i : Nat) : m / 256 ^ i / 256 = m / 256 ^ (i + 1) := by rw [Nat.div_div_eq_div_mul, ← Nat.pow_succ]
theorem lt_of_div {m n : Nat} (h : m / 256 ^ n = 0) : m < 256 ^ n := by
  rcases Nat.lt_or_ge m (256 ^ n) with h' | h'
  · exact h'
  · have : 1 ≤ m / 256 ^ n := (Nat.le_div_iff_mul_le (Nat.pow_pos (by decide))).2 (by omega)
    omega
theorem wrB_end {m n : Nat} (h : m / 256 ^ n = 0) {i : Nat} (hi : n ≤ i) : wrB m i = 0 := by
  have : m < 256 ^ i := Nat.lt_of_lt_of_le (lt_of_div h) (Nat.pow_le_pow_right (by decide) hi)
  rw [wrB, Nat.div_eq_of_lt this]
/-- Byte i of what a key makes of the numbers from 1 on. -/
def msk (kk : Nat → Nat → Nat) (R i : Nat) : Nat := enc kk R (wrB (i / 16 + 1)) R (i % 16)
theorem msk_lt {kk : Nat → Nat → Nat} {R : Nat} (h : ∀ r, r ≤ R → By16 (kk r)) (i : Nat) : msk kk R i < 256 := enc_by h (wrB_by _) R (Nat.le_refl _) _ (Nat.mod_lt _ (by decide))
theorem msk_at (kk : Nat → Nat → Nat) (R j : Nat) {i : Nat} (hi : i < 16) : enc kk R (wrB (j + 1)) R i = msk kk R (16 * j + i) := by
  rw [msk, show (16 * j + i) / 16 = j by omega, show (16 * j + i) % 16 = i by omega]
/-- The first n bytes of data, each xored with what stands at its place. -/
def strP (g : Nat → Nat) (xs : List Nat) (n : Nat) : List Nat := (List.range n).map fun i => xs.getD i 0 ^^^ g i
def strL (g : Nat → Nat) (xs : List Nat) : List Nat := strP g xs xs.length
theorem strP_length (g : Nat → Nat) (xs : List Nat) (n : Nat) : (strP g xs n).length = n := by simp [strP]
theorem strL_length (g : Nat → Nat) (xs : List Nat) : (strL g xs).length = xs.length := strP_length _ _ _
theorem strP_push (g : Nat → Nat) (xs : List Nat) (n : Nat) : strP g xs n ++ [xs.getD n 0 ^^^ g n] = strP g xs (n + 1) := by simp [strP, List.range_succ]
theorem strP_at (g : Nat → Nat) (xs : List Nat) {n i : Nat} (h : i < n) : (strP g xs n).getD i 0 = xs.getD i 0 ^^^ g i := by simp [strP, h]
theorem strL_by {g : Nat → Nat} {xs : List Nat} (hx : By xs) (hg : ∀ i, g i < 256) : By (strL g xs) := fun y hy => by
  simp only [strL, strP, List.mem_map, List.mem_range] at hy
  obtain ⟨i, _, rfl⟩ := hy
  exact xor_lt8 (hx.getD i) (hg i)
theorem ext_getD {xs ys : List Nat} (hl : xs.length = ys.length) (h : ∀ i, i < xs.length → xs.getD i 0 = ys.getD i 0) : xs = ys := by
  apply List.ext_getElem hl
  intro i h1 h2
  have := h i h1
  simpa [List.getD, h1, h2] using this
theorem strL_twice (g : Nat → Nat) (xs : List Nat) : strL g (strL g xs) = xs := by
  apply ext_getD (by rw [strL_length, strL_length])
  intro i hi
  rw [strL_length, strL_length] at hi
  rw [show (strL g (strL g xs)).getD i 0 = (strL g xs).getD i 0 ^^^ g i from strP_at _ _ (by rw [strL_length]; exact hi), show (strL g xs).getD i 0 = xs.getD i 0 ^^^ g i from strP_at _ _ hi, Nat.xor_assoc, Nat.xor_self, Nat.xor_zero]
theorem strL_take (g : Nat → Nat) (xs : List Nat) {n : Nat} (h : n ≤ xs.length) : strL g (xs.take n) = (strL g xs).take n := by
  have hn : (xs.take n).length = n := by rw [List.length_take]; omega
  apply ext_getD (by rw [strL_length, hn, List.length_take, strL_length]; omega)
  intro i hi
  rw [strL_length, hn] at hi
  rw [show (strL g (xs.take n)).getD i 0 = (xs.take n).getD i 0 ^^^ g i from strP_at _ _ (by rw [hn]; exact hi)]
  have e : ∀ l : List Nat, (l.take n).getD i 0 = l.getD i 0 := fun l => by simp [List.getD, hi]
  rw [e, e, show (strL g xs).getD i 0 = xs.getD i 0 ^^^ g i from strP_at _ _ (by omega)]
end Go.Proofs.YtgamfpgejkhbcaaDoor.K
namespace Go.Proofs.YtgamfpgejkhbcaaDoor.K
set_option maxRecDepth 100000
open Go Go.RowKit

theorem wrB_done {m n : Nat} (h : m / 256 ^ n = 0) : cA (wrB m) n = cA (wrB m) 16 := by
  unfold cA fA
  congr 1
  apply List.map_congr_left
  intro i hi
  have hi' : i < 16 := by simpa using hi
  rw [if_pos hi']
  by_cases hn : i < n
  · rw [if_pos hn]
  · rw [if_neg hn, wrB_end h (by omega)]
/-- What stands in memory while a number is written. -/
structure WrS (w : World) (m t : Nat) (wx : World) : Prop where
  res : wx.heap[w.heap.size]? = some (.cells (cA (wrB m) 0) 39 (0, 0))
  out : wx.heap[w.heap.size + 1]? = some (.cells (cA (wrB m) t) 39 (0, 0))
  bel : Below w.heap.size w wx
theorem WrS.set {w : World} {m t : Nat} {wx : World} (h : WrS w m t wx) (ht : t < 16) : WrS w m (t + 1) (wx.setCell ⟨w.heap.size + 1, t, none⟩ (.int .u8 (wrB m t : Nat))) :=
  ⟨(set_other (by omega)).trans h.res, by rw [set_of h.out, cA_set _ ht], h.bel.setCell (p := ⟨w.heap.size + 1, t, none⟩) (by show w.heap.size ≤ w.heap.size + 1; omega) _⟩
theorem shr8 (m : Nat) : (m : Int) / 256 = ((m / 256 : Nat) : Int) := by omega

set_option maxHeartbeats 8000000 in
theorem written_c (m : Nat) (w : World) (hm : m < 18446744073709551616) :
    Calls Tryd.prog 19 #[.int .u64 (m : Int)] w fun e w' => e = .returned (.agg (cA (wrB m) 16)) ∧ Below w.heap.size w w' := by
  have hz : ∀ w, (zeroValue 39).run Tryd.prog w = .ok (.agg (cA (wrB m) 0)) w := (zero16 _).1
  obtain ⟨q0, q1⟩ := heap2w w (.cells (cA (wrB m) 0) 39) (.cells (cA (wrB m) 0) 39)
  have M0 : Hid (WrS w m 0 ((w.alloc (.cells (cA (wrB m) 0) 39)).alloc (.cells (cA (wrB m) 0) 39))) := ⟨q0, q1, ((Below.refl _ w).alloc (Nat.le_refl _) _).alloc (by simp) _⟩
  have HI := hide (info16 (wrB m) 16)
  have HM := hide hm
  clear q0 q1 hm
  go_enter Tryd.func19, Tryd.ntmps19
  go_wp2_with fail
  generalize (w.alloc _).alloc _ = wz at M0 ⊢
  go_loopg [0, 4] 8 (fun gk u0 u4 wx => ∃ n : Nat, n + gk = 8 ∧ u4 = .int .i64 n ∧ u0 = .int .u64 ((m / 256 ^ n : Nat) : Int) ∧ Hid (WrS w m n wx))
  case atStart => exact ⟨0, by omega, rfl, by rw [Nat.pow_zero, Nat.div_one], M0⟩
  case round =>
    obtain ⟨n, hng, rfl, rfl, EX⟩ := hrel
    clear M0
    by_cases h0 : m / 256 ^ n = 0
    · have X0 := hide EX.out.out
      rw [wrB_done h0] at X0
      have X1 := hide EX.out.res
      have XB := hide EX.out.bel
      rw [h0]
      clear EX h0
      have hnot : ¬ (0 : Int) < ((0 : Nat) : Int) := by omega
      have HS := hide (show (cA (wrB m) 0).size = (cA (wrB m) 16).size by rw [cA_size, cA_size])
      have HO := hide (cA_one (wrB m) 16)
      generalize cA (wrB m) 0 = oz at X1 HS
      obtain ⟨oc, hoc⟩ : ∃ oc, oc = cA (wrB m) 16 := ⟨_, rfl⟩
      have HOC := hide hoc
      rw [← hoc] at X0 HI HS HO
      clear hoc
      go_wp2_with (first
        | (refine wpList_load_row rfl 39 (.tmp 3) rfl (w.heap.size + 1) (by rfl) oc 39 (0, 0) X0.out _ Tryd.underlying39 rfl HI.out ?_)
        | (refine wpList_store_row rfl 39 (.tmp 2) (.tmp 15) rfl w.heap.size oc (by rfl) (by rfl) oz 39 X1.out HI.out HS.out HO.out ?_; intro w6 G6 K6))
      have hld : (loadVar 39 ⟨w.heap.size, 0, none⟩).run Tryd.prog w6 = .ok (.agg oc) w6 :=
        run_loadVar_row _ _ 39 39 oc (0, 0) _ G6.out Tryd.underlying39 rfl HI.out
      refine bodyPost_ret (v := .agg oc) ?_ rfl ⟨by rw [HOC.out], XB.out.trans (K6.out.below XB.out.size (fun i hi e => by omega))⟩
      simp [results, asAddr, hld]
    · have hn8 : n < 8 := by
        rcases Nat.lt_or_ge n 8 with h | h
        · exact h
        · exact absurd (Nat.div_eq_of_lt (Nat.lt_of_lt_of_le HM.out (show 18446744073709551616 ≤ 256 ^ n from Nat.le_trans (by decide) (Nat.pow_le_pow_right (by decide) h)))) h0
      cases gk with
      | zero => omega
      | succ g1 =>
      have hn16 : n < 16 := by omega
      have fb := free_of EX.out.out n
      have cb := (cells_of EX.out.out n).trans (fA_not .u8 (wrB m) hn16)
      have hset := hide (EX.out.set hn16)
      have HL := hide (wrB_low m n)
      have hw : Hid (wrB m n = m / 256 ^ n % 256) := rfl
      have hlt : m / 256 ^ n < 18446744073709551616 := Nat.lt_of_le_of_lt (Nat.div_le_self _ _) HM.out
      generalize wrB m n = Z at hset hw
      obtain ⟨V2, hV2⟩ : ∃ V2, V2 = m / 256 ^ (n + 1) := ⟨_, rfl⟩
      have HVE := hide hV2
      rw [← hV2] at HL
      clear hV2
      generalize m / 256 ^ n = V at HL h0 hw hlt ⊢
      have hpos : (0 : Int) < (V : Int) := by omega
      have hZ : (V : Int) % 256 = (Z : Int) := by rw [hw.out]; omega
      have hV : (V : Int) / 256 = (V2 : Int) := by rw [← HL.out]; omega
      have n0 : (0 : Int) ≤ (n : Int) := by omega
      have nl : (n : Int) < 16 := by omega
      clear hn8 hn16 HM
      go_wp2_with fail
      go_roundg g1
      case measure => omega
      case rel => exact ⟨n + 1, by omega, by go_num, by rw [← HVE.out], hset⟩
end Go.Proofs.YtgamfpgejkhbcaaDoor.K
namespace Go.Proofs.YtgamfpgejkhbcaaDoor.K
set_option maxRecDepth 100000
open Go Go.RowKit

/-- An element of an array of sixteen bytes, by value. -/
theorem index16 (f : Nat → Nat) (k : IntKind) {i : Nat} (hi : i < 16) (W : World) : (Instr.index 39 (.agg (cA f 16)) (.int k (i : Int))).run Tryd.prog W = .ok (.int .u8 (f i : Nat)) W := by
  have h0 : (0 : Int) ≤ (i : Int) ∧ (i : Int) < ((16 : Nat) : Int) := by omega
  have hc := cA_at f hi
  have hs := size5 W
  simp [Instr.index, run_underlying Tryd.underlying39, asIntOf, h0, go_sem, hs]
  rw [if_pos hi, hc]
  rfl
theorem made_room (n : Nat) (hn : n ≤ 140737488355328) (W : World) :
    (Instr.makeSlice 22 (.int .i64 0) (.int .i64 (n : Int))).run Tryd.prog W = .ok (.slice (some ⟨W.heap.size, 0, none⟩) 0 n) (W.alloc (.cells (Array.replicate n (.int .u8 0)) 5)) := by
  obtain ⟨i, hi, hz, hs, hb⟩ := info_parts infoB
  have := run_make (P := Tryd.prog) W 22 5 i (.int .u8 0) Tryd.underlying22 hi hz .i64 .i64 0 n (by omega) (by omega) (by rw [hb]; omega) (by omega)
  rw [this, hs]
  have e2 : madeCells (Value.int .u8 0).cells n = Array.replicate n (.int .u8 0) := by
    have := toList_madeCells_one (Value.int .u8 0) n
    rw [← Array.toList_inj]
    simpa [Value.cells] using this
  rw [Int.toNat_natCast, Nat.mul_one, e2]
  rfl
theorem room_owns (n : Nat) (hn : n ≤ 140737488355328) (W : World) (base : Nat) (hb : base ≤ W.heap.size) : OwnsB (W.alloc (.cells (Array.replicate n (.int .u8 0)) 5)) base (.slice (some ⟨W.heap.size, 0, none⟩) 0 n) [] :=
  ⟨by simp [bV], .inr ⟨W.heap.size, n, _, rfl, hb, heap_new W _, Nat.zero_le _, by unfold maxLen; omega, by simp, by simp [bV]⟩⟩
/-- What Stream answers: a row of one's own. -/
def StrOk (zs : List Nat) (w : World) (e : Ending) (w' : World) : Prop := ∃ v, e = .returned (.tuple #[v, .int .i64 0]) ∧ OwnsB w' w.heap.size v zs ∧ Below w.heap.size w w'
theorem stream_no (a : Option Addr) (len cap : Nat) (d : Value) (w : World) (hn : len ≠ 16 ∧ len ≠ 24 ∧ len ≠ 32) :
    Calls Tryd.prog 11 #[.slice a len cap, d] w fun e w' => e = .returned (.tuple #[.slice none 0 0, .int .i64 120]) ∧ w' = w := by
  have HN := hide (new_no a len cap w hn)
  clear hn
  go_enter Tryd.func11, Tryd.ntmps11
  go_wp2_with fail
  go_step3
  go_wp2_with (go_at_call 17; refine HN.out.mono ?_; rintro e w1 ⟨rfl, hw⟩; subst hw; clear HN)
  simp only [Exit.noGoto]
  go_ret2
  exact ⟨rfl, rfl⟩

set_option maxHeartbeats 8000000 in
theorem stream_c (a : Addr) (cap n : Nat) (key : List Nat) (d : Option Addr) (dc : Nat) (xs : List Nat) (w : World) (hn : n = 4 ∨ n = 6 ∨ n = 8) (hkl : key.length = 4 * n) (hk : By key) (hkt : TextAt w (some a) key) (hcap : 4 * n ≤ cap) (hT : Tab w)
    (hx : By xs) (hxt : TextAt w d xs) (hxl : xs.length ≤ 140737488355300) :
    Calls Tryd.prog 11 #[.slice (some a) (4 * n : Nat) cap, .slice d xs.length dc] w (StrOk (strL (msk (kK key n) (n + 6)) xs) w) := by
  have HNW := hide (new_c a cap n key w hn hkl hk hkt hcap hT)
  have HT := hide hT
  have n1 : 4 ≤ n ∧ n ≤ 8 := by omega
  have HKB : Hid (∀ r, r ≤ n + 6 → By16 (kK key n r)) := fun r _ => kK_by hk (by omega) r
  have HML : Hid (∀ i, msk (kK key n) (n + 6) i < 256) := fun i => msk_lt HKB.out i
  have HAT : Hid (∀ j i, i < 16 → enc (kK key n) (n + 6) (wrB (j + 1)) (n + 6) i = msk (kK key n) (n + 6) (16 * j + i)) := fun j i hi => msk_at _ _ j hi
  obtain ⟨N, hN⟩ : ∃ N, N = xs.length := ⟨_, rfl⟩
  obtain ⟨G, hG⟩ : ∃ G, G = msk (kK key n) (n + 6) := ⟨_, rfl⟩
  have HD := hide hxt
  have HX := hide hx
  have HNL := hide hN
  have HG := hide hG
  rw [← hG] at HML HAT ⊢
  rw [← hN] at hxl
  rw [show strL G xs = strP G xs N from by rw [hN]; rfl, ← hN]
  obtain ⟨E, hE⟩ : ∃ E : Nat → Nat → Nat, E = fun j => enc (kK key n) (n + 6) (wrB (j + 1)) (n + 6) := ⟨_, rfl⟩
  have HBL : Hid (∀ (kb j : Nat) (W : World), KeyAt W kb (n + 6) (kK key n) → Tab W → Calls Tryd.prog 18 #[.pointer (some ⟨kb, 0, none⟩), .agg (cA (wrB (j + 1)) 16)] W fun e w' => e = .returned (.agg (cA (E j) 16)) ∧ Below W.heap.size W w') := by
    intro kb j W h1 h2
    rw [hE]
    exact block_p kb (n + 6) (kK key n) (wrB (j + 1)) W (by omega) (by omega) h1 HKB.out h2 (wrB_by _)
  replace HAT : Hid (∀ j i, i < 16 → E j i = G (16 * j + i)) := by rw [hE]; exact HAT.out
  obtain ⟨KK, hKK⟩ : ∃ KK, KK = kK key n := ⟨_, rfl⟩
  rw [← hKK] at HNW HBL
  have hmk := made_room N (by omega)
  clear hn hkl hk hkt hT hx hxt hN hG hE hKK HKB
  go_enter Tryd.func11, Tryd.ntmps11
  go_wp2_with fail
  go_step3
  go_wp2_with (go_at_call 17; refine HNW.out.mono ?_; rintro e w1 ⟨kb, hkb, rfl, hka, hb1⟩; have KA := hide hka; have B1 := hide hb1; clear HNW hka hb1)
  go_step3
  go_wp2_with fail
  rename_i KR hKR
  have hw1 := KA.out.lt
  have OX0 := hide (room_owns N (by omega) w1 w1.heap.size (Nat.le_refl _))
  have BX0 := hide ((Below.refl _ w1).alloc (Nat.le_refl _) (.cells (Array.replicate N (.int .u8 0)) 5) : Below w1.heap.size w1 _)
  have HT1 := hide (HT.out.stay B1.out)
  have hS0 : Hid (strP G xs (16 * 0) = []) := rfl
  generalize w1.alloc (.cells (Array.replicate N (.int .u8 0)) 5) = wz at OX0 BX0 ⊢
  go_loopg [8, 9] (N / 16) (fun gk u8 u9 wx => ∃ j M : Nat, j + gk = N / 16 ∧ M = 16 * j ∧ u9 = .int .u64 ((j : Int) + 1) ∧ ∃ ad cp, u8 = .slice ad M cp ∧ Hid (OwnsB wx w1.heap.size (.slice ad M cp) (strP G xs M)) ∧ Hid (Below w1.heap.size w1 wx))
  case atStart => exact ⟨0, 0, by omega, rfl, rfl, _, _, rfl, OX0, BX0⟩
  case round =>
    obtain ⟨j, M0, hjg, hM0, rfl, ad, cp, rfl, OX, BX⟩ := hrel
    clear OX0 BX0 hS0
    obtain ⟨W0, rfl⟩ : ∃ W, W = wr := ⟨wr, rfl⟩
    obtain ⟨g0, rfl⟩ : ∃ g, g = gk := ⟨gk, rfl⟩
    have HW := hide (show Calls Tryd.prog 19 #[.int .u64 ((j : Int) + 1)] W0 (fun e w' => e = .returned (.agg (cA (wrB (j + 1)) 16)) ∧ Below W0.heap.size W0 w') from by
      have := written_c (j + 1) W0 (by omega)
      push_cast at this
      exact this)
    have hM0N : M0 ≤ N := by omega
    have HM0 := hide hM0
    clear hM0
    go_upto_region 8 with (first
      | (go_at_call 19; refine HW.out.mono ?_; rintro e w2 ⟨rfl, b2⟩; have B2 := hide b2; clear b2 HW)
      | (go_at_call 18; refine (HBL.out kb j w2 ((KA.out.stay BX.out).stay B2.out) ((HT1.out.stay BX.out).stay B2.out)).mono ?_; rintro e w3 ⟨rfl, b3⟩; have B3 := hide (B2.out.trans (b3.mono B2.out.size)); have O3 := hide (OX.out.stay B3.out); have BX3 := hide (BX.out.trans (B3.out.mono BX.out.size)); clear b3 B2 B3 OX BX))
    go_loopg [8, 29] 16 (fun gk u8 u29 wx => ∃ i M : Nat, i + gk = 16 ∧ M = M0 + i ∧ M ≤ N ∧ u29 = .int .i64 i ∧ ∃ ad cp, u8 = .slice ad M cp ∧ Hid (OwnsB wx w1.heap.size (.slice ad M cp) (strP G xs M)) ∧ Hid (Below w1.heap.size w1 wx))
    case atStart => exact ⟨0, M0, by omega, by omega, hM0N, rfl, _, _, rfl, O3, BX3⟩
    case round =>
      obtain ⟨i, M, hig, hMi, hMN, rfl, ad, cp, rfl, OX, BX⟩ := hrel
      have HMI := hide hMi
      clear O3 BX3 hMi
      cases gk with
      | zero =>
        have hi16 : i = 16 := by omega
        subst hi16
        have hge : ¬ ((16 : Nat) : Int) < 16 := by omega
        obtain ⟨g1, rfl⟩ : ∃ g1, g0 = g1 + 1 := ⟨g0 - 1, by have := HM0.out; have := HMI.out; omega⟩
        go_wp2_with fail
        go_roundg g1
        case measure => omega
        case rel => exact ⟨j + 1, M, by omega, by rw [HMI.out, HM0.out]; omega, by go_num, _, _, rfl, OX, BX⟩
      | succ g1 =>
        have hlt : (i : Int) < 16 := by omega
        have hi16 : i < 16 := by omega
        have hix := fun W => index16 (E j) .i64 hi16 W
        have hEG : Hid (E j i = G M) := by rw [HMI.out, HM0.out]; exact HAT.out j i hi16
        by_cases hend : N = M
        · subst hend
          have heq : (N : Int) = (N : Int) := rfl
          go_wp2_with fail
          go_ret2
          exact ⟨_, rfl, OX.out.low B1.out.size, B1.out.trans (BX.out.mono B1.out.size)⟩
        · have hne : ¬ (M : Int) = (N : Int) := by omega
          have hMl : M < N := by omega
          have hMl' : (M : Int) < (N : Int) := by omega
          obtain ⟨b1, o1, rfl, c1⟩ : ∃ b1 o1, d = some ⟨b1, o1, none⟩ ∧ wr.cell? ⟨b1, o1 + M, none⟩ = some (.int .u8 (xs.getD M 0 : Nat)) := by
            rcases HD.out with h0 | ⟨b1, o1, e, hb1, h⟩
            · rw [← HNL.out] at h0; omega
            · exact ⟨b1, o1, e, (((h.below B1.out hb1).below BX.out (Nat.lt_of_lt_of_le hb1 B1.out.size)) M (by rw [← HNL.out]; exact hMl))⟩
          have x1 := HX.out.getD M
          have x2 : E j i < 256 := by rw [hEG.out]; exact HML.out M
          have hxr := xor8 _ _ x1 x2
          have HP := hide (strP_push G xs M)
          have HPL := hide (strP_length G xs M)
          rw [← hEG.out] at HP
          generalize E j i = Y at hix x2 hxr HP hEG
          generalize xs.getD M 0 ^^^ Y = Z at hxr HP
          generalize xs.getD M 0 = X at c1 x1 hxr
          have m0 : (0 : Int) ≤ (M : Int) := by omega
          have hsx := BX.out.size
          clear hend
          go_wp2_with (refine wpList_appB _ rfl (.tmp 37) (.tmp 45) rfl w1.heap.size (.slice ad M cp) (strP G xs M) (by rfl) (World.ownsRow.alloc OX.out _) (some ⟨wr.heap.size, 0, none⟩) 1 1 (by rfl) [Z] (strP G xs (M + 1)) HP.out rfl (one_byte wr Z) (fun e => by cases e) (by rw [HPL.out]; omega) (by simp; omega) ?_; intro v4 w2 h2 k2; have O2 := hide h2; have B2 := hide (growB (World.ownsRow.alloc OX.out _) (BX.out.alloc hsx _) k2); clear h2 k2)
          obtain ⟨ad2, cp2, hv4, _⟩ := O2.out.form
          rw [strP_length] at hv4
          subst hv4
          go_roundg g1
          case measure => omega
          case rel => exact ⟨i + 1, M + 1, by omega, by have := HMI.out; omega, by omega, by go_num, _, _, rfl, O2, B2⟩
end Go.Proofs.YtgamfpgejkhbcaaDoor.K
