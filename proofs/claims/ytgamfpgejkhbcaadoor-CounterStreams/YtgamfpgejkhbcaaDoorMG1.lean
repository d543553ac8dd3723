/- blockOf: contract. masked, sumBehind: contracts. sumBehind: contract. The closure that bind tells: contract. -/
import Derived.Test.YtgamfpgejkhbcaaDoorHOwn
namespace Go.Proofs.YtgamfpgejkhbcaaDoor.S
set_option maxRecDepth 100000
open Go Go.RowKit

theorem sizeU8 : (Tryd.prog.info? 5).map (·.size) = some 1 := by kernel_rfl
/-- At most 64 bytes copied to the beginning of an array of 64 bytes 0. -/
theorem wpList_lay64 {ops : Array Oper} {rest : List Oper} {o : Oper} {act : Act} {Q : Exit → Act → World → Prop} {w : World} (hgd : o.guard = none) (d s : Operand)
    (ho : o.op = .call { callee := .builtin .copy, args := #[d, s], argTypes := #[22, 22] }) (g : Nat) (a : Option Addr) (len cap : Nat) (ks : List Nat) (hd : act.eval d = .slice (some ⟨g, 0, none⟩) 64 64) (hs : act.eval s = .slice a len cap)
    (hlen : ks.length = len) (hk : len ≤ 64) (hg : w.heap[g]? = some (.cells (kA Z64) 83 (0, 0))) (ht : TextAt w a ks)
    (h : ∀ w', Hid (w'.heap[g]? = some (.cells (kA (ks ++ List.replicate (64 - ks.length) 0)) 83 (0, 0))) → Hid (Kept (fun k => k = g) w w') → wpList Tryd.prog ops Q rest (act.put o.dst (goInt len)) w') : wpList Tryd.prog ops Q (o :: rest) act w := by
  subst hlen
  rcases ht with h0 | ⟨b, off, rfl, hb, hbs⟩
  · refine wpList_copy_nothing hgd d s 22 22 ho 5 Tryd.underlying22 sizeU8 _ _ 64 64 _ cap hd hs (by rw [h0]; rfl) ?_
    have e : ks = [] := List.eq_nil_of_length_eq_zero h0
    subst e
    exact h w hg (Kept.refl _ _)
  · have hmin : (bV ks).length = Nat.min ks.length 64 := by
      have : Nat.min ks.length 64 = min ks.length 64 := rfl
      simp only [bV, List.length_map]; omega
    refine wpList_copy_own hgd d s 22 22 ho 5 Tryd.underlying22 sizeU8 g 0 64 64 ⟨b, off, none⟩ _ cap hd hs (kA Z64) 83 hg (bV ks) hmin (fun j v hj => ?_) (by rw [kA_size, Z64_length]; simp [bV]; omega) (bV_one ks) ?_
    · have hjl : j < ks.length := by
        rcases Nat.lt_or_ge j ks.length with h' | h'
        · exact h'
        · rw [List.getElem?_eq_none (by simpa [bV] using h')] at hj; cases hj
      rw [addr_plain, hbs j hjl, ← hj]
      simp [bV, hjl]
    · rw [show (bV ks).length = ks.length by simp [bV]]
      refine h _ ?_ (kept_setRow _ _ _ _ rfl)
      have hr := setRow_heap' w g ((kA Z64).toList.take 0 ++ (bV ks ++ (kA Z64).toList.drop (0 + ks.length))).toArray _ _ _ hg
      have e : ((kA Z64).toList.take 0 ++ (bV ks ++ (kA Z64).toList.drop (0 + ks.length))).toArray = kA (ks ++ List.replicate (64 - ks.length) 0) := by
        simp only [kA, bV, Z64, List.take_zero, List.nil_append, Nat.zero_add, List.map_append, List.map_replicate, List.drop_replicate]
      rw [e] at hr ⊢
      exact hr

set_option maxHeartbeats 4000000 in
theorem blockOf_c (a : Option Addr) (cap : Nat) (key : List Nat) (w : World) (hy : By key) (hb : TextAt w a key) (hcap : key.length ≤ cap) (hcm : cap ≤ 9223372036854775807) (hl : key.length ≤ 1000000000000000) :
    Calls Tryd.prog 54 #[.slice a key.length cap] w fun e w' => e = .returned (.agg (kA (k64 key))) ∧ Below w.heap.size w w' := by
  have hz : ∀ w, (zeroValue 83).run Tryd.prog w = .ok (.agg (kA Z64)) w := zero64.1
  have hz2 : ∀ w, (zeroValue 55).run Tryd.prog w = .ok (.agg (oA (sum key) 0)) w := (zero20 _).1
  have HI := hide (info64 (xs := k64 key) (k64_length key))
  have HS := hide (show (kA Z64).size = (kA (k64 key)).size by rw [kA_size, kA_size, k64_length]; exact Z64_length)
  have HO := hide (kA_one (k64 key))
  have H20 := hide (info20 (oB (sum key)) 20)
  have HB := hide hb
  have R0 := hide (heap_new1 w (.cells (kA Z64) 83) (.cells (kA Z64) 83))
  have R1 := hide (heap_new2 w (.cells (kA Z64) 83) (.cells (kA Z64) 83))
  have B0 := hide (((Below.refl _ w).alloc (Nat.le_refl _) (.cells (kA Z64) 83)).alloc (by simp) (.cells (kA Z64) 83) : Below w.heap.size w _)
  have HQ := hide (sum_c a cap key _ hy (hb.below B0.out) hcap hcm hl)
  have hsl := fun W => slice64 W (w.heap.size + 1)
  obtain ⟨N, hN⟩ : ∃ N, N = key.length := ⟨_, rfl⟩
  have HN := hide hN
  rw [← hN] at HQ ⊢
  clear hy hb hN hcap hcm hl
  go_enter Tryd.func54, Tryd.ntmps54
  by_cases h64 : 64 < N
  · have h64' : (64 : Int) < (N : Int) := by omega
    have HKB : Hid (k64 key = outL (sum key) ++ List.replicate (64 - (outL (sum key)).length) 0) := by
      have : kB key = outL (sum key) := if_pos (by rw [← HN.out]; exact h64)
      show k64 key = _
      rw [k64, this]
    go_upto_region 4 with (first
      | (go_at_call 60; refine HQ.out.mono ?_; rintro e w2 ⟨rfl, b2⟩; have B2 := hide (B0.out.trans (b2.mono (by simp; omega))); have Q0 := hide ((b2.block _ (by simp; omega)).trans R0.out); have Q1 := hide ((b2.block _ (by simp)).trans R1.out); clear b2)
      | (refine wpList_store_row rfl 55 (.tmp 4) (.tmp 9) rfl w2.heap.size (oA (sum key) 20) (by rfl) (by rfl) (oA (sum key) 0) 55 (heap_new _ _) H20.out (by rw [oA, oA, fA_size, fA_size]) (fA_one _ _ _ _) ?_; intro w3 G3 K3))
    have hs2 := B2.out.size
    have hq0 := lt_of_block' Q1.out
    have B3 := hide ((B2.out.alloc hs2 (.cells (oA (sum key) 0) 55)).trans (K3.out.below (by simp; omega) (fun i hi e => by omega)))
    have S0 := hide (K3.out.heap (heap_old Q0.out) (by omega))
    have S1 := hide (K3.out.heap (heap_old Q1.out) (by omega))
    have T3 := hide (text20 G3.out)
    have hl3 := fun W => slice20 W w2.heap.size
    obtain ⟨bd, hbd⟩ : ∃ bd, bd = w2.heap.size := ⟨_, rfl⟩
    rw [← hbd] at T3 hl3 ⊢
    clear hbd K3 G3 hs2 Q0 Q1 B2 R0 R1 B0 HQ hq0
    go_wp2_with (first
      | (refine wpList_lay64 rfl (.tmp 11) (.tmp 12) rfl (w.heap.size + 1) (some ⟨bd, 0, none⟩) 20 20 (outL (sum key)) (by rfl) (by rfl) (outL_length _) (by omega) S1.out T3.out ?_; intro w4 G4 K4; rw [← HKB.out] at G4)
      | (refine wpList_load_row rfl 83 (.tmp 3) rfl (w.heap.size + 1) (by rfl) (kA (k64 key)) 83 (0, 0) G4.out _ Tryd.underlying83 rfl HI.out ?_)
      | (refine wpList_store_row rfl 83 (.tmp 2) (.tmp 14) rfl w.heap.size (kA (k64 key)) (by rfl) (by rfl) (kA Z64) 83 (K4.out.heap S0.out (by omega)) HI.out HS.out HO.out ?_; intro w5 G5 K5))
    have hld : (loadVar 83 ⟨w.heap.size, 0, none⟩).run Tryd.prog w5 = .ok (.agg (kA (k64 key))) w5 :=
      run_loadVar_row _ _ 83 83 (kA (k64 key)) (0, 0) _ G5.out Tryd.underlying83 rfl HI.out
    have B4 := B3.out.trans (K4.out.below B3.out.size (fun i hi e => by omega))
    refine bodyPost_ret (v := .agg (kA (k64 key))) ?_ rfl ⟨rfl, B4.trans (K5.out.below B4.size (fun i hi e => by omega))⟩
    simp [results, asAddr, Act.put, hld]
  · have h64' : ¬ (64 : Int) < (N : Int) := by omega
    have HKB : Hid (k64 key = key ++ List.replicate (64 - key.length) 0) := by
      have : kB key = key := if_neg (by rw [← HN.out]; exact h64)
      show k64 key = _
      rw [k64, this]
    have T3 := hide (HB.out.below B0.out)
    clear HQ hz2
    go_wp2_with (first
      | (refine wpList_lay64 rfl (.tmp 11) (.tmp 12) rfl (w.heap.size + 1) a N cap key (by rfl) (by rfl) HN.out.symm (by omega) R1.out T3.out ?_; intro w4 G4 K4; rw [← HKB.out] at G4)
      | (refine wpList_load_row rfl 83 (.tmp 3) rfl (w.heap.size + 1) (by rfl) (kA (k64 key)) 83 (0, 0) G4.out _ Tryd.underlying83 rfl HI.out ?_)
      | (refine wpList_store_row rfl 83 (.tmp 2) (.tmp 14) rfl w.heap.size (kA (k64 key)) (by rfl) (by rfl) (kA Z64) 83 (K4.out.heap R0.out (by omega)) HI.out HS.out HO.out ?_; intro w5 G5 K5))
    have hld : (loadVar 83 ⟨w.heap.size, 0, none⟩).run Tryd.prog w5 = .ok (.agg (kA (k64 key))) w5 :=
      run_loadVar_row _ _ 83 83 (kA (k64 key)) (0, 0) _ G5.out Tryd.underlying83 rfl HI.out
    have B4 := B0.out.trans (K4.out.below B0.out.size (fun i hi e => by omega))
    refine bodyPost_ret (v := .agg (kA (k64 key))) ?_ rfl ⟨rfl, B4.trans (K5.out.below B4.size (fun i hi e => by omega))⟩
    simp [results, asAddr, hld]
end Go.Proofs.YtgamfpgejkhbcaaDoor.S
namespace Go.Proofs.YtgamfpgejkhbcaaDoor.S
set_option maxRecDepth 100000
open Go Go.RowKit

set_option maxHeartbeats 4000000 in
theorem masked_c (xs : List Nat) (x : Nat) (w : World) (hl : xs.length = 64) (hy : By xs) (hx : x < 256) :
    Calls Tryd.prog 55 #[.agg (kA xs), .int .u8 (x : Int)] w fun e w' => e = .returned (.agg (kA (xs.map (· ^^^ x)))) ∧ Below w.heap.size w w' := by
  have hz : ∀ w, (zeroValue 83).run Tryd.prog w = .ok (.agg (kA Z64)) w := zero64.1
  have HY := hide hy
  have HL := hide hl
  have HI := hide (info64 (xs := xs.map (· ^^^ x)) (by rw [List.length_map]; exact hl))
  have HE := hide (show flipL xs x 64 = xs.map (· ^^^ x) by rw [← hl]; exact flipL_end xs x)
  have HS := hide (show (kA Z64).size = (kA (xs.map (· ^^^ x))).size by rw [kA_size, kA_size, List.length_map, hl]; exact Z64_length)
  have HO := hide (kA_one (xs.map (· ^^^ x)))
  have R0 : Hid (((w.alloc (.cells (kA xs) 83)).alloc (.cells (kA Z64) 83)).heap[w.heap.size]? = some (.cells (kA (flipL xs x 0)) 83 (0, 0))) := by rw [flipL_zero]; exact heap_new1 _ _ _
  have R1 := hide (heap_new2 w (.cells (kA xs) 83) (.cells (kA Z64) 83))
  have B0 := hide (((Below.refl _ w).alloc (Nat.le_refl _) (.cells (kA xs) 83)).alloc (by simp) (.cells (kA Z64) 83) : Below w.heap.size w _)
  clear hy hl
  generalize xs.map (· ^^^ x) = ms at HI HE HS HO ⊢
  go_enter Tryd.func55, Tryd.ntmps55
  go_wp2_with fail
  generalize (w.alloc (.cells (kA xs) 83)).alloc (.cells (kA Z64) 83) = w1 at R0 R1 B0 ⊢
  go_loopg [6] 64 (fun gk u6 wx => ∃ i : Nat, i + gk = 64 ∧ u6 = .int .i64 i ∧ Hid (wx.heap[w.heap.size]? = some (.cells (kA (flipL xs x i)) 83 (0, 0))) ∧ Hid (wx.heap[w.heap.size + 1]? = some (.cells (kA Z64) 83 (0, 0))) ∧ Hid (Below w.heap.size w wx))
  case atStart => exact ⟨0, by omega, rfl, R0, R1, B0⟩
  case round =>
    obtain ⟨i, hig, rfl, RX, RY, BX⟩ := hrel
    clear R0 R1 B0
    cases gk with
    | zero =>
      obtain rfl : i = 64 := by omega
      have hge : ¬ ((64 : Nat) : Int) < 64 := by omega
      rw [HE.out] at RX
      go_wp2_with (first
        | (refine wpList_load_row rfl 83 (.tmp 2) rfl w.heap.size (by rfl) (kA ms) 83 (0, 0) RX.out _ Tryd.underlying83 rfl HI.out ?_)
        | (refine wpList_store_row rfl 83 (.tmp 4) (.tmp 16) rfl (w.heap.size + 1) (kA ms) (by rfl) (by rfl) (kA Z64) 83 RY.out HI.out HS.out HO.out ?_; intro w2 G2 K2))
      have hld : (loadVar 83 ⟨w.heap.size + 1, 0, none⟩).run Tryd.prog w2 = .ok (.agg (kA ms)) w2 :=
        run_loadVar_row _ _ 83 83 (kA ms) (0, 0) _ G2.out Tryd.underlying83 rfl HI.out
      refine bodyPost_ret (v := .agg (kA ms)) ?_ rfl ⟨rfl, BX.out.trans (K2.out.below BX.out.size (fun i hi e => by omega))⟩
      simp [results, asAddr, hld]
    | succ g1 =>
      have hlt : (i : Int) < 64 := by omega
      have hi : i < xs.length := by rw [HL.out]; omega
      have hc := (cells_of RX.out i).trans (kA_at _ (by rw [flipL_length]; exact hi))
      rw [flipL_at _ _ hi] at hc
      have hf := free_of RX.out i
      have hset := hide (set_kA RX.out i (xs.getD i 0 ^^^ x))
      rw [flipL_set _ _ hi] at hset
      have hset1 := hide ((set_other (w := wr) (c := w.heap.size) (i := i) (u := .int .u8 ((xs.getD i 0 ^^^ x : Nat) : Int)) (b := w.heap.size + 1) (by simp)).trans RY.out)
      have BS := hide (BX.out.setCell (p := ⟨w.heap.size, i, none⟩) (by simp) (.int .u8 ((xs.getD i 0 ^^^ x : Nat) : Int)))
      have hq := HY.out.getD i
      have hxr := xor8 _ x hq hx
      generalize xs.getD i 0 ^^^ x = Zv at hset hset1 BS hxr
      generalize xs.getD i 0 = Kv at hc hq hxr
      have i0 : (0 : Int) ≤ (i : Int) := by omega
      clear hi
      go_wp2_with fail
      go_roundg g1
      case measure => omega
      case rel => exact ⟨i + 1, by omega, by go_num, hset, hset1, BS⟩
end Go.Proofs.YtgamfpgejkhbcaaDoor.S
namespace Go.Proofs.YtgamfpgejkhbcaaDoor.S
set_option maxRecDepth 100000
open Go Go.RowKit

set_option maxHeartbeats 4000000 in
theorem behind_c (xs : List Nat) (a : Option Addr) (cap : Nat) (ys : List Nat) (w : World) (hl : xs.length = 64) (hx : By xs) (hy : By ys) (hb : TextAt w a ys) (hcap : ys.length ≤ cap) (hcm : cap ≤ 9223372036854775807) (hyl : ys.length ≤ 999999999999000) :
    Calls Tryd.prog 57 #[.agg (kA xs), .slice a ys.length cap] w fun e w' => e = .returned (.agg (oA (sum (xs ++ ys)) 20)) ∧ Below w.heap.size w w' := by
  obtain ⟨oc, hoc⟩ : ∃ oc, oc = oA (sum (xs ++ ys)) 20 := ⟨_, rfl⟩
  have HOC := hide hoc
  obtain ⟨o0, ho0⟩ : ∃ o0, o0 = oA (sum (xs ++ ys)) 0 := ⟨_, rfl⟩
  have HO0 := hide (show o0.size = oc.size by rw [hoc, ho0, oA, oA, fA_size, fA_size])
  have HO1 : Hid (oc.all (·.oneCell') = true) := by rw [hoc]; exact fA_one _ _ _ _
  have H20 : Hid ((Tryd.prog.info? 55).map (·.size) = some oc.size) := by rw [hoc]; exact info20 _ _
  have hz : ∀ w, (zeroValue 55).run Tryd.prog w = .ok (.agg o0) w := by rw [ho0]; exact (zero20 _).1
  have HB := hide hb
  have HY := hide hy
  have HX := hide hx
  have HL := hide hl
  have hsl := fun W => slice64 W w.heap.size
  have X0 := hide (heap_new1 w (.cells (kA xs) 83) (.cells o0 55))
  have O0 := hide (heap_new2 w (.cells (kA xs) 83) (.cells o0 55))
  have B0 := hide (((Below.refl _ w).alloc (Nat.le_refl _) (.cells (kA xs) 83)).alloc (by simp) (.cells o0 55) : Below w.heap.size w _)
  obtain ⟨N, hN⟩ : ∃ N, N = ys.length := ⟨_, rfl⟩
  have HN := hide hN
  rw [← hoc]
  rw [← hN] at hcap hyl ⊢
  clear hoc ho0 hb hy hx hl hN
  go_enter Tryd.func57, Tryd.ntmps57
  go_upto_region 2 with (go_at_call 61; refine (new_c _).mono ?_; rintro e w1 ⟨bh, rfl, h1, h2, h3⟩; have H1 := hide h2; have b1 := hide h3; clear h2 h3)
  have hbg : w.heap.size + 2 ≤ bh := by simpa using h1
  have B1 := hide (B0.out.trans (b1.out.mono (by simp; omega)))
  have X1 := hide ((b1.out.block _ (by simp; omega)).trans X0.out)
  have O1 := hide ((b1.out.block _ (by simp)).trans O0.out)
  clear h1 b1 X0 O0 B0
  have HW1 := hide (write_c bh (some ⟨w.heap.size, 0, none⟩) 64 [] xs w1 H1.out HX.out (.inr ⟨_, 0, rfl, lt_of_block' X1.out, by omega, text64 X1.out⟩) (by rw [HL.out]; omega) (by omega) (by rw [HL.out]; simp))
  rw [HL.out] at HW1
  go_upto_region 3 with (go_at_call 62; refine HW1.out.mono ?_; rintro e w2 ⟨rfl, h2, k2⟩; have H2 := hide h2; have K2 := hide k2; clear h2 k2)
  have B2 := hide (B1.out.trans (K2.out.below B1.out.size (fun i hi e => by omega)))
  have O2 := hide (K2.out.heap O1.out (by omega))
  clear H1 X1 O1 B1 HW1 K2
  have HW2 := hide (write_c bh a cap ([] ++ xs) ys w2 H2.out HY.out (HB.out.imp_right fun ⟨b, off, e, h, k⟩ => ⟨b, off, e, Nat.lt_of_lt_of_le h B2.out.size, by omega, k.below B2.out h⟩) (by rw [← HN.out]; exact hcap) hcm (by rw [← HN.out, List.nil_append, HL.out]; omega))
  rw [← HN.out] at HW2
  go_upto_region 4 with (go_at_call 62; refine HW2.out.mono ?_; rintro e w3 ⟨rfl, h3, k3⟩; have H3 := hide h3; have K3 := hide k3; clear h3 k3)
  have B3 := hide (B2.out.trans (K3.out.below B2.out.size (fun i hi e => by omega)))
  have O3 := hide (K3.out.heap O2.out (by omega))
  clear H2 O2 B2 HW2 K3
  have HS : Hid (Calls Tryd.prog 63 #[.pointer (some ⟨bh, 0, none⟩)] w3 fun e w' => e = .returned (.agg oc) ∧ Below w3.heap.size w3 w') := by
    rw [HOC.out]; exact hsum_c bh _ w3 H3.out (by rw [List.length_append, ← HN.out, HL.out]; omega)
  have hs3 := lt_of_block' O3.out
  clear H3
  go_wp2_with (first
    | (go_at_call 63; refine HS.out.mono ?_; rintro e w5 ⟨rfl, k5⟩; have K5 := hide k5; clear k5)
    | (refine wpList_store_row rfl 55 (.tmp 4) (.tmp 14) rfl (w.heap.size + 1) oc (by rfl) (by rfl) o0 55 ((K5.out.block _ hs3).trans O3.out) H20.out HO0.out HO1.out ?_; intro w6 G6 K6))
  have hld : (loadVar 55 ⟨w.heap.size + 1, 0, none⟩).run Tryd.prog w6 = .ok (.agg oc) w6 :=
    run_loadVar_row _ _ 55 55 oc (0, 0) _ G6.out Tryd.underlying55 rfl H20.out
  have B5 := B3.out.trans (K5.out.mono B3.out.size)
  refine bodyPost_ret (v := .agg oc) ?_ rfl ⟨rfl, B5.trans (K6.out.below B5.size (fun i hi e => by omega))⟩
  simp [results, asAddr, Act.put, hld]
end Go.Proofs.YtgamfpgejkhbcaaDoor.S
namespace Go.Proofs.YtgamfpgejkhbcaaDoor.S
set_option maxRecDepth 100000
open Go Go.RowKit

set_option maxHeartbeats 4000000 in
theorem bind1_c (bi bo : Nat) (I O : List Nat) (a : Option Addr) (cap : Nat) (ys : List Nat) (w : World) (hI : I.length = 64) (hIb : By I) (hO : O.length = 64) (hOb : By O) (ri : w.heap[bi]? = some (.cells (kA I) 83 (0, 0))) (ro : w.heap[bo]? = some (.cells (kA O) 83 (0, 0)))
    (hy : By ys) (hb : TextAt w a ys) (hcap : ys.length ≤ cap) (hcm : cap ≤ 9223372036854775807) (hyl : ys.length ≤ 999999999999000) :
    Calls Tryd.prog 56 #[.slice a ys.length cap, .pointer (some ⟨bi, 0, none⟩), .pointer (some ⟨bo, 0, none⟩)] w fun e w' => e = .returned (.agg (oA (sum (O ++ outL (sum (I ++ ys)))) 20)) ∧ Below w.heap.size w w' := by
  obtain ⟨S, hS⟩ : ∃ S, S = sum (O ++ outL (sum (I ++ ys))) := ⟨_, rfl⟩
  obtain ⟨T, hT⟩ : ∃ T, T = sum (I ++ ys) := ⟨_, rfl⟩
  have hz : ∀ w, (zeroValue 55).run Tryd.prog w = .ok (.agg (oA S 0)) w := (zero20 _).1
  have HI64 := hide (info64 hI)
  have HO64 := hide (info64 hO)
  have BA := hide ((Below.refl _ w).alloc (Nat.le_refl _) (.cells (oA S 0) 55) : Below w.heap.size w _)
  have RI := hide (heap_old (o := .cells (oA S 0) 55) ri)
  have RO := hide (heap_old (o := .cells (oA S 0) 55) ro)
  have R0 := hide (heap_new w (.cells (oA S 0) 55))
  have H20 := fun s => hide (info20 (oB s) 20)
  have HB1 := hide (behind_c I a cap ys _ hI hIb hy (hb.below BA.out) hcap hcm hyl)
  have HB2 := fun W b (h : TextAt W (some ⟨b, 0, none⟩) (outL T)) => hide (behind_c O (some ⟨b, 0, none⟩) 20 (outL T) W hO hOb (outL_by _) h (by rw [outL_length]; omega) (by omega) (by rw [outL_length]; omega))
  rw [← hT] at HB1 hS
  simp only [← hS, outL_length] at HB2
  rw [← hT, ← hS]
  have hlo := lt_of_block' ro
  obtain ⟨N, hN⟩ : ∃ N, N = ys.length := ⟨_, rfl⟩
  rw [← hN] at HB1 ⊢
  clear hI hIb hO hOb ri ro hy hb hcap hcm hyl hS hT hN
  go_enter Tryd.func56, Tryd.ntmps56
  go_upto_region 2 with (first
    | (refine wpList_load_row rfl 83 (.tmp 1) rfl bi (by rfl) (kA I) 83 (0, 0) RI.out _ Tryd.underlying83 rfl HI64.out ?_)
    | (go_at_call 57; refine HB1.out.mono ?_; rintro e w1 ⟨rfl, b1⟩; have B1 := hide (BA.out.trans (b1.mono BA.out.size)); have O1 := hide ((b1.block _ (by simp; omega)).trans RO.out); have R1 := hide ((b1.block _ (by simp)).trans R0.out); clear b1)
    | (refine wpList_store_row rfl 55 (.tmp 5) (.tmp 8) rfl w1.heap.size (oA T 20) (by rfl) (by rfl) (oA S 0) 55 (heap_new _ _) (H20 _).out (by rw [oA, oA, fA_size, fA_size]) (fA_one _ _ _ _) ?_; intro w2 G2 K2))
  have hs1 := B1.out.size
  have hr1 := lt_of_block' R1.out
  have ho1 := lt_of_block' O1.out
  have B2 := hide ((B1.out.alloc hs1 (.cells (oA S 0) 55)).trans (K2.out.below (by simp; omega) (fun i hi e => by omega)))
  have O2 := hide (K2.out.heap (heap_old O1.out) (by omega))
  have R2 := hide (K2.out.heap (heap_old R1.out) (by omega))
  have T2 := hide (text20 G2.out)
  have hsl := fun W => slice20 W w1.heap.size
  have HC := hide (HB2 w2.drew w1.heap.size T2.out).out
  obtain ⟨b5, hb5⟩ : ∃ b5, b5 = w1.heap.size := ⟨_, rfl⟩
  rw [← hb5] at HC hsl ⊢
  clear hb5 K2 G2 HB1 HB2 BA RI RO R0 B1 O1 R1 hs1 hr1 ho1 T2
  simp only [Act.put]
  refine wp_region_any (by kernel_rfl) ?_
  try (change wpAny _ _ _ _ _ _ _ (World.drew _))
  (refine wpAny_take (i := 1) (v := ?_) rfl (by kernel_rfl) (by kernel_rfl) (by kernel_rfl) (fun _ _ _ h => h) (Or.inl ⟨by rfl, ?_⟩) ?_; rotate_left; (intro w; go_simp); (try with_reducible rfl); try simp only [Act.put, List.getElem_toArray, List.getElem_cons_zero, List.getElem_cons_succ, List.setIfInBounds_toArray, List.set_cons_zero, List.set_cons_succ])
  refine wpAny_ready (rs := [0]) (by kernel_rfl) (by simp) ?_
  refine AllReady.cons rfl (fun K hK => ?_) AllReady.nil
  refine step_load rfl 83 (.tmp 2) rfl bo rfl (kA O) 83 (0, 0) O2.out _ Tryd.underlying83 rfl HO64.out ?_
  refine hK _ _ ?_
  clear hK K
  simp only [Act.put, List.getElem_toArray, List.getElem_cons_zero, List.setIfInBounds_toArray, List.set_cons_zero, List.set_cons_succ]
  refine wpAny_ready (rs := [2]) (by kernel_rfl) (by simp) ?_
  refine AllReady.cons rfl (fun K hK => ?_) AllReady.nil
  refine step_call rfl 57 #[.agg (kA O), .slice (some ⟨b5, 0, none⟩) 20 20] (by kernel_rfl) HC.out ?_
  rintro e w3 ⟨rfl, b3⟩
  refine ⟨_, rfl, hK _ _ ?_⟩
  clear hK K
  have hs2 := B2.out.size
  have B3 : Hid (Below w.heap.size w w3) := B2.out.trans ((⟨b3.os, b3.tape, b3.output, b3.size, b3.block⟩ : Below w2.heap.size w2 w3).mono hs2)
  have R3 := hide ((b3.block w.heap.size (lt_of_block' R2.out)).trans R2.out)
  clear b3 HC hs2
  simp only [Act.put, List.getElem_toArray, List.getElem_cons_zero, List.getElem_cons_succ, List.setIfInBounds_toArray, List.set_cons_zero, List.set_cons_succ]
  refine wpAny_ready (rs := [3]) (by kernel_rfl) (by simp) ?_
  refine AllReady.cons rfl (fun K hK => ?_) AllReady.nil
  refine step_store rfl 55 (.tmp 4) (.tmp 11) rfl w.heap.size (oA S 20) rfl rfl (oA S 0) 55 R3.out (H20 _).out (by rw [oA, oA, fA_size, fA_size]) (fA_one _ _ _ _) ?_
  intro w4 G4 K4
  refine hK _ _ ?_
  clear hK K
  refine wpAny_done (by kernel_rfl) ?_ _
  go_wp2_with fail
  have hld : (loadVar 55 ⟨w.heap.size, 0, none⟩).run Tryd.prog w4 = .ok (.agg (oA S 20)) w4 :=
    run_loadVar_row _ _ 55 55 (oA S 20) (0, 0) _ G4.out Tryd.underlying55 rfl (H20 _).out
  refine bodyPost_ret (v := .agg (oA S 20)) ?_ rfl ⟨rfl, B3.out.trans (K4.out.below B3.out.size (fun i hi e => by omega))⟩
  simp [results, asAddr, Act.put, hld]
end Go.Proofs.YtgamfpgejkhbcaaDoor.S
