/- The reference's with: contract. The reference's sum with a key: contract. The reference's Key: contract. -/
import Derived.Test.YtgamfpgejkhbcaaDoorSG2
import Derived.Test.YtgamfpgejkhbcaaDoorHOwn
import Derived.Test.YtgamfpgejkhbcaaDoorHByt
import Derived.Test.YtgamfpgejkhbcaaDoorMG2
import Derived.Test.YtgamfpgejkhbcaaDoorMG3
namespace Go.Proofs.YtgamfpgejkhbcaaDoor.S
set_option maxRecDepth 100000
open Go Go.RowKit

/-- A key with some bytes 0 behind it. -/
def padK (key : List Nat) (j : Nat) : List Nat := kB key ++ List.replicate j 0
theorem padK_push (key : List Nat) (j : Nat) : padK key j ++ [0] = padK key (j + 1) := by simp [padK, List.replicate_succ']
theorem padK_length (key : List Nat) (j : Nat) : (padK key j).length = (kB key).length + j := by simp [padK]
/-- What with answers. -/
def WithOk (key : List Nat) (x base : Nat) (w : World) (e : Ending) (w' : World) : Prop := ∃ v, e = .returned v ∧ OwnsB w' base v (kX key x) ∧ Below w.heap.size w w'

set_option maxHeartbeats 4000000 in
theorem with_c (a : Option Addr) (cap : Nat) (key : List Nat) (x : Nat) (w : World) (hy : By key) (hb : TextAt w a key) (hnone : a = none → key.length = 0 ∧ cap = 0) (hl : key.length ≤ 140737488351232) (hx : x < 256) :
    Calls Tryd.prog 43 #[.slice a key.length cap, .int .u8 (x : Int)] w (WithOk key x w.heap.size w) := by
  have HB := hide hb
  have HY := hide hy
  have HNN := hide hnone
  have HQ := fun W (k : Below w.heap.size w W) => hide (rsum_c a cap key W hy (hb.below k) hnone hl)
  obtain ⟨N, hN⟩ : ∃ N, N = key.length := ⟨_, rfl⟩
  have HN := hide hN
  rw [← hN] at hl HNN HQ ⊢
  clear hb hnone hy hN
  have E0 := hide (OwnsB.empty w w.heap.size (Nat.le_refl _))
  have BE := hide ((Below.refl _ w).alloc (Nat.le_refl _) (.cells #[] 5) : Below w.heap.size w _)
  have hz : ∀ w, (zeroValue 55).run Tryd.prog w = .ok (.agg (oA (sum key) 0)) w := (zero20 _).1
  have H20 := hide (info20 (oB (sum key)) 20)
  go_enter Tryd.func43, Tryd.ntmps43
  go_upto_region 2 with (refine wpList_appB _ rfl (.tmp 8) (.tmp 9) rfl w.heap.size (.slice (some ⟨w.heap.size, 0, none⟩) 0 0) [] (by rfl) E0.out a N cap (by rfl) key key (by rfl) HN.out.symm (HB.out.below ((Below.refl _ w).alloc (Nat.le_refl _) _)) HNN.out (by simp; omega) (by simp) ?_; intro v5 w1 h1 k1; have O1 := hide h1; have B1 := hide (growB E0.out BE.out k1); clear h1 k1)
  by_cases h64 : 64 < N
  · have h64' : (64 : Int) < (N : Int) := by omega
    have HKB : Hid (kB key = outL (sum key)) := if_pos (by rw [← HN.out]; exact h64)
    go_upto_region 4 with (first
      | (go_at_call 42; refine (HQ _ B1.out).out.mono ?_; rintro e w2 ⟨rfl, b2⟩; have B2 := hide (B1.out.trans (b2.mono B1.out.size)); clear b2)
      | (refine wpList_store_row rfl 55 (.tmp 6) (.tmp 15) rfl w2.heap.size (oA (sum key) 20) (by rfl) (by rfl) (oA (sum key) 0) 55 (heap_new _ _) H20.out (by rw [oA, oA, fA_size, fA_size]) (fA_one _ _ _ _) ?_; intro w3 G3 K3))
    have hs2 := B2.out.size
    have B3 := hide ((B2.out.alloc hs2 (.cells (oA (sum key) 0) 55)).trans (K3.out.below (by simp; omega) (fun i hi e => by omega)))
    have hs3 := B3.out.size
    have T3 := hide (text20 G3.out)
    have hl3 := fun W => slice20 W w2.heap.size
    have E3 := hide (OwnsB.empty w3 w.heap.size hs3)
    have BE3 := hide (B3.out.alloc hs3 (.cells #[] 5))
    obtain ⟨bd, hbd⟩ : ∃ bd, bd = w2.heap.size := ⟨_, rfl⟩
    rw [← hbd] at T3 hl3 ⊢
    clear hbd K3 G3 hs2 O1 B1 E0 BE hz
    go_upto_region 5 with (refine wpList_appB _ rfl (.tmp 16) (.tmp 17) rfl w.heap.size (.slice (some ⟨w3.heap.size, 0, none⟩) 0 0) [] (by rfl) E3.out (some ⟨bd, 0, none⟩) 20 20 (by rfl) (outL (sum key)) (kB key) (by rw [HKB.out]; rfl) (outL_length _) (T3.out.below ((Below.refl _ w3).alloc (Nat.le_refl _) _)) (fun e => by cases e) (by simp) (by simp; omega) ?_; intro v7 w4 h4 k4; have O4 := hide h4; have B4 := hide (growB E3.out BE3.out k4); clear h4 k4)
    clear E3 BE3 T3 hl3 B3 B2
    go_wp2_with fail
    go_loopg [5] (64 - (kB key).length) (fun gk u5 wx => ∃ j : Nat, j + gk = 64 - (kB key).length ∧ Hid (OwnsB wx w.heap.size u5 (padK key j)) ∧ Hid (Below w.heap.size w wx))
    case atStart => exact ⟨0, by omega, by simpa [padK] using O4, B4⟩
    case round =>
      obtain ⟨j, hjg, OX, BX⟩ := hrel
      obtain ⟨a3, c3, rfl, hc3, hm3, hn3⟩ := OX.out.form
      have hml : (padK key j).length = (kB key).length + j := padK_length key j
      have hsx := BX.out.size
      cases gk with
      | zero =>
        have hk64 : padK key j = k64 key := by unfold padK k64; rw [show j = 64 - (kB key).length by omega]
        rw [hk64] at OX hml ⊢
        rw [k64_length] at OX ⊢
        have hge : ¬ ((64 : Nat) : Int) < 64 := by omega
        have OZ : Hid (OwnsB wr w.heap.size (.slice a3 64 c3) (flipL (k64 key) x 0)) := by rw [flipL_zero]; exact OX
        obtain ⟨g, rfl, hgb, _, _, _⟩ := OX.out.some_ (by rw [k64_length]; omega)
        clear OX
        go_wp2_with fail
        go_loopg [7] 64 (fun gk u7 wx => ∃ i : Nat, i + gk = 64 ∧ u7 = .int .i64 i ∧ Hid (OwnsB wx w.heap.size (.slice (some ⟨g, 0, none⟩) 64 c3) (flipL (k64 key) x i)) ∧ Hid (Below w.heap.size w wx))
        case atStart => exact ⟨0, by omega, rfl, OZ, BX⟩
        case round =>
          obtain ⟨i, hig, rfl, OI, BI⟩ := hrel
          cases gk with
          | zero =>
            obtain rfl : i = 64 := by omega
            have hge2 : ¬ ((64 : Nat) : Int) < 64 := by omega
            go_wp2_with fail
            go_ret
            refine ⟨_, rfl, ?_, BI.out⟩
            have h := OI.out
            rw [show flipL (k64 key) x 64 = kX key x by rw [kX, ← flipL_end, k64_length]] at h
            exact h
          | succ g1 =>
            have hlt : (i : Int) < 64 := by omega
            obtain ⟨g', e, _, _, hcs, hfs⟩ := OI.out.some_ (by rw [flipL_length, k64_length]; omega)
            simp only [Option.some.injEq, Addr.mk.injEq, and_true] at e
            subst e
            have hc := hcs i (by rw [flipL_length, k64_length]; omega)
            have hf := hfs i
            rw [flipL_at _ _ (by rw [k64_length]; omega)] at hc
            have hset := hide (OI.out.set i ((k64 key).getD i 0 ^^^ x))
            rw [flipL_set _ _ (by rw [k64_length]; omega)] at hset
            have hq := (k64_by HY.out).getD i
            have BS := hide (BI.out.setCell (p := ⟨g, i, none⟩) hgb (.int .u8 (((k64 key).getD i 0 ^^^ x : Nat) : Int)))
            have hxr := xor8 _ x hq hx
            generalize (k64 key).getD i 0 ^^^ x = Z at hset BS hxr
            generalize (k64 key).getD i 0 = K at hc hq hxr
            have i0 : (0 : Int) ≤ (i : Int) := by omega
            clear hcs hfs
            go_wp2_with fail
            go_roundg g1
            case measure => omega
            case rel => exact ⟨i + 1, by omega, by go_num, hset, BS⟩
      | succ g1 =>
        obtain ⟨M, hM⟩ : ∃ M, M = (padK key j).length := ⟨_, rfl⟩
        have hM64 : M < 64 := by omega
        have hlt : (M : Int) < 64 := by omega
        rw [← hM] at OX ⊢
        clear hM hml hc3 hn3
        go_wp2_with (refine wpList_appB _ rfl (.tmp 22) (.tmp 23) rfl w.heap.size (.slice a3 M c3) (padK key j) (by rfl) (World.ownsRow.alloc OX.out _) (some ⟨wr.heap.size, 0, none⟩) 1 1 (by rfl) [0] (padK key (j + 1)) (padK_push key j) rfl (one_byte wr 0) (fun e => by cases e) (by rw [padK_length]; omega) (by simp; omega) ?_; intro v4 w2 h2 k2; have O2 := hide h2; have B2 := hide (growB (World.ownsRow.alloc OX.out _) (BX.out.alloc hsx _) k2); clear h2 k2)
        go_roundg g1
        case measure => omega
        case rel => exact ⟨j + 1, by omega, O2, B2⟩
  · have h64' : ¬ (64 : Int) < (N : Int) := by omega
    have O4 : Hid (OwnsB w1 w.heap.size v5 (kB key)) := by
      have : kB key = key := if_neg (by rw [← HN.out]; exact h64)
      rw [this]; exact O1
    clear O1 E0 BE hz
    go_wp2_with fail
    go_loopg [5] (64 - (kB key).length) (fun gk u5 wx => ∃ j : Nat, j + gk = 64 - (kB key).length ∧ Hid (OwnsB wx w.heap.size u5 (padK key j)) ∧ Hid (Below w.heap.size w wx))
    case atStart => exact ⟨0, by omega, by simpa [padK] using O4, B1⟩
    case round =>
      obtain ⟨j, hjg, OX, BX⟩ := hrel
      obtain ⟨a3, c3, rfl, hc3, hm3, hn3⟩ := OX.out.form
      have hml : (padK key j).length = (kB key).length + j := padK_length key j
      have hsx := BX.out.size
      cases gk with
      | zero =>
        have hk64 : padK key j = k64 key := by unfold padK k64; rw [show j = 64 - (kB key).length by omega]
        rw [hk64] at OX hml ⊢
        rw [k64_length] at OX ⊢
        have hge : ¬ ((64 : Nat) : Int) < 64 := by omega
        have OZ : Hid (OwnsB wr w.heap.size (.slice a3 64 c3) (flipL (k64 key) x 0)) := by rw [flipL_zero]; exact OX
        obtain ⟨g, rfl, hgb, _, _, _⟩ := OX.out.some_ (by rw [k64_length]; omega)
        clear OX
        go_wp2_with fail
        go_loopg [7] 64 (fun gk u7 wx => ∃ i : Nat, i + gk = 64 ∧ u7 = .int .i64 i ∧ Hid (OwnsB wx w.heap.size (.slice (some ⟨g, 0, none⟩) 64 c3) (flipL (k64 key) x i)) ∧ Hid (Below w.heap.size w wx))
        case atStart => exact ⟨0, by omega, rfl, OZ, BX⟩
        case round =>
          obtain ⟨i, hig, rfl, OI, BI⟩ := hrel
          cases gk with
          | zero =>
            obtain rfl : i = 64 := by omega
            have hge2 : ¬ ((64 : Nat) : Int) < 64 := by omega
            go_wp2_with fail
            go_ret
            refine ⟨_, rfl, ?_, BI.out⟩
            have h := OI.out
            rw [show flipL (k64 key) x 64 = kX key x by rw [kX, ← flipL_end, k64_length]] at h
            exact h
          | succ g1 =>
            have hlt : (i : Int) < 64 := by omega
            obtain ⟨g', e, _, _, hcs, hfs⟩ := OI.out.some_ (by rw [flipL_length, k64_length]; omega)
            simp only [Option.some.injEq, Addr.mk.injEq, and_true] at e
            subst e
            have hc := hcs i (by rw [flipL_length, k64_length]; omega)
            have hf := hfs i
            rw [flipL_at _ _ (by rw [k64_length]; omega)] at hc
            have hset := hide (OI.out.set i ((k64 key).getD i 0 ^^^ x))
            rw [flipL_set _ _ (by rw [k64_length]; omega)] at hset
            have hq := (k64_by HY.out).getD i
            have BS := hide (BI.out.setCell (p := ⟨g, i, none⟩) hgb (.int .u8 (((k64 key).getD i 0 ^^^ x : Nat) : Int)))
            have hxr := xor8 _ x hq hx
            generalize (k64 key).getD i 0 ^^^ x = Z at hset BS hxr
            generalize (k64 key).getD i 0 = K at hc hq hxr
            have i0 : (0 : Int) ≤ (i : Int) := by omega
            clear hcs hfs
            go_wp2_with fail
            go_roundg g1
            case measure => omega
            case rel => exact ⟨i + 1, by omega, by go_num, hset, BS⟩
      | succ g1 =>
        obtain ⟨M, hM⟩ : ∃ M, M = (padK key j).length := ⟨_, rfl⟩
        have hM64 : M < 64 := by omega
        have hlt : (M : Int) < 64 := by omega
        rw [← hM] at OX ⊢
        clear hM hml hc3 hn3
        go_wp2_with (refine wpList_appB _ rfl (.tmp 22) (.tmp 23) rfl w.heap.size (.slice a3 M c3) (padK key j) (by rfl) (World.ownsRow.alloc OX.out _) (some ⟨wr.heap.size, 0, none⟩) 1 1 (by rfl) [0] (padK key (j + 1)) (padK_push key j) rfl (one_byte wr 0) (fun e => by cases e) (by rw [padK_length]; omega) (by simp; omega) ?_; intro v4 w2 h2 k2; have O2 := hide h2; have B2 := hide (growB (World.ownsRow.alloc OX.out _) (BX.out.alloc hsx _) k2); clear h2 k2)
        go_roundg g1
        case measure => omega
        case rel => exact ⟨j + 1, by omega, O2, B2⟩
end Go.Proofs.YtgamfpgejkhbcaaDoor.S
namespace Go.Proofs.YtgamfpgejkhbcaaDoor.S
set_option maxRecDepth 100000
open Go Go.RowKit

set_option maxHeartbeats 4000000 in
theorem hsumr_c (a b : Option Addr) (ca cb : Nat) (key ys : List Nat) (w : World) (hk : By key) (hka : TextAt w a key) (hkn : a = none → key.length = 0 ∧ ca = 0) (hkl : key.length ≤ 140737488351232) (hy : By ys) (hyb : TextAt w b ys) (hyn : b = none → ys.length = 0 ∧ cb = 0) (hyl : ys.length ≤ 140737488351232) :
    Calls Tryd.prog 29 #[.slice a key.length ca, .slice b ys.length cb] w fun e w' => e = .returned (.agg (oA (hmac key ys) 20)) ∧ Below w.heap.size w w' := by
  have HW := fun W x (hx : x < 256) (k : Below w.heap.size w W) => hide (with_c a ca key x W hk (hka.below k) hkn hkl hx)
  have HYT := hide hyb
  have HYN := hide hyn
  have HKB := hide hk
  have HYB := hide hy
  have hz : ∀ w, (zeroValue 55).run Tryd.prog w = .ok (.agg (oA (hmac key ys) 0)) w := (zero20 _).1
  have hz' : oA (hmac key ys) 0 = oA (sum (kX key 54 ++ ys)) 0 := by rw [oA, oA, fA_zero, fA_zero]
  have H20 := fun s => hide (info20 (oB s) 20)
  obtain ⟨N, hN⟩ : ∃ N, N = key.length := ⟨_, rfl⟩
  obtain ⟨M, hM⟩ : ∃ M, M = ys.length := ⟨_, rfl⟩
  have HM := hide hM
  rw [← hN] at HW hkl ⊢
  rw [← hM] at hyl HYN ⊢
  have BA := hide ((Below.refl _ w).alloc (Nat.le_refl _) (.cells (oA (hmac key ys) 0) 55) : Below w.heap.size w _)
  have HZ := hide hz'
  have hRB : By (kX key 54 ++ ys) := (kX_by hk (by omega)).append hy
  have HQ1 := fun W v (o : OwnsB W w.heap.size v (kX key 54 ++ ys)) => hide (show Calls Tryd.prog 42 #[v] W fun e w' => e = .returned (.agg (oA (sum (kX key 54 ++ ys)) 20)) ∧ Below W.heap.size W w' by
    obtain ⟨a', c', rfl, _, _, hn⟩ := o.form
    exact rsum_big a' c' _ W hRB o.text hn (by rw [List.length_append, kX_length, ← HM.out]; omega))
  clear hk hka hkn hy hyb hyn hN hM hz' hRB
  go_enter Tryd.func29, Tryd.ntmps29
  go_upto_region 2 with (first
    | (go_at_call 43; refine (HW _ 54 (by omega) BA.out).out.mono ?_; rintro e w1 ⟨v7, rfl, o1, b1⟩; have O1 := hide (o1.low BA.out.size); have B1 := hide (BA.out.trans (b1.mono BA.out.size)); have R1 := hide ((b1.block w.heap.size (by simp)).trans (heap_new w _)); clear o1 b1)
    | (refine wpList_appB _ rfl (.tmp 7) (.tmp 8) rfl w.heap.size v7 (kX key 54) (by rfl) O1.out b M cb (by rfl) ys (kX key 54 ++ ys) rfl HM.out.symm (HYT.out.below B1.out) HYN.out (by rw [kX_length]; omega) B1.out.size ?_; intro v9 w2 h2 k2; have O2 := hide h2; have B2 := hide (growB O1.out B1.out k2); have R2 := hide ((Kept.of_grown k2).heap R1.out (own_not O1.out R1.out)); clear h2 k2)
    | (go_at_call 42; refine (HQ1 _ _ O2.out).out.mono ?_; rintro e w3 ⟨rfl, b3⟩; have B3 := hide (B2.out.trans (b3.mono B2.out.size)); have R3 := hide ((b3.block _ (lt_of_block' R2.out)).trans R2.out); clear b3)
    | (refine wpList_store_row rfl 55 (.tmp 5) (.tmp 10) rfl w3.heap.size (oA (sum (kX key 54 ++ ys)) 20) (by rfl) (by rfl) (oA (hmac key ys) 0) 55 (heap_new _ _) (H20 _).out (by rw [oA, oA, fA_size, fA_size]) (fA_one _ _ _ _) ?_; intro w4 G4 K4))
  have hs3 := B3.out.size
  have B4 := hide ((B3.out.alloc hs3 (.cells (oA (hmac key ys) 0) 55)).trans (K4.out.below (by simp; omega) (fun i hi e => by omega)))
  have R4 := hide (K4.out.heap (heap_old R3.out) (by have := lt_of_block' R3.out; omega))
  have T4 := hide (text20 G4.out)
  have hsl := fun W => slice20 W w3.heap.size
  obtain ⟨bi, hbi⟩ : ∃ bi, bi = w3.heap.size := ⟨_, rfl⟩
  rw [← hbi] at T4 hsl ⊢
  have HW2 := hide (HW w4.drew 92 (by omega) ⟨B4.out.os, B4.out.tape, B4.out.output, B4.out.size, B4.out.block⟩).out
  clear hbi K4 G4 R3 B3 R2 B2 R1 B1 O1 O2 HQ1 HW BA hs3
  simp only [Act.put]
  refine wp_region_any (by kernel_rfl) ?_
  try (change wpAny _ _ _ _ _ _ _ (World.drew _))
  (refine wpAny_take (i := 0) (v := ?_) rfl (by kernel_rfl) (by kernel_rfl) (by kernel_rfl) (fun _ _ _ h => h) (Or.inl ⟨by rfl, ?_⟩) ?_; rotate_left; (intro w; go_simp); (try with_reducible rfl); try simp only [Act.put, List.getElem_toArray, List.getElem_cons_zero, List.setIfInBounds_toArray, List.set_cons_zero, List.set_cons_succ])
  (refine wpAny_take (i := 2) (v := ?_) rfl (by kernel_rfl) (by kernel_rfl) (by kernel_rfl) (fun _ _ _ h => h) (Or.inl ⟨by rfl, ?_⟩) ?_; rotate_left; (intro w; go_simp); (try with_reducible rfl); try simp only [Act.put, List.getElem_toArray, List.getElem_cons_zero, List.getElem_cons_succ, List.setIfInBounds_toArray, List.set_cons_zero, List.set_cons_succ])
  refine wpAny_ready (rs := [1]) (by kernel_rfl) (by simp) ?_
  refine AllReady.cons rfl (fun K hK => ?_) AllReady.nil
  refine step_call rfl 43 #[.slice a N ca, .int .u8 92] (by kernel_rfl) HW2.out ?_
  rintro e w5 ⟨v12, rfl, o5, b5⟩
  refine ⟨v12, rfl, hK _ _ ?_⟩
  clear hK K
  have hs4 := B4.out.size
  have O5 := hide (o5.low (show w.heap.size ≤ w4.drew.heap.size from hs4))
  have B5 : Hid (Below w.heap.size w w5) := B4.out.trans ((⟨b5.os, b5.tape, b5.output, b5.size, b5.block⟩ : Below w4.heap.size w4 w5).mono hs4)
  have T5 := hide (T4.out.below (⟨b5.os, b5.tape, b5.output, b5.size, b5.block⟩ : Below w4.heap.size w4 w5))
  have R5 := hide ((b5.block w.heap.size (lt_of_block' R4.out)).trans R4.out)
  clear o5 b5 HW2 hs4
  simp only [Act.put, List.getElem_toArray, List.getElem_cons_zero, List.getElem_cons_succ, List.setIfInBounds_toArray, List.set_cons_zero, List.set_cons_succ]
  refine wpAny_ready (rs := [3]) (by kernel_rfl) (by simp) ?_
  refine AllReady.cons rfl (fun K hK => ?_) AllReady.nil
  refine step_appB w5 rfl (.tmp 12) (.tmp 13) rfl w.heap.size v12 (kX key 92) rfl O5.out ⟨bi, 0, none⟩ 20 20 rfl (outL (sum (kX key 54 ++ ys))) (outL_length _) T5.out (by rw [kX_length]; omega) B5.out.size ?_
  intro v14 w6 o6 g6
  refine hK _ _ ?_
  clear hK K
  have O6 := hide o6
  have B6 := hide (growB O5.out B5.out g6)
  have R6 := hide ((Kept.of_grown g6).heap R5.out (own_not O5.out R5.out))
  clear o6 g6
  simp only [Act.put, List.getElem_toArray, List.getElem_cons_zero, List.getElem_cons_succ, List.setIfInBounds_toArray, List.set_cons_zero, List.set_cons_succ]
  refine wpAny_ready (rs := [4]) (by kernel_rfl) (by simp) ?_
  refine AllReady.cons rfl (fun K hK => ?_) AllReady.nil
  have HQ2 : Hid (Calls Tryd.prog 42 #[v14] w6 fun e w' => e = .returned (.agg (oA (hmac key ys) 20)) ∧ Below w6.heap.size w6 w') := by
    obtain ⟨a', c', rfl, _, _, hn⟩ := O6.out.form
    exact rsum_c a' c' _ w6 ((kX_by HKB.out (by omega)).append (outL_by _)) O6.out.text hn (by rw [List.length_append, kX_length, outL_length]; omega)
  refine step_call rfl 42 #[v14] (by kernel_rfl) HQ2.out ?_
  rintro e w7 ⟨rfl, b7⟩
  refine ⟨_, rfl, hK _ _ ?_⟩
  clear hK K
  have R7 := hide ((b7.block w.heap.size (lt_of_block' R6.out)).trans R6.out)
  have B7 := hide (B6.out.trans (b7.mono B6.out.size))
  simp only [Act.put, List.getElem_toArray, List.getElem_cons_zero, List.getElem_cons_succ, List.setIfInBounds_toArray, List.set_cons_zero, List.set_cons_succ]
  refine wpAny_ready (rs := [5]) (by kernel_rfl) (by simp) ?_
  refine AllReady.cons rfl (fun K hK => ?_) AllReady.nil
  refine step_store rfl 55 (.tmp 4) (.tmp 15) rfl w.heap.size (oA (hmac key ys) 20) rfl rfl (oA (hmac key ys) 0) 55 R7.out (H20 _).out (by rw [oA, oA, fA_size, fA_size]) (fA_one _ _ _ _) ?_
  intro w8 G8 K8
  refine hK _ _ ?_
  clear hK K
  refine wpAny_done (by kernel_rfl) ?_ _
  go_wp2_with fail
  have hld : (loadVar 55 ⟨w.heap.size, 0, none⟩).run Tryd.prog w8 = .ok (.agg (oA (hmac key ys) 20)) w8 :=
    run_loadVar_row _ _ 55 55 (oA (hmac key ys) 20) (0, 0) _ G8.out Tryd.underlying55 rfl (H20 _).out
  refine bodyPost_ret (v := .agg (oA (hmac key ys) 20)) ?_ rfl ⟨rfl, B7.out.trans (K8.out.below B7.out.size (fun i hi e => by omega))⟩
  simp [results, asAddr, Act.put, hld]
end Go.Proofs.YtgamfpgejkhbcaaDoor.S
namespace Go.Proofs.YtgamfpgejkhbcaaDoor.S
set_option maxRecDepth 100000
open Go Go.RowKit

/-- What stands in memory while T is made: U and T. -/
structure PR (w : World) (b10 b11 : Nat) (us ts : List Nat) (wx : World) : Prop where
  u : wx.heap[b10]? = some (.cells (bA us) 55 (0, 0))
  t : wx.heap[b11]? = some (.cells (bA ts) 55 (0, 0))
  bel : Below w.heap.size w wx
theorem PR.drew {w wx : World} {b10 b11 : Nat} {us ts : List Nat} (h : PR w b10 b11 us ts wx) : PR w b10 b11 us ts wx.drew :=
  ⟨h.u, h.t, ⟨h.bel.os, h.bel.tape, h.bel.output, h.bel.size, h.bel.block⟩⟩
theorem PR.setT {w wx : World} {b10 b11 : Nat} {us ts : List Nat} (h : PR w b10 b11 us ts wx) (hl : ts.length = 20) (h1 : w.heap.size ≤ b10) (h2 : b10 < b11) {n : Nat} (hn : n < 20) (y : Nat) : PR w b10 b11 us (ts.set n y) (wx.setCell ⟨b11, n, none⟩ (.int .u8 (y : Int))) :=
  ⟨(set_other (by omega)).trans h.u, set_bA hl h.t hn y, h.bel.setCell (p := ⟨b11, n, none⟩) (by show w.heap.size ≤ b11; omega) _⟩
theorem PR.newU {w wx wy wz : World} {b10 b11 : Nat} {us ts us' : List Nat} (h : PR w b10 b11 us ts wx) (h1 : w.heap.size ≤ b10) (h2 : b10 < b11) (k : Below wx.heap.size wx wy) (g : wz.heap[b10]? = some (.cells (bA us') 55 (0, 0))) (k2 : Kept (fun k => k = b10) wy wz) : PR w b10 b11 us' ts wz := by
  have l11 := lt_of_block' h.t
  have B := h.bel.trans (k.mono h.bel.size)
  exact ⟨g, k2.heap ((k.block _ l11).trans h.t) (by omega), B.trans (k2.below B.size (fun i hi e => by omega))⟩
theorem idx2_text {w : World} {b i : Nat} (hi : i ≤ 1000) (h : w.heap[b]? = some (.cells #[.int .u8 0, .int .u8 0, .int .u8 ((i : Int) / 256), .int .u8 ((i : Int) % 256)] 5 (0, 0))) : TextAt w (some ⟨b, 0, none⟩) (be4 i) := by
  have e2 : (i : Int) / 256 = ((i / 256 % 256 : Nat) : Int) := by omega
  have e3 : (i : Int) % 256 = ((i % 256 : Nat) : Int) := by omega
  have e0 : i / 16777216 % 256 = 0 := by omega
  have e1 : i / 65536 % 256 = 0 := by omega
  rw [e2, e3] at h
  refine .inr ⟨b, 0, rfl, lt_of_block h, fun j hj => ?_⟩
  rw [Nat.zero_add, cells_of h]
  unfold be4
  rw [e0, e1]
  match j, hj with
  | 0, _ => rfl
  | 1, _ => rfl
  | 2, _ => rfl
  | 3, _ => rfl
/-- What the reference's Key answers where it does not refuse. -/
def RKeyOk (pw salt : List Nat) (r L : Nat) (w : World) (e : Ending) (w' : World) : Prop :=
  ∃ a c, e = .returned (.tuple #[.slice a L c, .bool true]) ∧ TextAt w' a (keyK pw salt (r + 1) L) ∧ (a = none → L = 0 ∧ c = 0) ∧ L ≤ c ∧ c ≤ 9223372036854775807 ∧ Below w.heap.size w w'

set_option maxHeartbeats 4000000 in
theorem rkey_c (a sa : Option Addr) (ca sc : Nat) (pw salt : List Nat) (r L : Nat) (w : World) (hk : By pw) (hka : TextAt w a pw) (hkn : a = none → pw.length = 0 ∧ ca = 0) (hkl : pw.length ≤ 3000)
    (hs : By salt) (hst : TextAt w sa salt) (hsn : sa = none → salt.length = 0 ∧ sc = 0) (hsl : salt.length ≤ 3000) (hr : r < 5000) (hL : L ≤ 1000) :
    Calls Tryd.prog 28 #[.slice a pw.length ca, .slice sa salt.length sc, .int .i64 ((r : Int) + 1), .int .i64 (L : Int)] w (RKeyOk pw salt r L w) := by
  have hz : ∀ w, (zeroValue 55).run Tryd.prog w = .ok (.agg (oA st0 0)) w := (zero20 _).1
  have HSU := fun (W : World) (b : Option Addr) (c : Nat) (ys : List Nat) (k : Below w.heap.size w W) (hy : By ys) (hb : TextAt W b ys) (hn : b = none → ys.length = 0 ∧ c = 0) (hyl : ys.length ≤ 140737488351232) => hide (hsumr_c a b ca c pw ys W hk (hka.below k) hkn (by omega) hy hb hn hyl)
  have H20 := fun s => hide (info20 (oB s) 20)
  have HSB := hide hs
  have HST := hide hst
  have HSN := hide hsn
  obtain ⟨N, hN⟩ : ∃ N, N = pw.length := ⟨_, rfl⟩
  obtain ⟨M, hM⟩ : ∃ M, M = salt.length := ⟨_, rfl⟩
  have HM := hide hM
  rw [← hN] at HSU ⊢
  rw [← hM] at HSN hsl ⊢
  clear hk hka hkn hkl hs hst hsn hN hM
  have r1 : ¬ (r : Int) + 1 < 1 := by omega
  have r2 : ¬ (5000 : Int) < (r : Int) + 1 := by omega
  have r3 : ¬ (L : Int) < 0 := by omega
  have r4 : ¬ (1000 : Int) < (L : Int) := by omega
  obtain ⟨n, hn⟩ : ∃ n, n = (L + 19) / 20 := ⟨_, rfl⟩
  have hn2 : n ≤ 50 ∧ L ≤ 20 * n ∧ 20 * n < L + 20 := by omega
  have HKK := hide (show (tsK pw salt r n).take L = keyK pw salt (r + 1) L by rw [hn]; rfl)
  have HLN := hide (show n = 0 → L = 0 by omega)
  clear hn
  go_enter Tryd.func28, Tryd.ntmps28
  go_wp2_with fail
  go_loopg [10, 11] n (fun gk u10 u11 wx => ∃ i : Nat, i + gk = n + 1 ∧ 1 ≤ i ∧ u11 = .int .i64 i ∧ Hid (OwnsB wx w.heap.size u10 (tsK pw salt r (i - 1))) ∧ Hid (Below w.heap.size w wx))
  case atStart => exact ⟨1, by omega, by omega, rfl, OwnsB.nil _ _, Below.refl _ _⟩
  case round =>
    obtain ⟨i, hig, hi1, rfl, OX, BX⟩ := hrel
    obtain ⟨a4, c4, rfl, hc4, hm4, hn4⟩ := OX.out.form
    cases gk with
    | zero =>
      obtain rfl : i = n + 1 := by omega
      rw [Nat.add_sub_cancel] at OX hc4 hn4 ⊢
      have hge : ¬ (((tsK pw salt r n).length : Nat) : Int) < (L : Int) := by rw [tsK_length]; omega
      have HT := hide OX.out.text
      have hs4 : ∃ a5, (∀ W, (Instr.sliceAt 22 (.slice a4 (tsK pw salt r n).length c4) none (some (.int .i64 (L : Int))) none).run Tryd.prog W = .ok (.slice a5 L c4) W) ∧ a5 = a4 ∧ (a5 = none → L = 0 ∧ c4 = 0) := by
        rcases OX.out.bs with h0 | ⟨g, rfl, _⟩
        · rw [tsK_length] at h0
          have hj0 : n = 0 := by omega
          have hL0 := HLN.out hj0
          subst hj0 hL0
          cases a4 with
          | none =>
            obtain ⟨_, rfl⟩ := hn4 rfl
            exact ⟨none, fun W => slice_h_nil .i64 W, rfl, fun _ => ⟨rfl, rfl⟩⟩
          | some ad =>
            have h2 := OX.out.2
            rcases h2 with ⟨e, _⟩ | ⟨g, cap, cur, e, _⟩
            · cases e
            · simp only [Value.slice.injEq, Option.some.injEq] at e
              obtain ⟨rfl, _, _⟩ := e
              exact ⟨_, fun W => slice_h .i64 W g 0 _ c4 0 (by omega), rfl, fun e => by cases e⟩
        · exact ⟨_, fun W => slice_h .i64 W g 0 _ c4 L (by rw [tsK_length] at hc4; omega), rfl, fun e => by cases e⟩
      obtain ⟨a5, hsl5, rfl, hnil⟩ := hs4
      have HNI := hide hnil
      have hLc : L ≤ c4 := by rw [tsK_length] at hc4; omega
      have hm5 : c4 ≤ 9223372036854775807 := by unfold maxLen at hm4; omega
      clear OX hc4 hm4 hn4 hnil
      generalize (tsK pw salt r n).length = tl at hsl5 hge ⊢
      go_wp2_with fail
      go_ret2
      exact ⟨a5, c4, rfl, by rw [← HKK.out]; exact HT.out.take L, HNI.out, hLc, hm5, BX.out⟩
    | succ g1 =>
      have hlt : (((tsK pw salt r (i - 1)).length : Nat) : Int) < (L : Int) := by rw [tsK_length]; omega
      have hi2 : i ≤ 50 := by omega
      obtain ⟨W0, hW0⟩ : ∃ W0, W0 = wr := ⟨_, rfl⟩
      rw [← hW0] at OX BX ⊢
      clear hW0
      have hsx := BX.out.size
      obtain ⟨T, hT⟩ : ∃ T, T = (tsK pw salt r (i - 1)).length := ⟨_, rfl⟩
      have hTl : T ≤ 1000 := by rw [hT, tsK_length]; omega
      rw [← hT] at hlt OX ⊢
      clear hT hc4 hm4 hn4
      have HTT := hide (show tsK pw salt r (i - 1) ++ tK pw salt i r = tsK pw salt r (i + 1 - 1) by
        obtain ⟨j, rfl⟩ : ∃ j, i = j + 1 := ⟨i - 1, by omega⟩
        rw [Nat.add_sub_cancel, Nat.add_sub_cancel]; rfl)
      obtain ⟨Y, hY⟩ : ∃ Y, Y = salt ++ be4 i := ⟨_, rfl⟩
      have HYE := hide hY.symm
      have HYB : Hid (By Y) := by rw [hY]; exact HSB.out.append (be4_by i)
      have hYl : Y.length ≤ 3004 := by
        have : Y.length = M + 4 := by rw [hY, List.length_append, HM.out]; rfl
        omega
      have HU0 := hide (show uK pw salt i 0 = hmac pw Y by rw [hY]; rfl)
      clear hY
      have E0 := hide (OwnsB.empty W0 W0.heap.size (Nat.le_refl _))
      have BE := hide ((Below.refl _ W0).alloc (Nat.le_refl _) (.cells #[] 5) : Below W0.heap.size W0 _)
      have HT0 := hide ((HST.out.below BX.out).below BE.out)
      go_upto_region 8 with (refine wpList_appB _ rfl (.tmp 37) (.tmp 38) rfl W0.heap.size (.slice (some ⟨W0.heap.size, 0, none⟩) 0 0) [] (by rfl) E0.out sa M sc (by rfl) salt salt (by rfl) HM.out.symm HT0.out HSN.out (by simp; omega) (by simp) ?_; intro v12 w1 h1 k1; have O1 := hide h1; have B1 := hide (growB E0.out BE.out k1); clear h1 k1)
      have X1 := hide (idx2_text (by omega) (heap_new w1 (.cells #[.int .u8 0, .int .u8 0, .int .u8 ((i : Int) / 256), .int .u8 ((i : Int) % 256)] 5)))
      have A1 := hide (World.ownsRow.alloc O1.out (.cells #[.int .u8 0, .int .u8 0, .int .u8 ((i : Int) / 256), .int .u8 ((i : Int) % 256)] 5) : OwnsB _ W0.heap.size v12 salt)
      have hs1 := B1.out.size
      have BA1 := hide (B1.out.alloc hs1 (.cells #[.int .u8 0, .int .u8 0, .int .u8 ((i : Int) / 256), .int .u8 ((i : Int) % 256)] 5))
      clear E0 BE HT0 O1
      go_upto_region 10 with (first
        | (refine wpList_appB _ rfl (.tmp 41) (.tmp 48) rfl W0.heap.size v12 salt (by rfl) A1.out (some ⟨w1.heap.size, 0, none⟩) 4 4 (by rfl) (be4 i) Y HYE.out rfl X1.out (fun e => by cases e) (by rw [← HM.out]; omega) (by simp; omega) ?_; intro v9 w2 h2 k2; obtain ⟨a9, c9, rfl, hc9, hm9, hn9⟩ := h2.form; have B2 := hide (growB A1.out BA1.out k2); have HC1 := hide (HSU w2 a9 c9 Y (BX.out.trans (B2.out.mono BX.out.size)) HYB.out h2.text hn9 (by omega)).out; clear h2 k2 hc9 hm9 hn9)
        | (go_at_call 29; refine HC1.out.mono ?_; rintro e w3 ⟨rfl, k3⟩; have B3 := hide (B2.out.trans (k3.mono B2.out.size)); clear k3)
        | (refine wpList_store_row rfl 55 (.tmp 13) (.tmp 50) rfl w3.heap.size (oA (hmac pw Y) 20) (by rfl) (by rfl) (oA st0 0) 55 (heap_new _ _) (H20 _).out (by rw [oA, oA, fA_size, fA_size]) (fA_one _ _ _ _) ?_; intro w4 G4 K4)
        | (refine wpList_load_row rfl 55 (.tmp 13) rfl w3.heap.size (by rfl) (oA (hmac pw Y) 20) 55 (0, 0) G4.out _ Tryd.underlying55 rfl (H20 _).out ?_)
        | (refine wpList_store_row rfl 55 (.tmp 14) (.tmp 51) rfl w4.heap.size (oA (hmac pw Y) 20) (by rfl) (by rfl) (oA st0 0) 55 (heap_new _ _) (H20 _).out (by rw [oA, oA, fA_size, fA_size]) (fA_one _ _ _ _) ?_; intro w5 G5 K5))
      have hs3 := B3.out.size
      have l34 := lt_of_block' G4.out
      have B4 := (B3.out.alloc hs3 (.cells (oA st0 0) 55)).trans (K4.out.below (by simp; omega) (fun i hi e => by omega))
      have B5 := (B4.alloc B4.size (.cells (oA st0 0) 55)).trans (K5.out.below (by have := B4.size; simp; omega) (fun i hi e => by omega))
      have PS0 : Hid (PR W0 w3.heap.size w4.heap.size (outL (uK pw salt i 0)) (tK pw salt i 0) w5) :=
        ⟨by rw [HU0.out, ← oA_bA]; exact K5.out.heap (heap_old G4.out) (by omega), by rw [tK, HU0.out, ← oA_bA]; exact G5.out, B5⟩
      obtain ⟨b10, hb10⟩ : ∃ b10, b10 = w3.heap.size := ⟨_, rfl⟩
      obtain ⟨b11, hb11⟩ : ∃ b11, b11 = w4.heap.size := ⟨_, rfl⟩
      rw [← hb10] at hs3
      rw [← hb10, ← hb11] at l34 PS0 ⊢
      have hsl10 := fun W => slice20 W b10
      have hsl11 := fun W => slice20 W b11
      clear hb10 hb11 B4 B5 K4 G4 K5 G5 HC1 B2 B3 B1 X1 A1 BA1 HYE HYB HU0 hs1
      go_wp2_with fail
      go_loopg [15] r (fun gk u15 wx => ∃ k : Nat, k + gk = r ∧ u15 = .int .i64 ((k : Int) + 1) ∧ Hid (PR W0 b10 b11 (outL (uK pw salt i k)) (tK pw salt i k) wx))
      case atStart => exact ⟨0, by omega, rfl, PS0⟩
      case round =>
        obtain ⟨k, hkg, rfl, HX⟩ := hrel
        clear PS0
        cases gk with
        | zero =>
          obtain rfl : k = r := by omega
          have hge : ¬ (k : Int) + 1 < (k : Int) + 1 := by omega
          have BR := hide (BX.out.trans (HX.out.bel.mono BX.out.size))
          have OR := hide (OX.out.stay HX.out.bel)
          have TR := hide (textA (tK_length _ _ _ _) HX.out.t)
          have hsr := BR.out.size
          clear HX
          go_wp2_with (refine wpList_appB _ rfl (.tmp 73) (.tmp 74) rfl w.heap.size (.slice a4 T c4) (tsK pw salt k (i - 1)) (by rfl) OR.out (some ⟨b11, 0, none⟩) 20 20 (by rfl) (tK pw salt i k) (tsK pw salt k (i + 1 - 1)) HTT.out (tK_length _ _ _ _) TR.out (fun e => by cases e) (by rw [tsK_length]; omega) hsr ?_; intro v7 w7 h7 k7; have O7 := hide h7; have B7 := hide (growB OR.out BR.out k7); clear h7 k7)
          go_roundg g1
          case measure => omega
          case rel => exact ⟨i + 1, by omega, by omega, by go_num, O7, B7⟩
        | succ g2 =>
          have hlt2 : (k : Int) + 1 < (r : Int) + 1 := by omega
          obtain ⟨S1, hS1⟩ : ∃ S1, S1 = uK pw salt i (k + 1) := ⟨_, rfl⟩
          have HS1 := hide hS1
          have HC := hide (HSU wr (some ⟨b10, 0, none⟩) 20 (outL (uK pw salt i k)) (BX.out.trans (HX.out.bel.mono BX.out.size)) (outL_by _) (textA (outL_length _) HX.out.u) (fun e => by cases e) (by rw [outL_length]; omega)).out
          rw [outL_length, show hmac pw (outL (uK pw salt i k)) = S1 from hS1.symm] at HC
          have XU := hide HX.out.u
          have HUS := hide (show (bA (outL (uK pw salt i k))).size = (oA S1 20).size by rw [oA, fA_size, bA_size])
          clear hS1
          generalize bA (outL (uK pw salt i k)) = uc at XU HUS
          go_upto_region 14 with (first
            | (go_at_call 29; refine HC.out.mono ?_; rintro e w5 ⟨rfl, k5⟩; have K5 := hide k5; have YU := hide ((k5.block _ (lt_of_block' XU.out)).trans XU.out); clear k5)
            | (refine wpList_store_row rfl 55 (.tmp 13) (.tmp 59) rfl b10 (oA S1 20) (by rfl) (by rfl) uc 55 YU.out (H20 _).out HUS.out (fA_one _ _ _ _) ?_; intro w6 G6 K6))
          have HP := hide (HX.out.newU hs3 l34 K5.out (us' := outL S1) (by rw [← oA_bA]; exact G6.out) K6.out)
          have HP0 : Hid (PR W0 b10 b11 (outL S1) (mixL (tK pw salt i k) (outL S1) 0) w6) := by rw [mixL_zero]; exact HP
          have HNX := hide (show mixL (tK pw salt i k) (outL S1) 20 = tK pw salt i (k + 1) by
            rw [mixL_end (by rw [tK_length, outL_length]) (tK_length _ _ _ _).symm, HS1.out]; rfl)
          have HUX := hide (show outL S1 = outL (uK pw salt i (k + 1)) by rw [HS1.out])
          have HTB := hide (tK_by pw salt i k)
          have HTL := hide (tK_length pw salt i k)
          clear HP HX K5 K6 G6 YU XU HC HUS HS1
          generalize tK pw salt i k = T0 at HP0 HNX HTB HTL
          obtain ⟨V, hV⟩ : ∃ V, V = outL S1 := ⟨_, rfl⟩
          have HVL := hide (show V.length = 20 by rw [hV]; exact outL_length _)
          have HVB := hide (show By V by rw [hV]; exact outL_by _)
          rw [← hV] at HP0 HNX HUX
          clear hV
          go_wp2_with fail
          go_loopg [16] 20 (fun gk u16 wx => ∃ n : Nat, n + gk = 20 ∧ u16 = .int .i64 n ∧ Hid (PR W0 b10 b11 V (mixL T0 V n) wx))
          case atStart => exact ⟨0, by omega, rfl, HP0⟩
          case round =>
            obtain ⟨m, hng, rfl, HY⟩ := hrel
            clear HP0
            cases gk with
            | zero =>
              obtain rfl : m = 20 := by omega
              have hge : ¬ ((20 : Nat) : Int) < 20 := by omega
              rw [HNX.out, HUX.out] at HY
              clear HNX HUX
              go_wp2_with fail
              go_roundg g2
              case measure => omega
              case rel => exact ⟨k + 1, by omega, by go_num, HY⟩
            | succ g3 =>
              have hlt3 : (m : Int) < 20 := by omega
              have hm : m < 20 := by omega
              have hTV : T0.length = V.length := HTL.out.trans HVL.out.symm
              have hY2 := HY.out.drew
              have cu := (cells_of hY2.u m).trans (bA_at V hm)
              have ct := (cells_of hY2.t m).trans (bA_at _ hm)
              rw [mixL_at hTV (by rw [HTL.out]; exact hm)] at ct
              have ft := free_of hY2.t m
              have hset := hide (hY2.setT (by rw [mixL_length hTV]; exact HTL.out) hs3 l34 hm (T0.getD m 0 ^^^ V.getD m 0))
              rw [mixL_set hTV (by rw [HTL.out]; exact hm)] at hset
              have q1 := HTB.out.getD m
              have q2 := HVB.out.getD m
              have hxr := xor8 _ _ q1 q2
              generalize T0.getD m 0 ^^^ V.getD m 0 = Zv at hset hxr
              generalize T0.getD m 0 = Tv at ct q1 hxr
              generalize V.getD m 0 = Uv at cu q2 hxr
              have m0 : (0 : Int) ≤ (m : Int) := by omega
              clear hY2 hTV hm
              go_upto_region 17 with fail
              go_region_with (fail)
              all_goals go_wp2_with fail
              all_goals (go_roundg g3; (case measure => omega); (case rel => exact ⟨m + 1, by omega, by go_num, hset⟩))

/-- The reference's Key refuses. -/
theorem rkey_no (v u : Value) (r L : Int) (w : World) (h : r < 1 ∨ 5000 < r ∨ L < 0 ∨ 1000 < L) :
    Calls Tryd.prog 28 #[v, u, .int .i64 r, .int .i64 L] w fun e w' => e = .returned (.tuple #[.slice none 0 0, .bool false]) ∧ w' = w := by
  by_cases h1 : r < 1
  · go_enter Tryd.func28, Tryd.ntmps28
    go_wp2_with fail
    go_ret2
    exact ⟨rfl, rfl⟩
  · by_cases h2 : 5000 < r
    · go_enter Tryd.func28, Tryd.ntmps28
      go_wp2_with fail
      go_ret2
      exact ⟨rfl, rfl⟩
    · by_cases h3 : L < 0
      · go_enter Tryd.func28, Tryd.ntmps28
        go_wp2_with fail
        go_ret2
        exact ⟨rfl, rfl⟩
      · have h4 : 1000 < L := by omega
        go_enter Tryd.func28, Tryd.ntmps28
        go_wp2_with fail
        go_ret2
        exact ⟨rfl, rfl⟩
end Go.Proofs.YtgamfpgejkhbcaaDoor.S
