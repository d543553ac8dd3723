/- The reference's with: contract. -/
import Derived.Test.YtgafejgmjenfaaaSRef
import Derived.Test.YtgafejgmjenfaaaHOwn
namespace Go.Proofs.Ytgafejgmjenfaaa.S
set_option maxRecDepth 100000
open Go Go.RowKit

/-- A key with some bytes 0 behind it. -/
def padK (key : List Nat) (j : Nat) : List Nat := kB key ++ List.replicate j 0
theorem padK_push (key : List Nat) (j : Nat) : padK key j ++ [0] = padK key (j + 1) := by simp [padK, List.replicate_succ']
theorem padK_length (key : List Nat) (j : Nat) : (padK key j).length = (kB key).length + j := by simp [padK]
/-- What with answers. -/
def WithOk (key : List Nat) (x base : Nat) (w : World) (e : Ending) (w' : World) : Prop := ∃ v, e = .returned v ∧ OwnsB w' base v (kX key x) ∧ Below w.heap.size w w'

set_option maxHeartbeats 4000000 in
theorem with_c (a : Option Addr) (cap : Nat) (key : List Nat) (x : Nat) (w : World) (hy : By key) (hb : TextAt w a key) (hnone : a = none → key.length = 0 ∧ cap = 0) (hl : key.length ≤ 140737488351232) (hx : x < 256) :
    Calls Try.prog 17 #[.slice a key.length cap, .int .u8 (x : Int)] w (WithOk key x w.heap.size w) := by
  have HB := hide hb
  have HY := hide hy
  have HNN := hide hnone
  have HQ := fun W (k : Below w.heap.size w W) => hide (rsum_c a cap key W hy (hb.below k) hnone hl)
  obtain ⟨N, hN⟩ : ∃ N, N = key.length := ⟨_, rfl⟩
  have HN := hide hN
  rw [← hN] at hl HNN HQ ⊢
  clear hb hnone hy hN
  have E0 := hide (OwnsB.empty w w.heap.size (Nat.le_refl _))
  have BE := hide ((Below.refl _ w).alloc (Nat.le_refl _) (.cells #[] 5) : Below w.heap.size w _)
  have hz : ∀ w, (zeroValue 24).run Try.prog w = .ok (.agg (oA (sum key) 0)) w := (zero20 _).1
  have H20 := hide (info20 (oB (sum key)) 20)
  go_enter Try.func17, Try.ntmps17
  go_upto_region 2 with (refine wpList_appB _ rfl (.tmp 8) (.tmp 9) rfl w.heap.size (.slice (some ⟨w.heap.size, 0, none⟩) 0 0) [] (by rfl) E0.out a N cap (by rfl) key key (by rfl) HN.out.symm (HB.out.below ((Below.refl _ w).alloc (Nat.le_refl _) _)) HNN.out (by simp; omega) (by simp) ?_; intro v5 w1 h1 k1; have O1 := hide h1; have B1 := hide (growB E0.out BE.out k1); clear h1 k1)
  by_cases h64 : 64 < N
  · have h64' : (64 : Int) < (N : Int) := by omega
    have HKB : Hid (kB key = outL (sum key)) := if_pos (by rw [← HN.out]; exact h64)
    go_upto_region 4 with (first
      | (go_at_call 15; refine (HQ _ B1.out).out.mono ?_; rintro e w2 ⟨rfl, b2⟩; have B2 := hide (B1.out.trans (b2.mono B1.out.size)); clear b2)
      | (refine wpList_store_row rfl 24 (.tmp 6) (.tmp 15) rfl w2.heap.size (oA (sum key) 20) (by rfl) (by rfl) (oA (sum key) 0) 24 (heap_new _ _) H20.out (by rw [oA, oA, fA_size, fA_size]) (fA_one _ _ _ _) ?_; intro w3 G3 K3))
    have hs2 := B2.out.size
    have B3 := hide ((B2.out.alloc hs2 (.cells (oA (sum key) 0) 24)).trans (K3.out.below (by simp; omega) (fun i hi e => by omega)))
    have hs3 := B3.out.size
    have T3 := hide (text20 G3.out)
    have hl3 := fun W => slice20 W w2.heap.size
    have E3 := hide (OwnsB.empty w3 w.heap.size hs3)
    have BE3 := hide (B3.out.alloc hs3 (.cells #[] 5))
    obtain ⟨bd, hbd⟩ : ∃ bd, bd = w2.heap.size := ⟨_, rfl⟩
    rw [← hbd] at T3 hl3 ⊢
    clear hbd K3 G3 hs2 O1 B1 E0 BE hz
    go_upto_region 5 with (refine wpList_appB _ rfl (.tmp 16) (.tmp 17) rfl w.heap.size (.slice (some ⟨w3.heap.size, 0, none⟩) 0 0) [] (by rfl) E3.out (some ⟨bd, 0, none⟩) 20 20 (by rfl) (outL (sum key)) (kB key) (by rw [HKB.out]; rfl) (outL_length _) (T3.out.below ((Below.refl _ w3).alloc (Nat.le_refl _) _)) (fun e => by cases e) (by simp) (by simp; omega) ?_; intro v7 w4 h4 k4; have O4 := hide h4; have B4 := hide (growB E3.out BE3.out k4); clear h4 k4)
    clear E3 BE3 T3 hl3 B3 B2
    go_wp2_with fail
    go_loopg [5] (64 - (kB key).length) (fun gk u5 wx => ∃ j : Nat, j + gk = 64 - (kB key).length ∧ Hid (OwnsB wx w.heap.size u5 (padK key j)) ∧ Hid (Below w.heap.size w wx))
    case atStart => exact ⟨0, by omega, by simpa [padK] using O4, B4⟩
    case round =>
      obtain ⟨j, hjg, OX, BX⟩ := hrel
      obtain ⟨a3, c3, rfl, hc3, hm3, hn3⟩ := OX.out.form
      have hml : (padK key j).length = (kB key).length + j := padK_length key j
      have hsx := BX.out.size
      cases gk with
      | zero =>
        have hk64 : padK key j = k64 key := by unfold padK k64; rw [show j = 64 - (kB key).length by omega]
        rw [hk64] at OX hml ⊢
        rw [k64_length] at OX ⊢
        have hge : ¬ ((64 : Nat) : Int) < 64 := by omega
        have OZ : Hid (OwnsB wr w.heap.size (.slice a3 64 c3) (flipL (k64 key) x 0)) := by rw [flipL_zero]; exact OX
        obtain ⟨g, rfl, hgb, _, _, _⟩ := OX.out.some_ (by rw [k64_length]; omega)
        clear OX
        go_wp2_with fail
        go_loopg [7] 64 (fun gk u7 wx => ∃ i : Nat, i + gk = 64 ∧ u7 = .int .i64 i ∧ Hid (OwnsB wx w.heap.size (.slice (some ⟨g, 0, none⟩) 64 c3) (flipL (k64 key) x i)) ∧ Hid (Below w.heap.size w wx))
        case atStart => exact ⟨0, by omega, rfl, OZ, BX⟩
        case round =>
          obtain ⟨i, hig, rfl, OI, BI⟩ := hrel
          cases gk with
          | zero =>
            obtain rfl : i = 64 := by omega
            have hge2 : ¬ ((64 : Nat) : Int) < 64 := by omega
            go_wp2_with fail
            go_ret
            refine ⟨_, rfl, ?_, BI.out⟩
            have h := OI.out
            rw [show flipL (k64 key) x 64 = kX key x by rw [kX, ← flipL_end, k64_length]] at h
            exact h
          | succ g1 =>
            have hlt : (i : Int) < 64 := by omega
            obtain ⟨g', e, _, _, hcs, hfs⟩ := OI.out.some_ (by rw [flipL_length, k64_length]; omega)
            simp only [Option.some.injEq, Addr.mk.injEq, and_true] at e
            subst e
            have hc := hcs i (by rw [flipL_length, k64_length]; omega)
            have hf := hfs i
            rw [flipL_at _ _ (by rw [k64_length]; omega)] at hc
            have hset := hide (OI.out.set i ((k64 key).getD i 0 ^^^ x))
            rw [flipL_set _ _ (by rw [k64_length]; omega)] at hset
            have hq := (k64_by HY.out).getD i
            have BS := hide (BI.out.setCell (p := ⟨g, i, none⟩) hgb (.int .u8 (((k64 key).getD i 0 ^^^ x : Nat) : Int)))
            have hxr := xor8 _ x hq hx
            generalize (k64 key).getD i 0 ^^^ x = Z at hset BS hxr
            generalize (k64 key).getD i 0 = K at hc hq hxr
            have i0 : (0 : Int) ≤ (i : Int) := by omega
            clear hcs hfs
            go_wp2_with fail
            go_roundg g1
            case measure => omega
            case rel => exact ⟨i + 1, by omega, by go_num, hset, BS⟩
      | succ g1 =>
        obtain ⟨M, hM⟩ : ∃ M, M = (padK key j).length := ⟨_, rfl⟩
        have hM64 : M < 64 := by omega
        have hlt : (M : Int) < 64 := by omega
        rw [← hM] at OX ⊢
        clear hM hml hc3 hn3
        go_wp2_with (refine wpList_appB _ rfl (.tmp 22) (.tmp 23) rfl w.heap.size (.slice a3 M c3) (padK key j) (by rfl) (World.ownsRow.alloc OX.out _) (some ⟨wr.heap.size, 0, none⟩) 1 1 (by rfl) [0] (padK key (j + 1)) (padK_push key j) rfl (one_byte wr 0) (fun e => by cases e) (by rw [padK_length]; omega) (by simp; omega) ?_; intro v4 w2 h2 k2; have O2 := hide h2; have B2 := hide (growB (World.ownsRow.alloc OX.out _) (BX.out.alloc hsx _) k2); clear h2 k2)
        go_roundg g1
        case measure => omega
        case rel => exact ⟨j + 1, by omega, O2, B2⟩
  · have h64' : ¬ (64 : Int) < (N : Int) := by omega
    have O4 : Hid (OwnsB w1 w.heap.size v5 (kB key)) := by
      have : kB key = key := if_neg (by rw [← HN.out]; exact h64)
      rw [this]; exact O1
    clear O1 E0 BE hz
    go_wp2_with fail
    go_loopg [5] (64 - (kB key).length) (fun gk u5 wx => ∃ j : Nat, j + gk = 64 - (kB key).length ∧ Hid (OwnsB wx w.heap.size u5 (padK key j)) ∧ Hid (Below w.heap.size w wx))
    case atStart => exact ⟨0, by omega, by simpa [padK] using O4, B1⟩
    case round =>
      obtain ⟨j, hjg, OX, BX⟩ := hrel
      obtain ⟨a3, c3, rfl, hc3, hm3, hn3⟩ := OX.out.form
      have hml : (padK key j).length = (kB key).length + j := padK_length key j
      have hsx := BX.out.size
      cases gk with
      | zero =>
        have hk64 : padK key j = k64 key := by unfold padK k64; rw [show j = 64 - (kB key).length by omega]
        rw [hk64] at OX hml ⊢
        rw [k64_length] at OX ⊢
        have hge : ¬ ((64 : Nat) : Int) < 64 := by omega
        have OZ : Hid (OwnsB wr w.heap.size (.slice a3 64 c3) (flipL (k64 key) x 0)) := by rw [flipL_zero]; exact OX
        obtain ⟨g, rfl, hgb, _, _, _⟩ := OX.out.some_ (by rw [k64_length]; omega)
        clear OX
        go_wp2_with fail
        go_loopg [7] 64 (fun gk u7 wx => ∃ i : Nat, i + gk = 64 ∧ u7 = .int .i64 i ∧ Hid (OwnsB wx w.heap.size (.slice (some ⟨g, 0, none⟩) 64 c3) (flipL (k64 key) x i)) ∧ Hid (Below w.heap.size w wx))
        case atStart => exact ⟨0, by omega, rfl, OZ, BX⟩
        case round =>
          obtain ⟨i, hig, rfl, OI, BI⟩ := hrel
          cases gk with
          | zero =>
            obtain rfl : i = 64 := by omega
            have hge2 : ¬ ((64 : Nat) : Int) < 64 := by omega
            go_wp2_with fail
            go_ret
            refine ⟨_, rfl, ?_, BI.out⟩
            have h := OI.out
            rw [show flipL (k64 key) x 64 = kX key x by rw [kX, ← flipL_end, k64_length]] at h
            exact h
          | succ g1 =>
            have hlt : (i : Int) < 64 := by omega
            obtain ⟨g', e, _, _, hcs, hfs⟩ := OI.out.some_ (by rw [flipL_length, k64_length]; omega)
            simp only [Option.some.injEq, Addr.mk.injEq, and_true] at e
            subst e
            have hc := hcs i (by rw [flipL_length, k64_length]; omega)
            have hf := hfs i
            rw [flipL_at _ _ (by rw [k64_length]; omega)] at hc
            have hset := hide (OI.out.set i ((k64 key).getD i 0 ^^^ x))
            rw [flipL_set _ _ (by rw [k64_length]; omega)] at hset
            have hq := (k64_by HY.out).getD i
            have BS := hide (BI.out.setCell (p := ⟨g, i, none⟩) hgb (.int .u8 (((k64 key).getD i 0 ^^^ x : Nat) : Int)))
            have hxr := xor8 _ x hq hx
            generalize (k64 key).getD i 0 ^^^ x = Z at hset BS hxr
            generalize (k64 key).getD i 0 = K at hc hq hxr
            have i0 : (0 : Int) ≤ (i : Int) := by omega
            clear hcs hfs
            go_wp2_with fail
            go_roundg g1
            case measure => omega
            case rel => exact ⟨i + 1, by omega, by go_num, hset, BS⟩
      | succ g1 =>
        obtain ⟨M, hM⟩ : ∃ M, M = (padK key j).length := ⟨_, rfl⟩
        have hM64 : M < 64 := by omega
        have hlt : (M : Int) < 64 := by omega
        rw [← hM] at OX ⊢
        clear hM hml hc3 hn3
        go_wp2_with (refine wpList_appB _ rfl (.tmp 22) (.tmp 23) rfl w.heap.size (.slice a3 M c3) (padK key j) (by rfl) (World.ownsRow.alloc OX.out _) (some ⟨wr.heap.size, 0, none⟩) 1 1 (by rfl) [0] (padK key (j + 1)) (padK_push key j) rfl (one_byte wr 0) (fun e => by cases e) (by rw [padK_length]; omega) (by simp; omega) ?_; intro v4 w2 h2 k2; have O2 := hide h2; have B2 := hide (growB (World.ownsRow.alloc OX.out _) (BX.out.alloc hsx _) k2); clear h2 k2)
        go_roundg g1
        case measure => omega
        case rel => exact ⟨j + 1, by omega, O2, B2⟩
end Go.Proofs.Ytgafejgmjenfaaa.S
