/- The laws' probe: contract. -/
import Derived.Test.YtapmmcegdhhinaaDoorCAbc
namespace Go.Proofs.YtapmmcegdhhinaaDoor.K
set_option maxRecDepth 100000
open Go Go.RowKit

/-- What stands in memory while the probe's key and block are made. -/
structure AL (w : World) (i : Nat) (v : Value) (wx : World) : Prop where
  own : OwnsB wx (w.heap.size + 1) v (List.range i)
  blk : wx.heap[w.heap.size]? = some (.cells (cA af i) 27 (0, 0))
  bel : Below w.heap.size w wx
theorem range_new (i : Nat) : List.range i ++ [i] = List.range (i + 1) := List.range_succ.symm
theorem AL.grow {w : World} {i : Nat} {v v' : Value} {wx wy : World} (h : AL w i v wx) (hg : (wx.alloc (.cells #[.int .u8 (i : Int)] 5)).grownBy wy v.ownBlock) (ho : OwnsB wy (w.heap.size + 1) v' (List.range (i + 1))) (hi : i < 16) :
    AL w (i + 1) v' (wy.setCell ⟨w.heap.size, i, none⟩ (.int .u8 (af i : Nat))) ∧ wy.heap[w.heap.size]? = some (.cells (cA af i) 27 (0, 0)) := by
  have ho0 : OwnsB (wx.alloc (.cells #[.int .u8 (i : Int)] 5)) (w.heap.size + 1) v (List.range i) := h.own.stay ((Below.refl _ wx).alloc (Nat.le_refl _) _)
  have hk := Kept.of_grown hg
  have hne : ∀ k, k ≤ w.heap.size → some k ≠ v.ownBlock := fun k hk' e => by have := (ownsRow_lt ho0 e.symm).1; omega
  have hb : wy.heap[w.heap.size]? = some (.cells (cA af i) 27 (0, 0)) := hk.heap (heap_old h.blk) (fun e => hne _ (Nat.le_refl _) e)
  refine ⟨⟨?_, by rw [set_of hb, cA_set _ hi], ?_⟩, hb⟩
  · refine ownsRow_kept ho ((Kept.refl (fun k => k = w.heap.size) wy).setCell (p := ⟨w.heap.size, i, none⟩) (fun _ => rfl) _) (fun g hg' e => by have := (ownsRow_lt ho hg').1; omega)
  · have b1 : Below w.heap.size w (wx.alloc (.cells #[.int .u8 (i : Int)] 5)) := h.bel.alloc h.bel.size _
    exact (b1.trans (hk.below b1.size (fun k hk' e => hne k (by omega) e))).setCell (p := ⟨w.heap.size, i, none⟩) (Nat.le_refl _) _
set_option maxHeartbeats 8000000 in
theorem alive_c (w : World) (hT : Tab w) : Calls Tryd.prog 9 #[] w fun e w' => e = .returned (.bool true) ∧ Below w.heap.size w w' := by
  have hz : ∀ w, (zeroValue 27).run Tryd.prog w = .ok (.agg (cA af 0)) w := (zero16 af).1
  have HT := hide hT
  have A0 : Hid (AL w 0 (.slice none 0 0) (w.alloc (.cells (cA af 0) 27))) := ⟨OwnsB.nil _ _, heap_new _ _, (Below.refl _ w).alloc (Nat.le_refl _) _⟩
  clear hT
  go_enter Tryd.func9, Tryd.ntmps9
  go_wp2_with fail
  generalize w.alloc _ = wz at A0 ⊢
  go_loopg [1, 7] 16 (fun gk u1 u7 wx => ∃ i : Nat, i + gk = 16 ∧ u7 = .int .i64 i ∧ Hid (AL w i u1 wx))
  case atStart => exact ⟨0, by omega, rfl, A0⟩
  case round =>
    obtain ⟨i, hig, rfl, AX⟩ := hrel
    clear A0
    cases gk with
    | zero =>
      obtain rfl : i = 16 := by omega
      have hge : ¬ ((16 : Nat) : Int) < 16 := by omega
      obtain ⟨a, c, rfl, hc, _, _⟩ := AX.out.own.form
      rw [List.length_range] at hc
      have AX' := AX.out.own
      rw [List.length_range] at AX' ⊢
      obtain ⟨g, rfl, hg1, hg2, hg3⟩ : ∃ g, a = some ⟨g, 0, none⟩ ∧ w.heap.size + 1 ≤ g ∧ g < wr.heap.size ∧ Bs wr g 0 akey := by
        rcases AX'.bs with h | ⟨g, h1, h2, h3, h4⟩
        · rw [List.length_range] at h; omega
        · exact ⟨g, h1, h2, h3, h4⟩
      have TW := HT.out.stay AX.out.bel
      have HNW := hide (new_c ⟨g, 0, none⟩ c 4 akey wr (.inl rfl) rfl akey_by (.inr ⟨g, 0, rfl, hg2, hg3⟩) hc TW)
      have X0 := hide AX.out.blk
      have XB := hide AX.out.bel
      have XT := hide TW
      have HI := hide (info16 af 16)
      have HTM := fun W => hide (times_p 87 131 W (by omega) (by omega))
      rw [at_87] at HTM
      have HBX := fun W h => hide (box_p 83 W (by omega) h)
      rw [ab_83] at HBX
      clear AX AX' TW hg3
      go_upto_region 12 with (go_at_call 14; refine HNW.out.mono ?_; rintro e w1 ⟨kb, hkb, rfl, hK, b1⟩; have HK1 := hide hK; have Z0 := hide ((b1.block _ (lt_of_block X0.out)).trans X0.out); have B1 := hide (XB.out.trans (b1.mono XB.out.size)); have T1 := hide (XT.out.stay b1); clear b1 hK hkb)
      have HBL := hide (block_p kb 10 (kK akey 4) af w1 (by omega) (by omega) HK1.out (fun r _ => kK_by akey_by (by omega) r) T1.out af_by)
      obtain ⟨e, he⟩ : ∃ e, e = enc (kK akey 4) 10 af 10 := ⟨_, rfl⟩
      rw [← he] at HBL
      have HE0 := hide (show (cA e 16)[0]? = some (.int .u8 105) by rw [cA_at _ (by omega), he, ae_0]; rfl)
      have HE15 := hide (show (cA e 16)[15]? = some (.int .u8 90) by rw [cA_at _ (by omega), he, ae_15]; rfl)
      have HIE := hide (info16 e 16)
      have HSE := hide (show (cA af 0).size = (cA e 16).size by rw [cA_size, cA_size])
      have HOE := hide (cA_one e 16)
      clear he HK1 HNW X0 XB XT
      go_wp2_with (first
        | (refine wpList_load_row rfl 27 (.tmp 2) rfl w.heap.size (by rfl) (cA af 16) 27 (0, 0) Z0.out _ Tryd.underlying27 rfl HI.out ?_)
        | (go_at_call 17; refine HBL.out.mono ?_; rintro e w2 ⟨rfl, b2⟩; have B2 := hide (B1.out.trans (b2.mono B1.out.size)); have T2 := hide (T1.out.stay b2); clear b2)
        | (refine wpList_store_row rfl 27 (.tmp 6) (.tmp 34) rfl w2.heap.size (cA e 16) (by rfl) (by rfl) (cA af 0) 27 (heap_new w2 _) HIE.out HSE.out HOE.out ?_; intro w3 X3 K3; have B3 := hide ((B2.out.alloc B2.out.size (.cells (cA af 0) 27)).trans (K3.out.below (by simp; have := B2.out.size; omega) (fun i hi e => by have := B2.out.size; omega))); have T3 := hide (Tab.below HT.out HT.out.pos B3.out); have d0 := (cells_of X3.out 0).trans HE0.out; have d15 := (cells_of X3.out 15).trans HE15.out; clear X3 K3)
        | (go_at_call 10; refine (HTM _).out.mono ?_; rintro e w4 ⟨rfl, hw4⟩; rw [hw4]; clear hw4 w4)
        | (go_at_call 12; refine (HBX _ T3.out).out.mono ?_; rintro e w5 ⟨rfl, b5⟩; have B5 := hide (B3.out.trans (b5.mono B3.out.size)); clear b5))
      go_ret
      exact ⟨rfl, B5.out⟩
    | succ g1 =>
      have hlt : (i : Int) < 16 := by omega
      have hi : i < 16 := by omega
      obtain ⟨a, c, rfl, hc, _, hn⟩ := AX.out.own.form
      rw [List.length_range] at hc hn ⊢
      have i0 : (0 : Int) ≤ (i : Int) := by omega
      have m1 : (i : Int) % 256 = (i : Int) := by omega
      have m2 : 17 * (i : Int) % 256 = ((af i : Nat) : Int) := by unfold af; omega
      have HO : Hid (OwnsB (wr.alloc (.cells #[.int .u8 (i : Int)] 5)) (w.heap.size + 1) (.slice a i c) (List.range i)) := by
        have := AX.out.own.stay ((Below.refl _ wr).alloc (Nat.le_refl _) (.cells #[.int .u8 (i : Int)] 5))
        rwa [List.length_range] at this
      have HOB := hide (one_byte wr i)
      have HSZ := hide (show w.heap.size + 1 ≤ wr.heap.size from lt_of_block AX.out.blk)
      have HG := hide (fun v' wy (hg : (wr.alloc (.cells #[.int .u8 (i : Int)] 5)).grownBy wy (Value.slice a i c).ownBlock) ho => AL.grow (v' := v') (by have := AX.out; rwa [List.length_range] at this) hg ho hi)
      have HV := hide (show (17 : Int) * (i : Int) = ((af i : Nat) : Int) by unfold af; omega)
      generalize af i = V at m2 HG HV
      clear AX hn
      go_wp2_with (refine wpList_appB _ rfl (.tmp 10) (.tmp 13) rfl (w.heap.size + 1) (.slice a i c) (List.range i) (by rfl) HO.out (some ⟨wr.heap.size, 0, none⟩) 1 1 (by rfl) [i] (List.range (i + 1)) (range_new i) rfl HOB.out (fun e => by cases e) (by rw [List.length_range]; omega) (by simp; have := HSZ.out; omega) ?_; intro v1 w1 h1 k1; obtain ⟨N1, Z1⟩ := HG.out v1 w1 k1 h1; have c1 := (cells_of Z1 i).trans (fA_not .u8 af hi); have f1 := free_of Z1 i; have NH := hide N1; clear N1 Z1 h1 k1)
      go_roundg g1
      case measure => omega
      case rel => exact ⟨i + 1, by omega, by go_num, by rw [HV.out]; exact NH⟩
end Go.Proofs.YtapmmcegdhhinaaDoor.K
