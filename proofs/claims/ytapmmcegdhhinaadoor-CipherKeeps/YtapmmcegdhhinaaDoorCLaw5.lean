/- CipherKeeps, walked. -/
import Derived.Test.YtapmmcegdhhinaaDoorCLaw4
namespace Go.Proofs.YtapmmcegdhhinaaDoor.K
set_option maxRecDepth 100000
open Go Go.RowKit
set_option linter.unusedVariables false

theorem bytesU8 : Tryd.prog.bytesOf 5 = 1 := by kernel_rfl
open Go.ChangeShapes Go.WideShapes Go.ChangeAt in
theorem len_bys {H : Type} {enc : TypeId × Value → H} {W : World} {ts : List TypeId} {ds : List (DataW H)} {j : Nat} {a : Option Addr} {len cap : Nat} {d : DataW H} {p : List MemPlace} (hsz : (DataW.weightsEach Tryd.prog ts ds).all (· ≤ reachBytes) = true) (ht : ts[j]? = some 26) (hd : ds[j]? = some d)
    (h : DataW.Trod enc Tryd.prog W 0 (fun _ => true) true 26 (.slice a len cap) d p) : len ≤ 140737488351232 := by
  obtain ⟨fuel, hf⟩ := h
  obtain ⟨a', cap', ys, hcs, hb, hx⟩ := trod_bys hf
  simp [Value.cells] at hcs
  obtain ⟨rfl, rfl, rfl⟩ := hcs
  rcases hx with ⟨_, h0⟩ | ⟨els, sp, hx, hl⟩
  · omega
  · simp only at hx
    subst hx
    have := sized_slice hsz ht hd Tryd.underlying26
    rw [bytesU8] at this
    simp only [reachBytes] at this
    omega
/-- Two Keys of the same round keys, a block, and a row of bytes of one's own. -/
structure PS (w : World) (k1 k2 R : Nat) (K : Nat → Nat → Nat) (f : Nat → Nat) (wx : World) : Prop where
  key1 : KeyAt wx k1 R K
  key2 : KeyAt wx k2 R K
  b : wx.heap[w.heap.size]? = some (.cells (cA f 16) 27 (0, 0))
  bel : Below w.heap.size w wx
theorem PS.stay {w : World} {k1 k2 R : Nat} {K : Nat → Nat → Nat} {f : Nat → Nat} {wx wy : World} (h : PS w k1 k2 R K f wx) (hs : Below wx.heap.size wx wy) : PS w k1 k2 R K f wy :=
  ⟨h.key1.stay hs, h.key2.stay hs, (hs.block _ (lt_of_block h.b)).trans h.b, h.bel.trans (hs.mono h.bel.size)⟩
theorem PS.set {w : World} {k1 k2 R : Nat} {K : Nat → Nat → Nat} {f : Nat → Nat} {wx : World} (h : PS w k1 k2 R K f wx) {g : Nat} (hg : w.heap.size < g) (h1 : k1 ≠ g) (h2 : k2 ≠ g) (i : Nat) (v : Value) : PS w k1 k2 R K f (wx.setCell ⟨g, i, none⟩ v) := by
  have k : Kept (fun k => k = g) wx (wx.setCell ⟨g, i, none⟩ v) := (Kept.refl (fun k => k = g) wx).setCell (p := ⟨g, i, none⟩) (fun _ => rfl) _
  exact ⟨h.key1.kept k h1, h.key2.kept k h2, k.heap h.b (by omega), h.bel.setCell (p := ⟨g, i, none⟩) (by show w.heap.size ≤ g; omega) _⟩
def OZ (wx : World) (base g L c : Nat) : Prop := ∃ zs : List Nat, zs.length = L ∧ By zs ∧ OwnsB wx base (.slice (some ⟨g, 0, none⟩) L c) zs
set_option maxHeartbeats 8000000 in
theorem cipherKeeps_walk (ad : Option Addr) (cap : Nat) (key : List Nat) (f : Nat → Nat) (w : World) (hk : BIn w ad cap key) (hl : key.length ≤ 140737488351232) (hf : By16 f) (hT : Tab w) : Calls Tryd.prog 8 #[.slice ad key.length cap, .agg (cA f 16)] w (Yes w) := by
  have HT := hide hT
  have HK := hide hk
  obtain ⟨L, hL⟩ : ∃ L, L = key.length := ⟨_, rfl⟩
  have HL := hide hL
  have Q0 := hide (heap_old (o := .cells #[] 5) (heap_new w (.cells (cA f 16) 27)))
  have XB := hide (((Below.refl _ w).alloc (Nat.le_refl _) (.cells (cA f 16) 27)).alloc (by simp) (.cells #[] 5))
  have HE := hide (OwnsB.empty (w.alloc (.cells (cA f 16) 27)) (w.heap.size + 1) (by simp))
  have hsz : (w.alloc (.cells (cA f 16) 27)).heap.size = w.heap.size + 1 := by simp
  rw [hsz] at HE
  clear hsz
  rw [← hL]
  have hl' : L ≤ 140737488351232 := by omega
  have HBS : Hid (w.heap.size + 1 ≤ ((w.alloc (.cells (cA f 16) 27)).alloc (.cells #[] 5)).heap.size) := by show _ ≤ _; simp
  have HLB := hide (show ([] : List Nat).length + L ≤ 140737488355328 by simp; omega)
  clear hL hl hl'
  have HTX := hide (hk.text.below XB.out)
  go_enter Tryd.func8, Tryd.ntmps8
  go_upto_region 2 with (refine wpList_appB _ rfl (.tmp 11) (.tmp 12) rfl (w.heap.size + 1) (.slice (some ⟨w.heap.size + 1, 0, none⟩) 0 0) [] (by rfl) HE.out ad L cap (by rfl) key key (by rfl) HL.out.symm HTX.out (fun e => ⟨by rw [HL.out]; exact (HK.out.nil e).1, (HK.out.nil e).2⟩) HLB.out HBS.out ?_; intro v5 w1 h1 g1; have O1 := hide h1; have G1 := hide g1; clear h1 g1)
  have B1 : Hid (Below w.heap.size w w1) := XB.out.trans ((Kept.of_grown G1.out).below XB.out.size (fun i hi e => by simp [Value.ownBlock] at e; omega))
  have Z1 : Hid (w1.heap[w.heap.size]? = some (.cells (cA f 16) 27 (0, 0))) := (Kept.of_grown G1.out).heap Q0.out (fun e => by simp [Value.ownBlock] at e)
  obtain ⟨a5, c5, rfl, hc5, _, hn5⟩ := O1.out.form
  have O2 := hide O1.out
  rw [← HL.out] at O2 hc5 hn5 ⊢
  clear G1 O1 Q0 XB HE HBS HLB HTX
  rcases key_cases L with hn | ⟨n, hn, hln⟩
  · have HN1 := hide (new_no a5 L c5 w1 hn)
    have HN2 := hide (new_no ad L cap w1 hn)
    clear hn hf hn5
    go_wp2_with (first
      | (go_at_call 14; refine HN1.out.mono ?_; rintro e w2 ⟨rfl, hw⟩; rw [hw]; clear hw w2 HN1)
      | (go_at_call 14; refine HN2.out.mono ?_; rintro e w2 ⟨rfl, hw⟩; rw [hw]; clear hw w2 HN2)
      | (go_at_call 9; refine (alive_c w1 (HT.out.stay B1.out)).mono ?_; rintro e w9 ⟨rfl, b9⟩; have B9 := hide (B1.out.trans (b9.mono B1.out.size)); clear b9))
    go_ret
    exact ⟨rfl, B9.out⟩
  · obtain ⟨a0, rfl⟩ : ∃ a0, ad = some a0 := by
      cases ad with
      | none => have := (HK.out.nil rfl).1; rw [← HL.out] at this; omega
      | some a0 => exact ⟨a0, rfl⟩
    obtain ⟨g, rfl, hg1, hg2, hg3⟩ : ∃ g, a5 = some ⟨g, 0, none⟩ ∧ w.heap.size + 1 ≤ g ∧ g < w1.heap.size ∧ Bs w1 g 0 key := by
      rcases O2.out.bs with h | ⟨g, h1, h2, h3, h4⟩
      · rw [← HL.out] at h; omega
      · exact ⟨g, h1, h2, h3, h4⟩
    have hkl : key.length = 4 * n := by rw [← HL.out]; exact hln
    have HN1 := hide (new_c ⟨g, 0, none⟩ c5 n key w1 hn hkl HK.out.by_ (.inr ⟨g, 0, rfl, hg2, hg3⟩) (by omega) (HT.out.stay B1.out))
    have HN2 := hide (fun (W : World) (h : Below w.heap.size w W) => new_c a0 cap n key W hn hkl HK.out.by_ (HK.out.text.below h) (by have := HK.out.cap_; omega) (HT.out.stay h))
    have HKB := hide (fun r (_ : r ≤ n + 6) => kK_by HK.out.by_ (show 1 ≤ n by omega) (key := key) r)
    have n1 : n + 6 ≤ 14 := by omega
    have HF := hide hf
    have HBY := hide HK.out.by_
    have H4 := hide hln
    rw [← hln] at HN1 HN2
    generalize kK key n = K at HN1 HN2 HKB
    obtain ⟨R, hR⟩ : ∃ R, R = n + 6 := ⟨_, rfl⟩
    rw [← hR] at HN1 HN2 HKB n1
    have hR1 : 1 ≤ R := by omega
    have hL1 : L ≤ 32 := by omega
    clear hR hn hkl hln hf hg3 hn5 HK hT
    go_upto_region 6 with (first
      | (go_at_call 14; refine HN1.out.mono ?_; rintro e w2 ⟨k1, hk1, rfl, hK1, b2⟩; have B2 := hide b2; have KA := hide hK1; have HKK1 := hide hk1; clear b2 hK1 hk1 HN1)
      | (go_at_call 14; refine (HN2.out w2 (B1.out.trans (B2.out.mono B1.out.size))).mono ?_; rintro e w3 ⟨k2, hk2, rfl, hK2, b3⟩; have B3 := hide b3; have KB := hide hK2; have HKK2 := hide hk2; clear b3 hK2 hk2 HN2))
    have P3 : Hid (PS w k1 k2 R K f w3) := ⟨KA.out.stay B3.out, KB.out, (B3.out.block _ (lt_of_block ((B2.out.block _ (lt_of_block Z1.out)).trans Z1.out))).trans ((B2.out.block _ (lt_of_block Z1.out)).trans Z1.out), (B1.out.trans (B2.out.mono B1.out.size)).trans (B3.out.mono (Nat.le_trans B1.out.size B2.out.size))⟩
    have O3 : Hid (OZ w3 (w.heap.size + 1) g L c5) := ⟨key, HL.out.symm, HBY.out, (O2.out.stay B2.out).stay B3.out⟩
    have NE : Hid (w.heap.size < g ∧ k1 ≠ g ∧ k2 ≠ g) := ⟨by omega, by have := HKK1.out; omega, by have h1 := HKK2.out; have h2 := B2.out.size; omega⟩
    clear KA KB HKK1 HKK2 B1 B2 B3 Z1 O2 hg1 hg2 HBY HL
    go_wp2_with fail
    go_loopg [38] L (fun gk u38 wx => ∃ i : Nat, i + gk = L ∧ u38 = .int .i64 i ∧ Hid (PS w k1 k2 R K f wx) ∧ Hid (OZ wx (w.heap.size + 1) g L c5))
    case atStart => exact ⟨0, by omega, rfl, P3, O3⟩
    case round =>
      obtain ⟨i, hig, rfl, PX, OX⟩ := hrel
      clear P3 O3
      cases gk with
      | zero =>
        obtain rfl : L = i := by omega
        have hge : ¬ (L : Int) < (L : Int) := by omega
        have HBA := hide (fun (W : World) (h : PS w k1 k2 R K f W) => block_p k1 R K f W hR1 n1 h.key1 HKB.out (HT.out.stay h.bel) HF.out)
        have HBB := hide (fun (W : World) (h : PS w k1 k2 R K f W) => block_p k2 R K f W hR1 n1 h.key2 HKB.out (HT.out.stay h.bel) HF.out)
        have e2 := fun W => eq16 (enc K R f R) (enc K R f R) (enc_by HKB.out HF.out R (Nat.le_refl R)) (enc_by HKB.out HF.out R (Nat.le_refl R)) W
        rw [(eqB_iff _ _).2 (fun _ _ => rfl)] at e2
        clear OX
        go_upto_region 11 with fail
        refine wp_region_held_drew (S := fun W => PS w k1 k2 R K f W) (by kernel_rfl) (PX.out.stay (below_drew wr)) ?_
        intro hS0
        generalize wr.drew = W0 at hS0 ⊢
        refine wpAnyH_ready (rs := [0]) (by kernel_rfl) (by simp) ?_
        refine AllReadyH.cons rfl (fun KK hK => ?_) AllReadyH.nil
        refine step_callW (by rfl) 9 #[] (by kernel_rfl) (alive_c _ (HT.out.stay hS0.bel)) ?_
        rintro e W1 ⟨rfl, b⟩
        have hS0 := PS.stay hS0 b
        refine ⟨_, rfl, hK.out _ _ hS0 (fun _ => ?_)⟩
        clear hK KK b
        simp only [Act.put, List.getElem_toArray, List.getElem_cons_zero, List.setIfInBounds_toArray, List.set_cons_zero, List.set_cons_succ]
        refine wpAnyH_take (i := 1) (v := .bool true) rfl (by kernel_rfl) (by kernel_rfl) (by kernel_rfl) (fun _ _ _ h => h) (Or.inl ⟨by rfl, fun _ _ => by go_simp⟩) hS0 ?_
        simp only [Act.put, List.getElem_toArray, List.getElem_cons_zero, List.getElem_cons_succ, List.setIfInBounds_toArray, List.set_cons_zero, List.set_cons_succ]
        refine wpAnyH_take (i := 2) (v := .pointer (some ⟨k2, 0, none⟩)) rfl (by kernel_rfl) (by kernel_rfl) (by kernel_rfl) (fun _ _ _ h => h) (Or.inl ⟨by rfl, fun _ _ => by go_simp⟩) hS0 ?_
        simp only [Act.put, List.getElem_toArray, List.getElem_cons_zero, List.getElem_cons_succ, List.setIfInBounds_toArray, List.set_cons_zero, List.set_cons_succ]
        refine wpAnyH_take (i := 3) (v := .bool true) rfl (by kernel_rfl) (by kernel_rfl) (by kernel_rfl) (fun _ _ _ h => h) (Or.inl ⟨by rfl, fun _ _ => by go_simp⟩) hS0 ?_
        simp only [Act.put, List.getElem_toArray, List.getElem_cons_zero, List.getElem_cons_succ, List.setIfInBounds_toArray, List.set_cons_zero, List.set_cons_succ]
        refine wpAnyH_take (i := 4) (v := .bool true) rfl (by kernel_rfl) (by kernel_rfl) (by kernel_rfl) (fun _ _ _ h => h) (Or.inl ⟨by rfl, fun _ _ => by go_simp⟩) hS0 ?_
        simp only [Act.put, List.getElem_toArray, List.getElem_cons_zero, List.getElem_cons_succ, List.setIfInBounds_toArray, List.set_cons_zero, List.set_cons_succ]
        refine wpAnyH_take (i := 5) (v := .bool true) rfl (by kernel_rfl) (by kernel_rfl) (by kernel_rfl) (fun _ _ _ h => h) (Or.inl ⟨by rfl, fun _ _ => by go_simp⟩) hS0 ?_
        simp only [Act.put, List.getElem_toArray, List.getElem_cons_zero, List.getElem_cons_succ, List.setIfInBounds_toArray, List.set_cons_zero, List.set_cons_succ]
        refine wpAnyH_take (i := 6) (v := .pointer (some ⟨k1, 0, none⟩)) rfl (by kernel_rfl) (by kernel_rfl) (by kernel_rfl) (fun _ _ _ h => h) (Or.inl ⟨by rfl, fun _ _ => by go_simp⟩) hS0 ?_
        simp only [Act.put, List.getElem_toArray, List.getElem_cons_zero, List.getElem_cons_succ, List.setIfInBounds_toArray, List.set_cons_zero, List.set_cons_succ]
        refine wpAnyH_take (i := 7) (v := .agg (cA f 16)) rfl (by kernel_rfl) (by kernel_rfl) (by kernel_rfl) (fun _ _ _ h => h) (yields_row (by rfl) 27 (.tmp 3) rfl w.heap.size rfl _ 27 (0, 0) (fun _ h => h.b) _ Tryd.underlying27 rfl (info16 _ 16)) hS0 ?_
        simp only [Act.put, List.getElem_toArray, List.getElem_cons_zero, List.getElem_cons_succ, List.setIfInBounds_toArray, List.set_cons_zero, List.set_cons_succ]
        refine wpAnyH_take (i := 9) (v := .pointer (some ⟨k2, 0, none⟩)) rfl (by kernel_rfl) (by kernel_rfl) (by kernel_rfl) (fun _ _ _ h => h) (Or.inl ⟨by rfl, fun _ _ => by go_simp⟩) hS0 ?_
        simp only [Act.put, List.getElem_toArray, List.getElem_cons_zero, List.getElem_cons_succ, List.setIfInBounds_toArray, List.set_cons_zero, List.set_cons_succ]
        refine wpAnyH_take (i := 10) (v := .agg (cA f 16)) rfl (by kernel_rfl) (by kernel_rfl) (by kernel_rfl) (fun _ _ _ h => h) (yields_row (by rfl) 27 (.tmp 3) rfl w.heap.size rfl _ 27 (0, 0) (fun _ h => h.b) _ Tryd.underlying27 rfl (info16 _ 16)) hS0 ?_
        simp only [Act.put, List.getElem_toArray, List.getElem_cons_zero, List.getElem_cons_succ, List.setIfInBounds_toArray, List.set_cons_zero, List.set_cons_succ]
        refine wpAnyH_ready (rs := [8]) (by kernel_rfl) (by simp) ?_
        refine AllReadyH.cons rfl (fun KK hK => ?_) AllReadyH.nil
        refine step_callW (by rfl) 17 #[.pointer (some ⟨k1, 0, none⟩), .agg (cA f 16)] (by kernel_rfl) (HBA.out _ hS0) ?_
        rintro e W2 ⟨rfl, b⟩
        have hS0 := PS.stay hS0 b
        refine ⟨_, rfl, hK.out _ _ hS0 (fun _ => ?_)⟩
        clear hK KK b
        simp only [Act.put, List.getElem_toArray, List.getElem_cons_zero, List.getElem_cons_succ, List.setIfInBounds_toArray, List.set_cons_zero, List.set_cons_succ]
        refine wpAnyH_ready (rs := [11]) (by kernel_rfl) (by simp) ?_
        refine AllReadyH.cons rfl (fun KK hK => ?_) AllReadyH.nil
        refine step_callW (by rfl) 17 #[.pointer (some ⟨k2, 0, none⟩), .agg (cA f 16)] (by kernel_rfl) (HBB.out _ hS0) ?_
        rintro e W3 ⟨rfl, b⟩
        have hS0 := PS.stay hS0 b
        refine ⟨_, rfl, hK.out _ _ hS0 (fun _ => ?_)⟩
        clear hK KK b
        simp only [Act.put, List.getElem_toArray, List.getElem_cons_zero, List.getElem_cons_succ, List.setIfInBounds_toArray, List.set_cons_zero, List.set_cons_succ]
        refine wpAnyH_take (i := 12) (v := .bool true) rfl (by kernel_rfl) (by kernel_rfl) (by kernel_rfl) (fun _ _ _ h => h) (Or.inl ⟨by rfl, fun _ _ => by go_simp⟩) hS0 ?_
        simp only [Act.put, List.getElem_toArray, List.getElem_cons_zero, List.getElem_cons_succ, List.setIfInBounds_toArray, List.set_cons_zero, List.set_cons_succ]
        refine wpAnyH_take (i := 13) (v := .bool true) rfl (by kernel_rfl) (by kernel_rfl) (by kernel_rfl) (fun _ _ _ h => h) (Or.inl ⟨by rfl, fun _ _ => by go_simp⟩) hS0 ?_
        simp only [Act.put, List.getElem_toArray, List.getElem_cons_zero, List.getElem_cons_succ, List.setIfInBounds_toArray, List.set_cons_zero, List.set_cons_succ]
        refine wpAnyH_take (i := 14) (v := .bool true) rfl (by kernel_rfl) (by kernel_rfl) (by kernel_rfl) (fun _ _ _ h => h) (Or.inl ⟨by rfl, fun _ _ => by go_simp⟩) hS0 ?_
        simp only [Act.put, List.getElem_toArray, List.getElem_cons_zero, List.getElem_cons_succ, List.setIfInBounds_toArray, List.set_cons_zero, List.set_cons_succ]
        refine wpAnyH_done (by kernel_rfl) ?_ _
        go_wp2_with fail
        go_ret
        exact ⟨rfl, hS0.bel⟩
      | succ g1 =>
        have hlt : (i : Int) < (L : Int) := by omega
        have i0 : (0 : Int) ≤ (i : Int) := by omega
        obtain ⟨zs, hz1, hz2, hz3⟩ := OX.out
        have hiz : i < zs.length := by omega
        obtain ⟨g2, e2, _, _, hcell, hfr⟩ := hz3.some_ (by omega)
        simp only [Option.some.injEq, Addr.mk.injEq, and_true] at e2
        subst e2
        have cx := hcell i hiz
        have fx := hfr i
        have hX := hz2.getD i
        have HNX := hide (fun y (hy : y < 256) => And.intro (PX.out.set NE.out.1 NE.out.2.1 NE.out.2.2 i (.int .u8 ((y : Nat) : Int))) (show OZ (wr.setCell ⟨g, i, none⟩ (.int .u8 ((y : Nat) : Int))) (w.heap.size + 1) g L c5 from ⟨zs.set i y, by rw [List.length_set]; exact hz1, fun x hx => by
          rcases List.mem_or_eq_of_mem_set hx with h | h
          · exact hz2 x h
          · omega, hz3.set i y⟩))
        generalize zs.getD i 0 = X at cx hX
        clear hz1 hz2 hz3 hcell hfr OX PX hiz
        have HMX := hide (show bits .xor .u8 IntKind.u8.max (X : Int) = ((255 ^^^ X : Nat) : Int) from xor8 255 X (by omega) hX)
        have HM8 := hide (xor8_lt (show 255 < 256 by omega) hX)
        go_wp2_with fail
        go_roundg g1
        case measure => omega
        case rel => exact ⟨i + 1, by omega, by go_num, by rw [HMX.out]; exact (HNX.out _ HM8.out).1, by rw [HMX.out]; exact (HNX.out _ HM8.out).2⟩
end Go.Proofs.YtapmmcegdhhinaaDoor.K
