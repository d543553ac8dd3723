/-
  PROVED: 'wainloadlaw09.GzBack' answers true: members that were written, one behind the other, are read as they were; where the arguments are together of bulk at most 1048576 (the second form). The card: the orders of lengths are what the program's text lays.
-/
import Derived.Test.YteknifnadbmfiaaGreatDoorqTheBack
import Derived.Test.YteknifnadbmfiaaGreatDoorqGcLaid
namespace Go.Proofs.YteknifnadbmfiaaGreatDoor.gzBack
set_option maxRecDepth 100000
open Go.ChangeShapes Go.WideShapes Go.ChangeAt Go.RowKit
set_option linter.unusedVariables false

structure BkSt (w wx : World) (v5 v6 : Value) (L : List (Mb × List Int)) (k : Nat) : Prop where
 ob : OwnsB wx w.heap.size v5 (bsL L)
 om : OwnsMb wx w.heap.size v6 (msL L)
 mkd : ∀ p ∈ L, MkB p.1 p.2
 ln : L.length <= k
 sz : szL L <= 3000 * k
 bz : (bsL L).length <= 2000000 * k
 bel : Below w.heap.size w wx
theorem five_ne : (5 : TypeId) ≠ 27 := by decide
theorem mb_apart {w : World} {base base' : Nat} {v v' : Value} {D : List Int} {ms : List Mb} (h : OwnsB w base v D) (k : OwnsMb w base' v' ms) : ∀ g, v'.ownBlock = some g -> ¬ some g = v.ownBlock := fun g hg e => by
 rcases h.2 with ⟨rfl, _⟩ | ⟨g1, c1, cur1, rfl, _, hh, _⟩
 ·simp [Value.ownBlock] at e
 ·simp [Value.ownBlock] at e
  subst e
  exact ownsRow_apart k hh five_ne hg
theorem ob_apart {w : World} {base base' : Nat} {v v' : Value} {D : List Int} {ms : List Mb} (h : OwnsB w base v D) (k : OwnsMb w base' v' ms) : ∀ g, v.ownBlock = some g -> ¬ some g = v'.ownBlock := fun g hg e => mb_apart h k g e.symm hg.symm
theorem mb_block {w : World} {base b : Nat} {v : Value} {D : List Int} {cs : Array Value} {fr : Nat × Nat} (h : OwnsB w base v D) (hb : w.heap[b]? = some (.cells cs 27 fr)) : ¬ some b = v.ownBlock := fun e => ownsRow_apart h hb (fun e => five_ne e.symm) e.symm
theorem mem_new (w : World) (m : Mb) : ∀ j u, m.cells.toList[j]? = some u -> (w.alloc (.cells m.cells 27)).cell? ((⟨w.heap.size, 0, none⟩ : Addr).add j) = some u := fun j u hj => by
 rw [add_at, Nat.zero_add, cells_of (heap_new w _)]
 rw [Array.getElem?_toList] at hj
 exact hj
theorem BkSt.stay {w wx wy : World} {v5 v6 : Value} {L : List (Mb × List Int)} {k : Nat} (h : BkSt w wx v5 v6 L k) (hk : Kept (fun _ => False) wx wy) : BkSt w wy v5 v6 L k :=
 ⟨ownsRow_kept h.ob hk (fun _ _ e => e), h.om.kept hk (fun _ _ e => e), h.mkd, h.ln, h.sz, h.bz, h.bel.trans (hk.below h.bel.size (fun _ _ e => e))⟩
theorem BkSt.skip {w wx : World} {v5 v6 : Value} {L : List (Mb × List Int)} {k : Nat} (h : BkSt w wx v5 v6 L k) : BkSt w wx v5 v6 L (k + 1) :=
 ⟨h.ob, h.om, h.mkd, by have := h.ln; omega, by have := h.sz; omega, by have := h.bz; omega, h.bel⟩
theorem BkSt.push {w wx wy wz : World} {v5 v6 v5' v6' : Value} {L : List (Mb × List Int)} {k : Nat} {m : Mb} {Y : List Int} (h : BkSt w wx v5 v6 L k) (hm : MkB m Y) (hs : m.data.size <= 3000) (hy : Y.length <= 2000000)
  (ho : OwnsB wy w.heap.size v5' (bsL L ++ Y)) (hg : wx.grownBy wy v5.ownBlock) (o : Obj) (hg2 : (wy.alloc o).grownBy wz v6.ownBlock) (ho2 : OwnsMb wz w.heap.size v6' (msL L ++ [m])) : BkSt w wz v5' v6' (L ++ [(m, Y)]) (k + 1) := by
 have lo5 : ∀ b, b < w.heap.size -> ¬ some b = v5.ownBlock := fun b hb e => by have := (ownsRow_lt h.ob e.symm).1; omega
 have lo6 : ∀ b, b < w.heap.size -> ¬ some b = v6.ownBlock := fun b hb e => by have := (ownsRow_lt h.om e.symm).1; omega
 have by_ : Below w.heap.size w wy := h.bel.trans ((Kept.of_grown hg).below h.bel.size lo5)
 have om_ : OwnsMb wy w.heap.size v6 (msL L) := h.om.kept (Kept.of_grown hg) (mb_apart h.ob h.om)
 have bya : Below w.heap.size w (wy.alloc o) := by_.alloc by_.size o
 refine ⟨?_, ?_, ?_, ?_, ?_, ?_, bya.trans ((Kept.of_grown hg2).below bya.size lo6)⟩
 ·rw [bsL_push]
  exact ownsRow_kept (World.ownsRow.alloc ho o) (Kept.of_grown hg2) (ob_apart (D := bsL L ++ Y) (World.ownsRow.alloc ho o) (World.ownsRow.alloc om_ o))
 ·rw [msL_push]; exact ho2
 ·intro p hp
  rcases List.mem_append.1 hp with hp | hp
  ·exact h.mkd p hp
  ·simp at hp; subst hp; exact hm
 ·rw [List.length_append, List.length_singleton]; have := h.ln; omega
 ·rw [szL_push]; have := h.sz; simp only; omega
 ·rw [bsL_push, List.length_append]; have := h.bz; simp only; omega
set_option maxHeartbeats 8000000 in
theorem walk (a : Option Addr) (cap : Nat) (ms : List Mb) (lv : Int) (w : World) (hT : Tab w) (h : MemsIn w a ms) :
  Calls Tryz.prog 3 #[.slice a ms.length cap, .int .i64 lv] w fun e w' => e = .returned (.bool true) /\ Below w.heap.size w w' := by
 have HMI := hide h
 have HT := hide hT
 have HAL : Hid (∀ w1, Below w.heap.size w w1 -> Calls Tryz.prog 4 #[] w1 fun e w' => e = .returned (.bool true) /\ Below w1.heap.size w1 w') := fun w1 b1 => alive_c w1 (hT.below b1 hT.pos) (Nat.lt_of_lt_of_le hT.pos b1.size)
 have HA : Hid (∀ w1, Below w.heap.size w w1 -> Calls Tryz.prog 4 #[] w1 fun e w' => e = .returned (.bool true) /\ Below w.heap.size w w') := fun w1 b1 => (HAL.out w1 b1).mono fun e w' h => ⟨h.1, b1.trans (h.2.mono b1.size)⟩
 clear h hT
 obtain ⟨n, hnn⟩ : ∃ n, n = ms.length := ⟨_, rfl⟩
 have HN := hide hnn
 rw [<- hnn]
 clear hnn
 by_cases h20 : 20 < n
 ·have h20' : (20 : Int) < (n : Int) := by omega
  have HA1 := hide (HA.out w (Below.refl _ w))
  go_enter Tryz.func3, Tryz.ntmps3
  go_wp2_with (go_at_call 4; refine HA1.out.mono ?_; rintro x w9 ⟨rfl, b9⟩; have B9 := hide b9; clear b9)
  go_ret
  exact ⟨rfl, B9.out⟩
 have h20' : ¬ (20 : Int) < (n : Int) := by omega
 have B0 : Hid (BkSt w w (.slice none 0 0) (.slice none 0 0) [] 0) := ⟨OwnsB.nil _ _, OwnsMb.nil _ _, fun p hp => by simp at hp, Nat.le_refl _, Nat.le_refl _, Nat.le_refl _, Below.refl _ _⟩
 go_enter Tryz.func3, Tryz.ntmps3
 go_wp2_with fail
 go_loopg [5, 6, 19] n (fun gk v5 v6 v19 wx => ∃ k : Nat, k + gk = n /\ v19 = .int .i64 k /\ ∃ L, Hid (BkSt w wx v5 v6 L k))
 case atStart => exact ⟨0, by omega, rfl, [], B0⟩
 case round =>
  obtain ⟨k, hkg, rfl, L, HS⟩ := hrel
  clear B0
  cases gk with
  | zero =>
   obtain rfl : k = n := by omega
   have hge : ¬ (k : Int) < (k : Int) := by omega
   have hbl : (bsL L).length <= 100000000 := by have := HS.out.bz; omega
   obtain ⟨a5, c5, rfl, hbi⟩ := owns_bi' HS.out.ob (bsL_byt HS.out.mkd)
   have hTr := HT.out.below HS.out.bel HT.out.pos
   have hr := read_c wr hTr hTr.pos a5 c5 (bsL L) 100000 hbi hbl (by decide)
   obtain ⟨a6, c6, rfl, hc6, hn6⟩ := HS.out.om.form
   by_cases hL : L = []
   ·subst hL
    have hr' : Calls Tryz.prog 6 #[.slice a5 (bsL []).length c5, .int .i64 100000] wr fun e w' => e = .returned (.tuple #[.slice none 0 0, .int .i64 90]) /\ Below w.heap.size w w' := by
     refine hr.mono ?_
     rintro e w2 (⟨ms', v, e1, _⟩ | ⟨er, e1, _, _, rfl, b2⟩)
     ·rw [show bsL [] = [] from rfl, gRead_none] at e1; cases e1
     ·rw [show bsL [] = [] from rfl, gRead_none] at e1; cases e1; exact ⟨rfl, HS.out.bel.trans (b2.mono HS.out.bel.size)⟩
    have HR := hide hr'
    rw [show (msL []).length = 0 from rfl] at *
    rw [show (bsL []).length = 0 from rfl] at *
    clear hr hr' hbi hTr HS hn6
    go_wp2_with (first
     | (go_at_call 6; refine HR.out.mono ?_; rintro e w2 ⟨rfl, b2⟩; have B2 := hide b2; clear b2)
     | (go_at_call 4; refine (HA.out _ B2.out).mono ?_; rintro x w9 ⟨rfl, b9⟩; have B9 := hide b9; clear b9))
    go_ret
    exact ⟨rfl, B9.out⟩
   ·have hne : msL L ≠ [] := fun e => hL (by simpa [msL] using e)
    have hsz : szL L <= 100000 := by have := HS.out.sz; omega
    have hr' : Calls Tryz.prog 6 #[.slice a5 (bsL L).length c5, .int .i64 100000] wr fun e w' => ∃ g c, e = .returned (.tuple #[.slice (some ⟨g, 0, none⟩) (msL L).length c, .int .i64 0]) /\ MbsAt w' g (msL L) /\ Below wr.heap.size wr w' := by
     refine hr.mono ?_
     rintro e w2 (⟨ms', v, e1, rfl, o2, b2, _⟩ | ⟨er, e1, _⟩)
     ·rw [gRead_back hL HS.out.mkd hsz] at e1
      simp only [Except.ok.injEq] at e1
      subst e1
      obtain ⟨a', c', rfl, _, _⟩ := o2.form
      obtain ⟨g, rfl, _, hg⟩ := o2.at_ hne
      exact ⟨g, c', rfl, hg, b2⟩
     ·rw [gRead_back hL HS.out.mkd hsz] at e1; cases e1
    have HR := hide hr'
    obtain ⟨g6, rfl, hg6, hat6⟩ := HS.out.om.at_ hne
    have HA6 := hide hat6
    have hml : (msL L).length <= 1000 := by have := HS.out.ln; simp only [msL, List.length_map]; omega
    have hm0 : 0 < (msL L).length := List.length_pos_iff.2 hne
    have HSA := hide (fun ga ca W (q1 : MbsAt W ga (msL L)) (q2 : MbsAt W g6 (msL L)) => same_c ga g6 ca c6 (msL L) W q1 q2 hml)
    have BR := hide HS.out.bel
    obtain ⟨q, hq⟩ : ∃ q, q = (msL L).length := ⟨_, rfl⟩
    rw [<- hq] at HR HSA hm0 ⊢
    have hq0 : ¬ (q : Int) = 0 := by omega
    have hq1 : ((q : Int) == 0) = false := by simpa using hq0
    clear hr hr' hbi hTr HS hn6 hat6 hml hne hsz hL hq
    go_wp2_with (first
     | (go_at_call 6; refine HR.out.mono ?_; rintro e w2 ⟨g2, c2, rfl, m2, b2⟩; have M2 := hide m2; have B2 := hide b2; clear m2 b2)
     | (go_at_call 4; refine (HAL.out _ (BR.out.trans (B2.out.mono BR.out.size))).mono ?_; rintro x w9 ⟨rfl, b9⟩; have B9 := hide b9; clear b9)
     | (go_at_call 7; refine (HSA.out _ _ _ (fun i m hm j u hu => (B9.out.cell (p := ⟨g2, i * 6 + j, none⟩) (lt_of_cell (M2.out i m hm j u hu))).trans (M2.out i m hm j u hu)) (fun i m hm j u hu => (B9.out.cell (p := ⟨g6, i * 6 + j, none⟩) (Nat.lt_of_lt_of_le hg6 B2.out.size)).trans ((B2.out.cell (p := ⟨g6, i * 6 + j, none⟩) hg6).trans (HA6.out i m hm j u hu)))).mono ?_; rintro x w8 ⟨rfl, k8⟩; have K8 := hide k8; clear k8))
    go_ret
    have B2w := BR.out.trans (B2.out.mono BR.out.size)
    have B9w := B2w.trans (B9.out.mono B2w.size)
    exact ⟨rfl, B9w.trans (K8.out.below B9w.size (fun _ _ e => e))⟩
  | succ g1 =>
   have hlt : (k : Int) < (n : Int) := by omega
   have hkl : k < ms.length := by have := HN.out; omega
   obtain ⟨b, off, hbw, rfl, hrow⟩ := HMI.out.resolve_left (by omega)
   obtain ⟨m, hm⟩ : ∃ m, ms[k]? = some m := ⟨_, List.getElem?_eq_getElem hkl⟩
   obtain ⟨hcs, htm, hsm⟩ := hrow k m hm
   have kc : ∀ {o : Nat} {u : Value}, w.cell? ⟨b, o, none⟩ = some u -> wr.cell? ⟨b, o, none⟩ = some u := fun {o u} hc => (HS.out.bel.cell (p := ⟨b, o, none⟩) hbw).trans hc
   have a0 : wr.cell? ⟨b, off + k * 6, none⟩ = some (.string m.name) := kc (hcs 0 _ rfl)
   have a1 : wr.cell? ⟨b, off + k * 6 + 1, none⟩ = some (.string m.comment) := kc (hcs 1 _ rfl)
   have a2 : wr.cell? ⟨b, off + k * 6 + 2, none⟩ = some (.string m.extra) := kc (hcs 2 _ rfl)
   have a3 : wr.cell? ⟨b, off + k * 6 + 3, none⟩ = some (.int .u32 (m.time : Int)) := kc (hcs 3 _ rfl)
   have a4 : wr.cell? ⟨b, off + k * 6 + 4, none⟩ = some (.bool m.text) := kc (hcs 4 _ rfl)
   have a5 : wr.cell? ⟨b, off + k * 6 + 5, none⟩ = some (.string m.data) := kc (hcs 5 _ rfl)
   have i0 : (0 : Int) <= (k : Int) := by omega
   clear hrow hcs kc hm hkl
   obtain ⟨W, hW⟩ : ∃ W, W = wr.alloc (.cells m.cells 27) := ⟨_, rfl⟩
   have kW : Kept (fun _ => False) wr W := by rw [hW]; exact Kept.alloc _ (Kept.refl _ wr) _
   have hb8 : W.heap[wr.heap.size]? = some (.cells m.cells 27 (0, 0)) := by rw [hW]; exact heap_new wr _
   have HSW := hide (HS.out.stay kW)
   have HTW := hide (HT.out.below HSW.out.bel HT.out.pos)
   have c5 := cells_of hb8 5
   have c2 := cells_of hb8 2
   simp only [Mb.cells] at c5 c2
   have HE : Hid (wr.alloc (.cells #[.string m.name, .string m.comment, .string m.extra, .int .u32 (m.time : Int), .bool m.text, .string m.data] 27) = W) := hW.symm
   obtain ⟨b3, hb3⟩ : ∃ b3, b3 = wr.heap.size := ⟨_, rfl⟩
   rw [<- hb3] at c5 c2 hb8
   have hb3w : b3 < W.heap.size := lt_of_block hb8
   have HB := hide hb8
   clear hW hb8 kW HS
   go_upto_region 8 with fail
   rw [show wr.alloc (.cells #[.string m.name, .string m.comment, .string m.extra, .int .u32 (m.time : Int), .bool m.text, .string m.data] 27) = W from HE.out, <- hb3]
   clear hb3 HE a0 a1 a2 a3 a4 a5
   by_cases h1 : 3000 < m.data.size
   ·have h1' : (3000 : Int) < (m.data.size : Int) := by omega
    have HA1 := hide (HA.out W HSW.out.bel)
    clear HA HAL HSW HTW HT
    go_wp2_with (go_at_call 4; refine HA1.out.mono ?_; rintro x w9 ⟨rfl, b9⟩; have B9 := hide b9; clear b9)
    go_ret
    exact ⟨rfl, B9.out⟩
   have h1' : ¬ (3000 : Int) < (m.data.size : Int) := by omega
   by_cases h2 : 70000 < m.extra.size
   ·have h2' : (70000 : Int) < (m.extra.size : Int) := by omega
    have HA1 := hide (HA.out W HSW.out.bel)
    clear HA HAL HSW HTW HT
    go_wp2_with (go_at_call 4; refine HA1.out.mono ?_; rintro x w9 ⟨rfl, b9⟩; have B9 := hide b9; clear b9)
    go_ret
    exact ⟨rfl, B9.out⟩
   have h2' : ¬ (70000 : Int) < (m.extra.size : Int) := by omega
   by_cases hmay : ¬ gMay m
   ·have HW := hide (write_no m lv W hmay)
    clear hmay h1 h2
    go_wp2_with (first
     | (refine C.wpList_load_row rfl 27 (.tmp 8) rfl b3 (by rfl) m.cells 27 (0, 0) HB.out _ Tryz.underlying27 rfl sizeM9 ?_)
     | (go_at_call 5; refine HW.out.mono ?_; rintro e w1 ⟨rfl, k1⟩; have S1 := hide ((HSW.out.stay k1).skip); clear k1))
    go_roundg g1
    case measure => omega
    case rel => exact ⟨k + 1, by omega, by go_num, L, S1⟩
   replace hmay := Classical.not_not.1 hmay
   have hzm := sB_mem m.data
   have HW : Hid (Calls Tryz.prog 5 #[.agg m.cells, .int .i64 lv] W fun e w1 => ∃ (a9 : Option Addr) (q c9 : Nat), e = .returned (.tuple #[.slice a9 q c9, .bool true]) /\ Hid (∃ Y, Y.length = q /\ Y.length <= 2000000 /\ MkB m Y /\ Bi w1 w1.heap.size a9 c9 Y) /\ Hid (Kept (fun _ => False) W w1)) := by
    refine (write_small m lv W HTW.out HTW.out.pos hmay (by omega) (by omega) (by omega) htm).mono ?_
    rintro e w1 ⟨v, X, rfl, ho, hX, hXl, k1⟩
    have hFb : ∀ x ∈ gHd m ++ X ++ gFt (sB m.data), 0 <= x /\ x <= 255 := gAll_mem m (hX.bytes9 hzm)
    obtain ⟨a9, c9, rfl, hbi⟩ := owns_bi' ho hFb
    have hlen := gHd_len m
    have h8 : (gFt (sB m.data)).length = 8 := by unfold gFt; simp [leP_length]
    have hx9 := hX.len9
    rw [sB_length] at hx9
    exact ⟨a9, _, c9, rfl, ⟨_, rfl, by rw [List.length_append, List.length_append, h8]; omega, ⟨hmay, htm, hFb, X, rfl, hX.ans hzm⟩, hbi⟩, k1⟩
   have hlb := hb3w
   clear hmay hzm htm hsm h2
   go_upto_region 12 with (first
    | (refine C.wpList_load_row rfl 27 (.tmp 8) rfl b3 (by rfl) m.cells 27 (0, 0) HB.out _ Tryz.underlying27 rfl sizeM9 ?_)
    | (go_at_call 5; refine HW.out.mono ?_; rintro e w1 ⟨a9, q, c9, rfl, HY, K1⟩))
   obtain ⟨Y, hYq, hYl, hMk, hBi⟩ := HY.out
   have S1 := hide (HSW.out.stay K1.out)
   have HB1 : Hid (w1.heap[b3]? = some (.cells m.cells 27 (0, 0))) := K1.out.heap HB.out (fun e => e)
   have HMK := hide hMk
   have HBI := hide hBi
   have HYQ := hide hYq
   have hbz := S1.out.bz
   have hS1 := S1.out.bel.size
   have HNO : Hid (a9 = none -> q = 0 /\ c9 = 0) := fun e => by subst e; have := hBi.nil0; rw [<- hYq]; exact ⟨by rw [this.1]; rfl, this.2⟩
   have HTX : Hid (Text w1.heap.size w1 a9 q Y) := by rw [<- hYq]; exact hBi.t
   have hqb : (bsL L).length + q <= 140737488355328 := by rw [<- hYq]; omega
   clear HY HW K1 HSW HB hMk hBi hYq hbz
   go_wp2_with (first
    | (refine wpList_appB _ rfl (.tmp 41) (.tmp 42) rfl w.heap.size u5 (bsL L) (by rfl) S1.out.ob a9 q c9 (by rfl) w1.heap.size Y HTX.out HNO.out hqb hS1 ?_; intro v5 w2 o5 g5 _; have O5 := hide o5; have G5 := hide g5; have HB2 := hide ((Kept.of_grown g5).heap HB1.out (mb_block S1.out.ob HB1.out)); have M5 := hide (S1.out.om.kept (Kept.of_grown g5) (mb_apart S1.out.ob S1.out.om)); have hs2 := Nat.le_trans hS1 g5.size; clear o5 g5)
    | (refine C.wpList_load_row rfl 27 (.tmp 8) rfl b3 (by rfl) #[.string m.name, .string m.comment, .string m.extra, .int .u32 (m.time : Int), .bool m.text, .string m.data] 27 (0, 0) HB2.out _ Tryz.underlying27 rfl sizeM9 ?_)
    | (refine wpList_pushMb _ rfl (.tmp 44) (.tmp 46) rfl w.heap.size u6 (msL L) (by rfl) (World.ownsRow.alloc M5.out _) m w2.heap.size (by rfl) (mem_new w2 m) (by have := S1.out.ln; simp only [msL, List.length_map]; omega) (by simp; omega) ?_; intro a6 c6 w4 o6 g6; have S4 := hide (S1.out.push HMK.out (by omega) hYl O5.out G5.out _ g6 o6); clear o6 g6))
   go_roundg g1
   case measure => omega
   case rel => exact ⟨k + 1, by omega, by go_num, L ++ [(m, Y)], S4⟩

theorem contract (H : Type) (enc : TypeId × Value -> H) (W : World) (base : Nat) (args : Array Value) (ds gs : List (DataW H)) (before : List MemPlace)
  (hval : ∀ (j : Nat) t v, Tryz.f3.params[j]? = some t -> args[j]? = some v -> Value.okWide Tryz.prog W .any base t v)
  (hW : DataW.Whole enc Tryz.prog Tryz.f3.params.toList Rows.gzBackSpec.vars false W args.toList ds gs before) (hk : Rows.uptoSmall H (ds ++ gs) = true) (hT : Tab W) :
  Calls Tryz.prog 3 args W fun e W' => ∃ v, e = .returned v /\ Rows.gzBackSpec.post enc Tryz.prog Tryz.f3 false true false false W args v W' := by
 have hW' := hW
 obtain ⟨p, q, hA0, hV, rfl, hfz, hnd⟩ := hW
 have hA : DataW.TrodAll enc Tryz.prog W 0 (fun _ => true) true Tryz.f3.params.toList args.toList ds p := hA0
 rw [Tryz.params3] at hA hval
 obtain ⟨v0, vs0, d0, ds0, p0, q0, hargs, rfl, rfl, h0, r0⟩ := trodAll_cons hA
 obtain ⟨v1, vs1, d1, ds1, p1, q1, rfl, rfl, rfl, h1, r1⟩ := trodAll_cons r0
 obtain ⟨rfl, rfl, rfl⟩ := trodAll_nil r1
 obtain rfl : args = #[v0, v1] := by cases args; simp_all
 obtain ⟨rfl, rfl⟩ := trodVars_none hV
 have hb : Rows.uptoBulk d0 + (Rows.uptoBulk d1 + 0) <= 1048576 := by
  have := of_decide_eq_true hk
  simpa [Rows.uptoBulkAll] using this
 obtain ⟨a0, len0, cap0, rfl⟩ := okWide_slice Tryz.underlying22 (hval 0 22 v0 rfl rfl)
 have k0 := h0
 have lt0 : ∀ x ∈ p0, x.block < W.heap.size := by obtain ⟨m, hm⟩ := k0; exact DataW.trod_lt m _ _ _ hm
 obtain ⟨x0, rfl, t0⟩ := open_mems h0 (by omega)
 obtain ⟨x1, rfl, rfl, rfl, wf1⟩ := open_int Tryz.underlying3 (hval 1 3 v1 rfl rfl) h1
 have bd1 := bounds_i64 wf1
 clear hA0
 refine (walk a0 cap0 x0 x1 W hT t0).mono fun e W' ⟨he, bel⟩ => ?_
 subst he
 exact ⟨_, rfl, _, _, _, [], _, [], hW', trodAll_mk1 (shut_bool Tryz.underlying4 _), (trodAll_cons_mk (Below.trod laidOut9 (by kernel_rfl) (of_decide_eq_true (by kernel_rfl)) k0 bel lt0) (trodAll_cons_mk (shut_int Tryz.underlying3 wf1) trodAll_mk0)), rfl, bel.frame _, fun h => by cases h⟩

set_option maxRecDepth 100000 in
theorem lifted (os : Os) (started : os.Started) (H : Type) (enc : TypeId × Value -> H) (F : Stop.Interp) :
  ReturnsInHanded {} Tryz.checked os 3 .any (fun w args => ((Rows.OpenSpec.upto Rows.gzBackSpec).pre enc Tryz.prog Tryz.f3 Rows.gzBackUptoRow.domain false w args /\ laidMetH Tryz.prog Rows.gzBackUptoRow.laid w) /\ sizedMet enc Tryz.prog Tryz.f3 (Rows.OpenSpec.upto Rows.gzBackSpec) false w args)
   (((Rows.OpenSpec.upto Rows.gzBackSpec).at F).post enc Tryz.prog Tryz.f3 false true false false) := by
 have hok : Input.okWideB Tryz.prog ((World.laidAll Tryz.prog os Rows.gzBackRow.laid).forCall (fun _ _ => 0) ⟨#[], #[.slice none 0 0, .int .i64 0], []⟩) 3 ⟨#[], #[.slice none 0 0, .int .i64 0], []⟩ = true := by kernel_rfl
 have hwh : DataW.whole enc Tryz.prog ((World.laidAll Tryz.prog os Rows.gzBackRow.laid).forCall (fun _ _ => 0) ⟨#[], #[.slice none 0 0, .int .i64 0], []⟩).memory Tryz.f3.params.toList Rows.gzBackSpec.vars false [.slice none 0 0, .int .i64 0] 8 = some ([.nil, .lit (.int .i64 0)], [], []) := by kernel_rfl
 refine returnsInHanded_of_calls (C := Tryz.checked) own started (by kernel_rfl)
  ⟨World.laidAll Tryz.prog os Rows.gzBackRow.laid, fun _ _ => 0, ⟨#[], #[.slice none 0 0, .int .i64 0], []⟩, World.laidAll_os _ _ _, World.shaped_of_ZipB (by kernel_rfl) (by kernel_rfl), (Input.okWide_of_okWideB (base := 0) hok).1, (Input.okWide_of_okWideB hok).2,
   ⟨⟨(OpenSpec.pre_some (k := Rows.uptoSmall) rfl _ _ _ _).2 ⟨[.nil, .lit (.int .i64 0)], [], [], DataW.Whole_of_whole hwh, rfl, by kernel_rfl⟩, wit_met os _⟩, sizedMet_of_sizedB (s := Rows.gzBackSpec) (fuel := 8) (by kernel_rfl)⟩, by
    simp only [Assume.holds]
    exact ⟨by simp, by simp, fun h => (by cases h), by simp, by simp⟩⟩ ?_
 intro w tape i _ _ _ hok hpre hholds
 obtain ⟨_, _, _, fn', hfn', _, _, _, _, hval⟩ := hok
 obtain rfl : fn' = Tryz.f3 := Option.some.inj (hfn'.symm.trans Tryz.func3)
 obtain ⟨⟨hp1, hx⟩, _⟩ := hpre
 obtain ⟨ds, gs, before, hw, _, hkk⟩ := (OpenSpec.pre_some (k := Rows.uptoSmall) rfl _ _ _ _).1 hp1
 have hw' := DataW.Whole.of_heap (w' := w.forCall tape i) (by rfl) hw
 have hx' : laidMetH Tryz.prog Rows.gzBackRow.laid (w.forCall tape i) := laidMetH.of_heap (by rfl) hx
 refine (contract H enc (w.forCall tape i) w.heap.size i.args ds gs before hval hw' hkk (tab_of_laid hx')).mono fun e W' ⟨v, he, hp⟩ => ?_
 subst he
 exact ChangeSpec.post_blind hp

theorem over : Rows.GzBackUptoSaid :=
 OpenClaim.holds_of_cond 3 Tryz.f3 rfl rfl rfl rfl rfl rfl rfl ⟨rfl, rfl, rfl, rfl, rfl⟩ rfl rfl rfl rfl rfl (by kernel_rfl) Tryz.func3 (by kernel_rfl)
  (of_decide_eq_true (by kernel_rfl)) (by unfold Func.isWrapper; first | (rw [if_pos (by decide +kernel)]; kernel_rfl) | (rw [if_neg (by decide +kernel)]; exact ⟨rfl, rfl⟩))
  (fun os started H enc _ F => lifted os started H enc F)
end Go.Proofs.YteknifnadbmfiaaGreatDoor.gzBack
namespace Go.Proofs.YteknifnadbmfiaaGreatDoor
theorem gzBackUpto_holds : Rows.GzBackUptoCardSaid :=
 Claim7.holds_tied_plain_at .later [] [.data, .data] true Rows.gzBackUptoCard.stood.harness false
  gzBack.over (fun _ h => by cases h) (by kernel_rfl) (fun _ h => by cases h) gzBackUpto_row_tie rfl ⟨rfl, rfl⟩ (by kernel_rfl) rfl
  (fun f fn hf hfn => by
   obtain rfl : f = 3 := Option.some.inj ((show Tryz.prog.funcNamed Rows.gzBackUptoRow.func = some 3 by kernel_rfl).symm.trans hf) |>.symm
   obtain rfl : fn = Tryz.f3 := (Option.some.inj (Tryz.func3.symm.trans hfn)).symm
   exact ⟨by kernel_rfl, fun j t ht => by
    rw [Tryz.params3] at ht
    have hm : t ∈ [22, 3] := by simpa using Array.mem_of_getElem? ht
    have hall : ([22, 3].all fun u => !Tryz.prog.wantsStandIn u) = true := by kernel_rfl
    exact (show Tryz.prog.wantsStandIn t = false by simpa using List.all_eq_true.1 hall t hm)⟩)
  (by kernel_rfl)
#print axioms gzBackUpto_holds
end Go.Proofs.YteknifnadbmfiaaGreatDoor
