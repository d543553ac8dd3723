/- gz: qG7Rd. -/
import Derived.Test.YteknifnadbmfiaaGreatDoorqG6Bld
namespace Go.Proofs.YteknifnadbmfiaaGreatDoor
set_option maxRecDepth 100000
open Go Go.RowKit
set_option linter.unusedVariables false

def RdOk (w : World) (R : Except Int (List Mb)) (e : Ending) (w' : World) : Prop :=
 (∃ ms v, R = .ok ms /\ e = .returned (.tuple #[v, .int .i64 0]) /\ OwnsMb w' w.heap.size v ms /\ Below w.heap.size w w' /\ ms ≠ []) \/ (∃ er, R = .error er /\ 90 <= er /\ er <= 93 /\ e = .returned (.tuple #[.slice none 0 0, .int .i64 er]) /\ Below w.heap.size w w')
structure RdSt (w W : World) (br : Nat) (zs : List Int) (left : Nat) (v : Value) (ms : List Mb) : Prop where
 rd : ∃ a c, RdAt W w.heap.size br zs left a c
 own : OwnsMb W w.heap.size v ms
 low : Below w.heap.size w W
 lim : left <= 10000000 /\ zs.length <= 140737488351232 /\ ms.length + zs.length <= 100000000
theorem sizeM_ne : (27 : TypeId) ≠ 47 := by decide
theorem OwnsMb.apart {w : World} {base : Nat} {v : Value} {ms : List Mb} (h : OwnsMb w base v ms) {b : Nat} {cs : Array Value} {fr : Nat × Nat} (hb : w.heap[b]? = some (.cells cs 47 fr)) : ∀ g, v.ownBlock = some g -> g ≠ b := fun g hg e => by
 rcases h.2 with ⟨rfl, _⟩ | ⟨g', cap, cur, rfl, _, hh, _⟩
 ·simp [Value.ownBlock] at hg
 ·simp [Value.ownBlock] at hg
  subst hg
  subst e
  rw [hh] at hb
  simp only [Option.some.injEq, Obj.cells.injEq] at hb
  exact sizeM_ne hb.2.1
theorem RdSt.member {w W : World} {br : Nat} {zs : List Int} {left : Nat} {v : Value} {ms : List Mb} (h : RdSt w W br zs left v ms) (hT : Tab w) (h2 : 2 < w.heap.size) :
  Calls Tryz.prog 13 #[.pointer (some ⟨br, 0, none⟩)] W fun e W' => (∃ m ys, gMember left zs = .ok (m, ys) /\ e = .returned (.tuple #[.agg m.cells, .int .i64 0]) /\ RdSt w W' br ys (left - m.data.size) v ms) \/ (∃ er, gMember left zs = .error er /\ 90 <= er /\ er <= 93 /\ e = .returned (.tuple #[.agg mb0.cells, .int .i64 er]) /\ Below w.heap.size w W') := by
 obtain ⟨a, c, r⟩ := h.rd
 obtain ⟨l1, l2, l3⟩ := h.lim
 have hbr := lt_of_block r.h
 have low : ∀ {W' : World}, On br W W' -> Below w.heap.size w W' := fun {W'} o => h.low.trans (Kept.below o h.low.size (fun i hi e => by have := r.lt; omega))
 refine (member_c (hT.below h.low h2) h2 l2 l1 ⟨h.rd, On.refl _ _⟩ r.lt).mono ?_
 rintro e W' (⟨m, ys, e1, rfl, s, hd⟩ | ⟨er, e1, g1, g2, rfl, o⟩)
 ·have hs := (gMember_suf e1).2
  simp only at hs
  refine .inl ⟨m, ys, e1, rfl, ?_, h.own.kept s.low (fun g hg e => h.own.apart r.h g hg e), low s.low, by omega, by omega, by omega⟩
  have := s.rd
  rwa [show (left : Int) - (m.data.size : Nat) = ((left - m.data.size : Nat) : Int) by omega] at this
 ·exact .inr ⟨er, e1, g1, g2, rfl, low o⟩
theorem RdSt.push {w W W' : World} {br : Nat} {zs : List Int} {left : Nat} {v : Value} {ms : List Mb} (h : RdSt w W br zs left v ms) (m : Mb) (hz : (ms ++ [m]).length + zs.length <= 100000000) {a' : Option Addr} {cap' : Nat}
  (ho : OwnsMb W' w.heap.size (.slice a' (ms.length + 1) cap') (ms ++ [m])) (hg : ((W.alloc (.cells m.cells 27)).alloc (.cells m.cells 27)).grownBy W' v.ownBlock) : RdSt w W' br zs left (.slice a' (ms.length + 1) cap') (ms ++ [m]) := by
 obtain ⟨a, c, r⟩ := h.rd
 have k1 : Kept (fun _ => False) W ((W.alloc (.cells m.cells 27)).alloc (.cells m.cells 27)) := Kept.alloc _ (Kept.alloc _ (Kept.refl _ W) _) _
 have k : Kept (fun k => some k = v.ownBlock) W W' := (k1.mono (fun _ _ e => e.elim)).trans (Kept.of_grown hg) (fun _ _ e => e)
 have hnb : ¬ some br = v.ownBlock := fun e => h.own.apart r.h br e.symm rfl
 have hlow : ∀ b, b < w.heap.size -> ¬ some b = v.ownBlock := fun b hb e => by have := (ownsRow_lt h.own e.symm).1; omega
 exact ⟨⟨a, c, r.kept k hlow hnb⟩, ho, h.low.trans (k.below h.low.size hlow), h.lim.1, h.lim.2.1, hz⟩
set_option maxHeartbeats 8000000 in
theorem read_c (w : World) (hT : Tab w) (h2 : 2 < w.heap.size) (a : Option Addr) (cap : Nat) (zs : List Int) (most : Int) (hb : Bi w w.heap.size a cap zs) (hl : zs.length <= 100000000) (hm : most <= 10000000) :
  Calls Tryz.prog 6 #[.slice a zs.length cap, .int .i64 most] w (RdOk w (gRead zs most)) := by
 obtain ⟨left, hleft⟩ : ∃ left : Nat, most.toNat = left := ⟨_, rfl⟩
 have hmx : (if most < 0 then (0 : Int) else most) = (left : Int) := by split <;> omega
 have hll : left <= 10000000 := by omega
 have HR0 : Hid (gRd (zs.length + 1) left zs [] = gRead zs most) := by show _ = _; unfold gRead; rw [hleft]
 have HMK := hide (C.make_c w)
 have hbu := built_rd (.slice a zs.length cap) (left : Int) rfl
 have HST : Hid (RdSt w (((w.alloc (.cells (C.tabA 256) 44)).alloc (.cells (C.tabA 256) 44)).alloc (.cells (rdA (.slice a zs.length cap) left) 47)) (w.heap.size + 1 + 1) zs left (.slice none 0 0) []) := by
  have k : Kept (fun _ => False) w (((w.alloc (.cells (C.tabA 256) 44)).alloc (.cells (C.tabA 256) 44)).alloc (.cells (rdA (.slice a zs.length cap) left) 47)) := Kept.alloc _ (Kept.alloc _ (Kept.alloc _ (Kept.refl _ w) _) _) _
  refine ⟨⟨a, cap, ?_, hb.kept k (fun _ _ e => e), by omega⟩, OwnsMb.nil _ _, k.below (Nat.le_refl _) (fun _ _ e => e), hll, by omega, by simp; omega⟩
  have := heap_new ((w.alloc (.cells (C.tabA 256) 44)).alloc (.cells (C.tabA 256) 44)) (.cells (rdA (.slice a zs.length cap) left) 47)
  simpa using this
 have HT := hide hT
 have HBU := hide hbu
 generalize gRead zs most = R at *
 clear hT hb hbu hleft
 generalize hTB : C.tabA 256 = TB at *
 go_enter Tryz.func6, Tryz.ntmps6
 go_upto_region 2 with (first
  | (go_at_call 12; refine HMK.out.mono ?_; rintro e w1 ⟨rfl, rfl⟩)
  | (refine M.wpList_build rfl 47 _ rfl _ _ HBU.out (by simp [Act.eval]) ?_))
 clear hTB HBU HMK hmx
 obtain ⟨W0, hW0⟩ : ∃ W, W = ((w.alloc (.cells TB 44)).alloc (.cells TB 44)).alloc (.cells (rdA (.slice a zs.length cap) left) 47) := ⟨_, rfl⟩
 rw [<- hW0] at HST ⊢
 obtain ⟨br, hbr⟩ : ∃ br, br = w.heap.size + 1 + 1 := ⟨_, rfl⟩
 rw [<- hbr] at HST ⊢
 clear hW0 hbr
 go_wp2_with fail
 go_loopg [7] (zs.length + 1) (fun gk v7 wx => ∃ (zs' : List Int) (left' : Nat) (ms : List Mb) (a' : Option Addr) (c' : Nat), v7 = .slice a' ms.length c' /\ Hid (RdSt w wx br zs' left' (.slice a' ms.length c') ms) /\ Hid (zs'.length < gk /\ (ms = [] \/ zs' ≠ []) /\ gRd gk left' zs' ms = R \/ ms ≠ [] /\ zs' = [] /\ R = .ok ms))
 case atStart => exact ⟨zs, left, [], none, 0, rfl, HST.out, .inl ⟨Nat.lt_succ_self _, .inl rfl, HR0.out⟩⟩
 case round =>
  obtain ⟨zs', left', ms, a', c', rfl, HS, HC⟩ := hrel
  clear HST HR0
  obtain ⟨ar, cr, hrd⟩ := HS.out.rd
  have c0 := cells_of hrd.h 0
  rw [rdA_0] at c0
  clear hrd
  obtain ⟨NM, hNM⟩ : ∃ n, ms.length = n := ⟨_, rfl⟩
  obtain ⟨NZ, hNZ⟩ : ∃ n, zs'.length = n := ⟨_, rfl⟩
  rw [hNZ] at c0
  rw [hNM] at HS ⊢
  have HNM := hide hNM
  have HNZ := hide hNZ
  rcases HC.out with ⟨hlt, hor, hR⟩ | ⟨hne, hz, hR⟩
  ·obtain ⟨g, rfl⟩ : ∃ g, gk = g + 1 := ⟨gk - 1, by omega⟩
   have hgo : NM = 0 \/ (0 < NM /\ 0 < NZ) := by
    by_cases h0 : ms = []
    ·left; rw [<- hNM, h0]; rfl
    ·right
     have h1 := hor.resolve_left h0
     have h3 := List.length_pos_iff.2 h1
     have h4 := List.length_pos_iff.2 h0
     omega
   have hlim := HS.out.lim
   have hlt' := hlt
   rw [hNZ] at hlt'
   have HM := hide (HS.out.member HT.out h2)
   rcases hme : gMember left' zs' with er | ⟨m, ys⟩
   ·have HRR : Hid (R = .error er) := by show _ = _; rw [<- hR, gRd, hme]
    have HM2 : Hid (Calls Tryz.prog 13 #[.pointer (some ⟨br, 0, none⟩)] wr fun e W' => ((90 <= er /\ er <= 93) /\ e = .returned (.tuple #[.agg mb0.cells, .int .i64 er])) /\ Below w.heap.size w W') := by
     refine HM.out.mono ?_
     rw [hme]
     rintro e W' (⟨_, _, e1, _⟩ | ⟨er', e1, g1, g2, rfl, l⟩)
     ·cases e1
     ·cases e1; exact ⟨⟨⟨g1, g2⟩, rfl⟩, l⟩
    clear HM hme hR hor HC HS hlim hlt hlt' hNM hNZ
    rcases hgo with hg | ⟨hg, hg2⟩
    case' inl => subst hg
    case' inr =>
     have hg3 : ((NM : Int) == 0) = false := by rw [beq_eq_false_iff_ne]; omega
     have hg4 : ¬ (NM : Int) = 0 := by omega
     have hg5 : (0 : Int) < (NZ : Int) := by omega
    all_goals
     go_upto_region 5 with (first
      | (go_at_call 13; refine HM2.out.mono ?_; rintro e W1 ⟨⟨hlim, rfl⟩, l1⟩; have L1 := hide l1; clear l1 HM2)
      | (refine C.wpList_store_row rfl 27 (.tmp 8) (.tmp 30) rfl W1.heap.size mb0.cells (by rfl) (by rfl) mb0.cells 27 (heap_new W1 _) sizeM rfl (Mb.one _) (W1.alloc (.cells mb0.cells 27)) (World.setRow_alloc_new _ _ _ _) ?_))
     have h0 : er ≠ 0 := by omega
     have L2 := hide (L1.out.alloc L1.out.size (.cells mb0.cells 27))
     generalize W1.alloc (.cells mb0.cells 27) = W2 at *
     go_wp2_with fail
     go_ret2
     exact .inr ⟨er, HRR.out, hlim.1, hlim.2, rfl, L2.out⟩
   ·have hys := (gMember_suf hme).2
    simp only at hys
    have HRR : Hid (ys.length < g /\ ((ms ++ [m]) = [] \/ ys ≠ []) /\ gRd g (left' - m.data.size) ys (ms ++ [m]) = R \/ (ms ++ [m]) ≠ [] /\ ys = [] /\ R = .ok (ms ++ [m])) := by
     by_cases hy : ys = []
     ·right
      refine ⟨by simp, hy, ?_⟩
      rw [<- hR, gRd, hme]
      simp [hy]
     ·left
      refine ⟨by omega, .inr hy, ?_⟩
      rw [<- hR, gRd, hme]
      simp [hy]
    have HM2 : Hid (Calls Tryz.prog 13 #[.pointer (some ⟨br, 0, none⟩)] wr fun e W' => e = .returned (.tuple #[.agg m.cells, .int .i64 0]) /\ RdSt w W' br ys (left' - m.data.size) (.slice a' NM c') ms) := by
     refine HM.out.mono ?_
     rw [hme]
     rintro e W' (⟨_, _, e1, rfl, s⟩ | ⟨er', e1, _⟩)
     ·cases e1; exact ⟨rfl, s⟩
     ·cases e1
    have hz9 : (ms ++ [m]).length + ys.length <= 100000000 := by simp; omega
    have hmsl : ms.length <= 1000000000 := by omega
    have HZ9 := hide hz9
    clear HM hme hR hor HC HS hlim hz9 hlt hlt' hNM hNZ hys
    rcases hgo with hg | ⟨hg, hg2⟩
    case' inl => subst hg
    case' inr =>
     have hg3 : ((NM : Int) == 0) = false := by rw [beq_eq_false_iff_ne]; omega
     have hg4 : ¬ (NM : Int) = 0 := by omega
     have hg5 : (0 : Int) < (NZ : Int) := by omega
    all_goals
     go_upto_region 7 with (first
      | (go_at_call 13; refine HM2.out.mono ?_; rintro e W1 ⟨rfl, s1⟩; have S1 := hide s1; clear s1 HM2)
      | (refine C.wpList_store_row rfl 27 (.tmp 8) (.tmp 30) rfl W1.heap.size m.cells (by rfl) (by rfl) mb0.cells 27 (heap_new W1 _) sizeM rfl (Mb.one _) (W1.alloc (.cells m.cells 27)) (World.setRow_alloc_new _ _ _ _) ?_))
     have hown := S1.out.own.kept (Kept.alloc _ (Kept.alloc _ (Kept.refl (fun _ => False) W1) (.cells m.cells 27)) (.cells m.cells 27)) (fun _ _ e => e)
     have HOWN := hide hown
     have hls := S1.out.low.size
     have hcell : ∀ j u, m.cells.toList[j]? = some u -> ((W1.alloc (.cells m.cells 27)).alloc (.cells m.cells 27)).cell? ((⟨W1.heap.size + 1, 0, none⟩ : Addr).add j) = some u := by
      have h9 := World.news_of_block (heap_new2 W1 (.cells m.cells 27) (.cells m.cells 27))
      exact h9
     have HCELL := hide hcell
     clear hown hcell
     simp only [Mb.cells]
     go_wp2_with (first
      | (refine C.wpList_load_row rfl 27 (.tmp 8) rfl W1.heap.size (by rfl) _ 27 (0, 0) (heap_new W1 _) _ Tryz.underlying27 rfl sizeM ?_)
      | (at_builtin; refine wpList_pushMb _ rfl (.tmp 35) (.tmp 37) rfl w.heap.size _ ms (by rfl) HOWN.out m (W1.heap.size + 1) (by rfl) HCELL.out hmsl (by simp; omega) ?_; intro a2 c2 W3 ho3 hg3; have S3 := hide (S1.out.push m HZ9.out ho3 hg3); clear ho3 hg3))
     go_roundg g
     case measure => omega
     case rel => exact ⟨ys, left' - m.data.size, ms ++ [m], a2, c2, by rw [List.length_append]; rfl, by rw [List.length_append]; exact S3.out, HRR.out⟩
  ·have HO := hide HS.out.own
   have HL := hide HS.out.low
   have hn0 : ¬ (NM : Int) = 0 := by intro e; exact hne (List.eq_nil_of_length_eq_zero (by omega))
   have hn1 : ((NM : Int) == 0) = false := by rw [beq_eq_false_iff_ne]; exact hn0
   have hz0 : NZ = 0 := by rw [<- hNZ, hz]; rfl
   subst hz0
   have HN := hide hne
   have HRR := hide hR
   clear hne hR HC HS hz hNM hNZ
   go_wp2_with fail
   go_ret2
   exact .inl ⟨ms, _, HRR.out, rfl, HO.out, HL.out, HN.out⟩
end Go.Proofs.YteknifnadbmfiaaGreatDoor
