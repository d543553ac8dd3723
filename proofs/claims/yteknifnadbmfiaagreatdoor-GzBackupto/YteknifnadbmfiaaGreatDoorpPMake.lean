/- fixedSymbols, fixedBacks, makeCodes: contracts. -/
import Derived.Test.YteknifnadbmfiaaGreatDoorpAg06PRun
namespace Go.Proofs.YteknifnadbmfiaaGreatDoor
set_option maxRecDepth 100000
open Go Go.RowKit

def fl (L : List Int) (k : Nat) : List Int := L.take k ++ List.replicate (L.length - k) 0
theorem fl_length (L : List Int) {k : Nat} (h : k <= L.length) : (fl L k).length = L.length := by unfold fl; simp; omega
theorem fl_zero (L : List Int) : fl L 0 = List.replicate L.length 0 := by simp [fl]
theorem fl_all (L : List Int) : fl L L.length = L := by simp [fl]
theorem fl_at (L : List Int) {k : Nat} (h : k < L.length) : (valA (fl L k))[k]? = some (.int .i64 0) := by
 rw [valA_at _ (by rw [fl_length L (by omega)]; exact h)]
 congr 2
 unfold ln fl List.getD
 rw [List.getElem?_append_right (by simp; omega), List.getElem?_replicate, if_pos (by simp; omega)]
 rfl
theorem fl_set (L : List Int) {k : Nat} (h : k < L.length) {x : Int} (hx : ln L k = x) : (valA (fl L k)).setIfInBounds k (.int .i64 x) = valA (fl L (k + 1)) := by
 subst hx
 rw [<- Array.toList_inj]
 simp only [valA, Array.toList_setIfInBounds]
 apply List.ext_getElem?
 intro i
 have hl : ln L k = L[k] := by simp [ln, List.getD, h]
 rcases Nat.lt_trichotomy i k with hi | hi | hi
 ·rw [List.getElem?_set_ne (by omega)]
  simp only [fl, List.getElem?_map]
  rw [List.getElem?_append_left (by simp; omega), List.getElem?_append_left (by simp; omega), List.getElem?_take_of_lt hi, List.getElem?_take_of_lt (by omega)]
 ·subst hi
  rw [List.getElem?_set_self (by simp [fl]; omega)]
  simp only [fl, List.getElem?_map]
  rw [List.getElem?_append_left (by simp; omega), List.getElem?_take_of_lt (by omega), List.getElem?_eq_getElem h, hl]
  rfl
 ·rw [List.getElem?_set_ne (by omega)]
  simp only [fl, List.getElem?_map]
  rw [List.getElem?_append_right (by simp; omega), List.getElem?_append_right (by simp; omega), List.getElem?_replicate, List.getElem?_replicate]
  simp only [List.length_take]
  congr 1
  by_cases h1 : i < L.length
  ·rw [if_pos (by omega), if_pos (by omega)]
  ·rw [if_neg (by omega), if_neg (by omega)]

theorem iFive_ln {k : Nat} (h : k < 32) : ln iFive k = 5 := by
 unfold ln iFive List.getD
 rw [List.getElem?_replicate, if_pos h]
 rfl
theorem iFix_ln {k : Nat} (h : k < 288) : ln iFix k = if k < 144 then 8 else if k < 256 then 9 else if k < 280 then 7 else 8 := by
 unfold ln iFix List.getD
 simp only [List.getElem?_append, List.length_append, List.length_replicate, List.getElem?_replicate]
 rcases (show k < 144 \/ (144 <= k /\ k < 256) \/ (256 <= k /\ k < 280) \/ (280 <= k /\ k < 288) by omega) with h1 | h1 | h1 | h1
 all_goals
  repeat (first | rw [if_pos (by omega)] | rw [if_neg (by omega)])
  try rfl
theorem iFix_length : iFix.length = 288 := by unfold iFix; simp only [List.length_append, List.length_replicate]
theorem iFive_length : iFive.length = 32 := by unfold iFive; simp only [List.length_replicate]
theorem iFix_check : check iFix true = 0 := by decide +kernel
theorem iFive_check : check iFive true = 0 := by decide +kernel

def NewRow (w : World) (L : List Int) (e : Ending) (w' : World) : Prop := e = .returned (.slice (some ⟨w.heap.size, 0, none⟩) L.length L.length) /\ w'.heap[w.heap.size]? = some (.cells (valA L) 3 (0, 0)) /\ Below w.heap.size w w'

set_option maxHeartbeats 1000000 in
theorem fixedBacks_c (w : World) : Calls Tryz.prog 104 #[] w (NewRow w iFive) := by
 obtain ⟨i0, hi, hz0, hz1, hz2⟩ := info_parts Tryz.info3
 have hmk : ∀ W : World, (Instr.makeSlice 97 (.int .i64 32) (.int .i64 32)).run Tryz.prog W = .ok (.slice (some ⟨W.heap.size, 0, none⟩) 32 32) (W.alloc (.cells (valA (List.replicate 32 0)) 3)) := made_ints 32 i0 hi hz0 hz1 hz2 (by decide)
 have hlen : Hid (iFive.length = 32) := iFive_length
 have HZ := hide (fl_zero iFive)
 have HS : ∀ k, k < 32 -> Hid ((valA (fl iFive k)).setIfInBounds k (.int .i64 5) = valA (fl iFive (k + 1))) := fun k hk => fl_set iFive (by rw [iFive_length]; exact hk) (iFive_ln hk)
 have HC : ∀ k, k < 32 -> Hid ((valA (fl iFive k))[k]? = some (.int .i64 0)) := fun k hk => fl_at iFive (by rw [iFive_length]; exact hk)
 have HE := hide (fl_all iFive)
 rw [hlen.out] at HZ HE
 have HN : Hid (∀ e w', e = .returned (.slice (some ⟨w.heap.size, 0, none⟩) 32 32) -> w'.heap[w.heap.size]? = some (.cells (valA (fl iFive 32)) 3 (0, 0)) -> Below w.heap.size w w' -> NewRow w iFive e w') := fun e w' h1 h2 h3 => ⟨by rw [h1, iFive_length], by rw [h2, HE.out], h3⟩
 generalize NewRow w iFive = Q at HN ⊢
 rw [<- HZ.out] at hmk
 generalize fl iFive = F at hmk HS HC HN
 clear HZ HE hlen
 have HB0 : Hid (Below w.heap.size w (w.alloc (.cells (valA (F 0)) 3))) := (Below.refl _ w).alloc (Nat.le_refl _) _
 have HH0 : Hid ((w.alloc (.cells (valA (F 0)) 3)).heap[w.heap.size]? = some (.cells (valA (F 0)) 3 (0, 0))) := heap_new _ _
 go_enter Tryz.func104, Tryz.ntmps104
 go_wp2
 go_loopw [6] (fun i wr => ∃ k : Nat, k <= 32 /\ i = .int .i64 k /\ wr.heap[w.heap.size]? = some (.cells (valA (F k)) 3 (0, 0)) /\ Below w.heap.size w wr) (fun i _ => 32 - (intOf i).toNat)
 case atStart => exact ⟨0, Nat.zero_le _, rfl, HH0.out, HB0.out⟩
 case round =>
  obtain ⟨k, hk, rfl, hh, hb⟩ := hrel
  have H1 := hide hh
  have H2 := hide hb
  by_cases hlt : k < 32
  ·have c1 := cells_of hh k
   rw [(HC k hlt).out] at c1
   have f1 := free_of hh k
   have hz := lt_of_block hh
   have HSk := HS k hlt
   clear hh hb HS HC
   go_wp2
   go_roundw
   case rel => exact ⟨k + 1, by omega, by go_num, by rw [set_of H1.out k, HSk.out], H2.out.setCell (Nat.le_refl _) _⟩
   case measure => simp [intOf]; omega
  ·obtain rfl : k = 32 := by omega
   clear hh hb
   go_wp2
   exact HN.out _ _ rfl H1.out H2.out

set_option maxHeartbeats 2000000 in
theorem fixedSymbols_c (w : World) : Calls Tryz.prog 103 #[] w (NewRow w iFix) := by
 obtain ⟨i0, hi, hz0, hz1, hz2⟩ := info_parts Tryz.info3
 have hmk : ∀ W : World, (Instr.makeSlice 97 (.int .i64 288) (.int .i64 288)).run Tryz.prog W = .ok (.slice (some ⟨W.heap.size, 0, none⟩) 288 288) (W.alloc (.cells (valA (List.replicate 288 0)) 3)) := made_ints 288 i0 hi hz0 hz1 hz2 (by decide)
 have hlen : Hid (iFix.length = 288) := iFix_length
 have HZ := hide (fl_zero iFix)
 have HS : ∀ k, k < 288 -> Hid ((valA (fl iFix k)).setIfInBounds k (.int .i64 (if k < 144 then 8 else if k < 256 then 9 else if k < 280 then 7 else 8)) = valA (fl iFix (k + 1))) := fun k hk => fl_set iFix (by rw [iFix_length]; exact hk) (iFix_ln hk)
 have HC : ∀ k, k < 288 -> Hid ((valA (fl iFix k))[k]? = some (.int .i64 0)) := fun k hk => fl_at iFix (by rw [iFix_length]; exact hk)
 have HE := hide (fl_all iFix)
 rw [hlen.out] at HZ HE
 have HN : Hid (∀ e w', e = .returned (.slice (some ⟨w.heap.size, 0, none⟩) 288 288) -> w'.heap[w.heap.size]? = some (.cells (valA (fl iFix 288)) 3 (0, 0)) -> Below w.heap.size w w' -> NewRow w iFix e w') := fun e w' h1 h2 h3 => ⟨by rw [h1, iFix_length], by rw [h2, HE.out], h3⟩
 generalize NewRow w iFix = Q at HN ⊢
 rw [<- HZ.out] at hmk
 generalize fl iFix = F at hmk HS HC HN
 clear HZ HE hlen
 have HB0 : Hid (Below w.heap.size w (w.alloc (.cells (valA (F 0)) 3))) := (Below.refl _ w).alloc (Nat.le_refl _) _
 have HH0 : Hid ((w.alloc (.cells (valA (F 0)) 3)).heap[w.heap.size]? = some (.cells (valA (F 0)) 3 (0, 0))) := heap_new _ _
 go_enter Tryz.func103, Tryz.ntmps103
 go_wp2
 go_loopw [6] (fun i wr => ∃ k : Nat, k <= 288 /\ i = .int .i64 k /\ wr.heap[w.heap.size]? = some (.cells (valA (F k)) 3 (0, 0)) /\ Below w.heap.size w wr) (fun i _ => 288 - (intOf i).toNat)
 case atStart => exact ⟨0, Nat.zero_le _, rfl, HH0.out, HB0.out⟩
 case round =>
  obtain ⟨k, hk, rfl, hh, hb⟩ := hrel
  have H1 := hide hh
  have H2 := hide hb
  by_cases hlt : k < 288
  ·have c1 := cells_of hh k
   rw [(HC k hlt).out] at c1
   have f1 := free_of hh k
   have hz := lt_of_block hh
   have HSk := HS k hlt
   clear hh hb HS HC
   by_cases h1 : k < 144
   case' pos => rw [if_pos h1] at HSk; have h2 : (k : Int) < 144 := by omega
   case' neg =>
    rw [if_neg h1] at HSk
    have h2 : ¬ (k : Int) < 144 := by omega
    by_cases h3 : k < 256
    case' pos => rw [if_pos h3] at HSk; have h4 : (k : Int) < 256 := by omega
    case' neg =>
     rw [if_neg h3] at HSk
     have h4 : ¬ (k : Int) < 256 := by omega
     by_cases h5 : k < 280
     case' pos => rw [if_pos h5] at HSk; have h6 : (k : Int) < 280 := by omega
     case' neg => rw [if_neg h5] at HSk; have h6 : ¬ (k : Int) < 280 := by omega
   all_goals
    go_wp2
    go_roundw
    case rel => exact ⟨k + 1, by omega, by go_num, by rw [set_of H1.out k, HSk.out], H2.out.setCell (Nat.le_refl _) _⟩
    case measure => simp [intOf]; omega
  ·obtain rfl : k = 288 := by omega
   clear hh hb
   go_wp2
   exact HN.out _ _ rfl H1.out H2.out

theorem CodeAt.wide {lo hi lo' hi' : Nat} {w : World} {bc gl gc : Nat} {vo : Value} {N : Nat} {ls : List Int} (h : CodeAt lo hi w bc gl gc vo N ls) (h1 : lo' <= lo) (h2 : hi <= hi') : CodeAt lo' hi' w bc gl gc vo N ls := by
 have a := h.inb; have b := h.inl; have c := h.inc
 exact ⟨h.block, h.lens, h.codes, h.ord.low h1, fun g hg => by have := h.ordlt g hg; omega, h.long, by omega, by omega, by omega⟩
def CdsX (lo hi : Nat) (w : World) (bk : Nat) (S D : List Int) : Prop := ∃ bc gl gc vo N bc' gl' gc' vo' N', Cds lo hi w bk bc gl gc vo N bc' gl' gc' vo' N' S D
theorem CdsX.kept {lo hi : Nat} {w w' : World} {bk : Nat} {S D : List Int} {M : Nat -> Prop} (h : CdsX lo hi w bk S D) (k : Kept M w w') (hn : ∀ b, lo <= b -> b < hi -> ¬ M b) : CdsX lo hi w' bk S D := by
 obtain ⟨bc, gl, gc, vo, N, bc', gl', gc', vo', N', h⟩ := h
 exact ⟨bc, gl, gc, vo, N, bc', gl', gc', vo', N', h.kept k hn⟩
def MkYes (w : World) (S D : List Int) (e : Ending) (w' : World) : Prop := ∃ bk, e = .returned (.tuple #[.pointer (some ⟨bk, 0, none⟩), .int .i64 0]) /\ CdsX w.heap.size w'.heap.size w' bk S D /\ Below w.heap.size w w'
set_option maxHeartbeats 1000000 in
theorem makeCodes_yes (B : Nat) (a a' : Option Addr) (cap cap' : Nat) (S D : List Int) (w : World) (hS : check S true = 0) (hD : check D true = 0) (hi : Ints 0 B w a S) (hi' : Ints 0 B w a' D) :
  Calls Tryz.prog 102 #[.slice a S.length cap, .slice a' D.length cap'] w (MkYes w S D) := by
 have HM := hide (make_ok B a cap S true w hS hi)
 have HN := fun w1 (k : Below w.heap.size w w1) => hide (make_ok B a' cap' D true w1 hD (hi'.stay k))
 clear hS hD hi hi'
 go_enter Tryz.func102, Tryz.ntmps102
 go_wp2_with (first
  | (go_at_call 66; refine HM.out.mono ?_; rintro e w1 ⟨bc, gl, gc, vo, N, rfl, c1, b1⟩; have C1 := hide c1; have B1 := hide b1; clear c1 b1 HM)
  | (go_at_call 66; refine (HN w1 B1.out).out.mono ?_; rintro e w2 ⟨bc', gl', gc', vo', N', rfl, c2, b2⟩; have C2 := hide c2; have B2 := hide b2; clear c2 b2 HN))
 go_ret2
 have hz1 := B1.out.size
 have hz2 := B2.out.size
 have hb : Below w2.heap.size w2 (w2.alloc (.cells #[.pointer (some ⟨bc, 0, none⟩), .pointer (some ⟨bc', 0, none⟩)] 203)) := (Below.refl _ w2).alloc (Nat.le_refl _) _
 have hsz : (w2.alloc (.cells #[.pointer (some ⟨bc, 0, none⟩), .pointer (some ⟨bc', 0, none⟩)] 203)).heap.size = w2.heap.size + 1 := by simp
 refine ⟨w2.heap.size, rfl, ⟨bc, gl, gc, vo, N, bc', gl', gc', vo', N', heap_new _ _, ?_, ?_, by omega, by omega⟩, (B1.out.trans (B2.out.mono hz1)).trans (hb.mono (by omega))⟩
 ·exact ((C1.out.below B2.out (Nat.le_refl _)).below hb (by omega)).wide (Nat.le_refl _) (by omega)
 ·exact (C2.out.below hb (Nat.le_refl _)).wide (by omega) (by omega)
theorem makeCodes_no (B : Nat) (a a' : Option Addr) (cap cap' : Nat) (S D : List Int) (w : World) (hSD : ¬ check S true = 0 \/ ¬ check D true = 0) (hi : Ints 0 B w a S) (hi' : Ints 0 B w a' D) :
  Calls Tryz.prog 102 #[.slice a S.length cap, .slice a' D.length cap'] w fun e w' => e = .returned (.tuple #[.pointer none, .int .i64 63]) /\ Below w.heap.size w w' := by
 by_cases hS : check S true = 0
 ·have hD : ¬ check D true = 0 := hSD.resolve_left (fun h => h hS)
  have HM := hide (make_ok B a cap S true w hS hi)
  have HN := fun w1 (k : Below w.heap.size w w1) => hide (make_err B a' cap' D true w1 hD (hi'.stay k))
  clear hS hSD hi hi'
  generalize check D true = E at HN hD
  go_enter Tryz.func102, Tryz.ntmps102
  go_wp2_with (first
   | (go_at_call 66; refine HM.out.mono ?_; rintro e w1 ⟨bc, gl, gc, vo, N, rfl, c1, b1⟩; have B1 := hide b1; clear c1 b1 HM)
   | (go_at_call 66; refine (HN w1 B1.out).out.mono ?_; rintro e w2 ⟨rfl, b2⟩; have B2 := hide b2; clear b2 HN))
  go_ret2
  exact ⟨rfl, B1.out.trans (B2.out.mono B1.out.size)⟩
 ·have HN := hide (make_err B a cap S true w hS hi)
  clear hSD hi hi'
  generalize check S true = E at HN hS
  go_enter Tryz.func102, Tryz.ntmps102
  go_wp2_with (go_at_call 66; refine HN.out.mono ?_; rintro e w2 ⟨rfl, b2⟩; have B2 := hide b2; clear b2 HN)
  go_ret2
  exact ⟨rfl, B2.out⟩
end Go.Proofs.YteknifnadbmfiaaGreatDoor
