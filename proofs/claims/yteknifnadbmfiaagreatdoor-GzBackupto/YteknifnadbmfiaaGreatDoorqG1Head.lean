/- gz: qG1Head. -/
import Derived.Test.YteknifnadbmfiaaGreatDoorqG0Cut
import Derived.BigQuiet
import Derived.Deep.QuietTactic
import Derived.Deep.RegionHeld3
namespace Go.Proofs.YteknifnadbmfiaaGreatDoor
set_option maxRecDepth 100000
open Go Go.RowKit

def MbAt (w : World) (bm : Nat) (m : Mb) : Prop := w.heap[bm]? = some (.cells m.cells 27 (0, 0))
def TxOk (w : World) (B br : Nat) (room : Int) (s : ByteArray) (ys : List Int) (e : Ending) (w' : World) : Prop :=
 ∃ a c, e = .returned (.tuple #[.string s, .int .i64 0]) /\ RdAt w' B br ys room a c /\ On br w w'
def TxBad (w : World) (br : Nat) (e : Ending) (w' : World) : Prop := (∃ s, e = .returned (.tuple #[.string s, .int .i64 90])) /\ On br w w'
theorem On.refl (br : Nat) (w : World) : On br w w := Kept.refl _ w
theorem On.trans {br : Nat} {w w1 w2 : World} (h : On br w w1) (k : On br w1 w2) : On br w w2 := Kept.trans h k (fun _ _ h => h)
theorem On.alloc {br : Nat} {w w' : World} (h : On br w w') (o : Obj) : On br w (w'.alloc o) := Kept.alloc _ h o
theorem On.drewN {br : Nat} {w w' : World} (h : On br w w') (q : Nat) : On br w (w'.drewN q) := Kept.drewN h q
theorem gText_true_ok {r : List Int} {s : ByteArray} {ys : List Int} (h : gText true r = .ok (s, ys)) : ∃ xs, r = xs ++ 0 :: ys /\ s = strOfNums xs /\ ∀ x ∈ xs, x ≠ 0 := by
 rcases zero_cases r with hz | ⟨a, b, rfl, hz⟩
 ·rw [gText, if_pos rfl, gLine_none hz] at h; cases h
 ·rw [gText, if_pos rfl, gLine_some hz] at h; cases h; exact ⟨a, rfl, rfl, hz⟩
theorem gText_true_bad {r : List Int} {e : Int} (h : gText true r = .error e) : e = 90 /\ ∀ x ∈ r, x ≠ 0 := by
 rcases zero_cases r with hz | ⟨a, b, rfl, hz⟩
 ·rw [gText, if_pos rfl, gLine_none hz] at h; cases h; exact ⟨rfl, hz⟩
 ·rw [gText, if_pos rfl, gLine_some hz] at h; cases h
theorem gText_false (r : List Int) : gText false r = .ok (.empty, r) := by simp [gText]
theorem gExtra_false (r : List Int) : gExtra false r = .ok (.empty, r) := by simp [gExtra]

set_option maxHeartbeats 2000000 in
theorem text_ok (w : World) (B br : Nat) (zs : List Int) (room : Int) (a : Option Addr) (cap : Nat) (h : RdAt w B br zs room a cap) {s : ByteArray} {ys : List Int} (hr : gText true zs = .ok (s, ys)) :
  Calls Tryz.prog 57 #[.pointer (some ⟨br, 0, none⟩)] w (TxOk w B br room s ys) := by
 obtain ⟨xs, rfl, rfl, hz⟩ := gText_true_ok hr
 have c0 := cells_of h.h 0
 rw [rdA_0] at c0
 obtain ⟨W, hW⟩ : ∃ W, W = w.alloc (.cells #[.int .u8 0] 5) := ⟨_, rfl⟩
 have hkW : On br w W := by rw [hW]; exact (On.refl br w).alloc _
 have hRW : RdAt W B br (xs ++ 0 :: ys) room a cap := by rw [hW]; exact h.kept (Kept.alloc _ (Kept.refl (fun _ => False) w) _) (fun _ _ e => e) (fun e => e)
 have hcW : W.cell? ⟨w.heap.size, 0, none⟩ = some (.int .u8 0) := by rw [hW, cells_of (heap_new w _) 0]; rfl
 have HC := hide (cut_yes a cap xs ys W B hRW.b w.heap.size hcW hz)
 have HP : Hid (∀ a2 c2 q, Bi W B a cap xs -> Bi W B a2 c2 ys -> TxOk w B br room (strOfNums xs) ys (.returned (.tuple #[.string (strOfNums xs), .int .i64 0])) ((W.drewN q).setCell ⟨br, 0, none⟩ (.slice a2 ys.length c2)) /\ (convert 24 9 (.slice a xs.length cap)).run Tryz.prog ((W.drewN q).setCell ⟨br, 0, none⟩ (.slice a2 ys.length c2)) = .ok (.string (strOfNums xs)) ((W.drewN q).setCell ⟨br, 0, none⟩ (.slice a2 ys.length c2)) /\ (W.drewN q).frozen? ⟨br, 0, none⟩ = false /\ ∃ v, (W.drewN q).cell? ⟨br, 0, none⟩ = some v) := fun a2 c2 q hb1 hb2 => by
  have kq : Kept (fun _ => False) W (W.drewN q) := Kept.drewN (Kept.refl _ _) q
  have hRq := hRW.kept kq (fun _ _ e => e) (fun e => e)
  obtain ⟨r1, o1⟩ := hRq.put (hb2.kept kq (fun _ _ e => e))
  refine ⟨⟨a2, c2, rfl, r1, (hkW.drewN q).trans o1⟩, ((hb1.kept kq (fun _ _ e => e)).kept o1 (fun b h1 e => by have := h.lt; omega)).conv, free_of hRq.h 0, _, (cells_of hRq.h 0).trans (rdA_0 _ _)⟩
 have HE : Hid (w.alloc (.cells #[.int .u8 0] 5) = W) := hW.symm
 clear h hr hz hkW hRW hcW hW
 generalize (xs ++ 0 :: ys).length = n at *
 go_enter Tryz.func57, Tryz.ntmps57
 go_upto_region 2 with (go_at_call 75; rw [HE.out]; refine HC.out.mono ?_; rintro e w1 ⟨⟨a2, c2, rfl, b1, b2⟩, q, rfl⟩; have HQ := hide (HP.out a2 c2 q b1 b2); clear b1 b2 HC HP)
 obtain ⟨hq1, hq2, hq3, v, hq4⟩ := HQ.out
 have HQ1 := hide hq1
 clear hq1 HQ
 generalize strOfNums xs = S at *
 generalize W.drewN q = W2 at *
 go_wp2
 go_ret2
 exact HQ1.out
set_option maxHeartbeats 2000000 in
theorem text_bad (w : World) (B br : Nat) (zs : List Int) (room : Int) (a : Option Addr) (cap : Nat) (h : RdAt w B br zs room a cap) {er : Int} (hr : gText true zs = .error er) :
  Calls Tryz.prog 57 #[.pointer (some ⟨br, 0, none⟩)] w (TxBad w br) := by
 obtain ⟨rfl, hz⟩ := gText_true_bad hr
 have c0 := cells_of h.h 0
 rw [rdA_0] at c0
 obtain ⟨W, hW⟩ : ∃ W, W = w.alloc (.cells #[.int .u8 0] 5) := ⟨_, rfl⟩
 have hkW : On br w W := by rw [hW]; exact (On.refl br w).alloc _
 have hRW : RdAt W B br zs room a cap := by rw [hW]; exact h.kept (Kept.alloc _ (Kept.refl (fun _ => False) w) _) (fun _ _ e => e) (fun e => e)
 have hcW : W.cell? ⟨w.heap.size, 0, none⟩ = some (.int .u8 0) := by rw [hW, cells_of (heap_new w _) 0]; rfl
 have HC := hide (cut_no a cap zs W B hRW.b w.heap.size hcW hz)
 have HE : Hid (w.alloc (.cells #[.int .u8 0] 5) = W) := hW.symm
 have HK := hide hkW
 clear h hr hz hkW hRW hcW hW
 go_enter Tryz.func57, Tryz.ntmps57
 go_wp2_with (go_at_call 75; rw [HE.out]; refine HC.out.mono ?_; rintro e w1 ⟨rfl, rfl⟩)
 go_ret2
 exact ⟨⟨_, rfl⟩, HK.out⟩
theorem le_take8 {zs : List Int} (h : zs.length <= 8) : F.leN ((uB zs).take 8) = le zs := by
 rw [List.take_of_length_le (by rw [uB_length]; exact h)]; rfl
theorem leB {w : World} {B : Nat} {a : Option Addr} {cap : Nat} {zs : List Int} (h : Bi w B a cap zs) (hl : zs.length <= 8) : Calls Tryz.prog 42 #[.slice a zs.length cap] w fun e w' => e = .returned (.int .u64 (le zs : Nat)) /\ w' = w := by
 have := F.le_c (.slice a zs.length cap) (uB zs) (by rw [uB_length]; omega) w h.u8
 rwa [le_take8 hl] at this
theorem sumB {w : World} {B br ot : Nat} {a : Option Addr} {cap : Nat} {zs : List Int} (h : Bi w B a cap zs) (ht : C.TabIn w br ot) : Calls Tryz.prog 22 #[.pointer (some ⟨br, ot, none⟩), .slice a zs.length cap] w fun e w' => e = .returned (.int .u32 (crc zs : Nat)) /\ w' = w :=
 C.sum_c br (.slice a zs.length cap) (nB zs) w ht h.nums (nB_lt h.mem) (by rw [nB_length]; have := h.le; have := h.max; omega)
theorem le2_lt {zs : List Int} (h : zs.length <= 2) : le zs < 65536 := Nat.lt_of_lt_of_le (le_lt zs) (by
 have : 256 ^ zs.length <= 256 ^ 2 := Nat.pow_le_pow_right (by decide) h
 omega)
theorem le4_lt {zs : List Int} (h : zs.length <= 4) : le zs < 4294967296 := Nat.lt_of_lt_of_le (le_lt zs) (by
 have : 256 ^ zs.length <= 256 ^ 4 := Nat.pow_le_pow_right (by decide) h
 omega)
theorem gExtra_true_ok {r : List Int} {s : ByteArray} {ys : List Int} (h : gExtra true r = .ok (s, ys)) : 2 <= r.length /\ le (r.take 2) <= (r.drop 2).length /\ s = strOfNums ((r.drop 2).take (le (r.take 2))) /\ ys = (r.drop 2).drop (le (r.take 2)) := by
 unfold gExtra at h
 rw [if_pos rfl] at h
 split at h
 ·cases h
 ·split at h
  ·cases h
  ·cases h; exact ⟨by omega, by simp; omega, rfl, rfl⟩
theorem gExtra_true_bad {r : List Int} {e : Int} (h : gExtra true r = .error e) : e = 90 /\ (r.length < 2 \/ (2 <= r.length /\ (r.drop 2).length < le (r.take 2))) := by
 unfold gExtra at h
 rw [if_pos rfl] at h
 split at h
 ·cases h; exact ⟨rfl, .inl (by assumption)⟩
 ·split at h
  ·cases h; exact ⟨rfl, .inr ⟨by omega, by simp; omega⟩⟩
  ·cases h
set_option maxHeartbeats 2000000 in
theorem extra_ok (w : World) (B br : Nat) (zs : List Int) (room : Int) (a : Option Addr) (cap : Nat) (h : RdAt w B br zs room a cap) {s : ByteArray} {ys : List Int} (hr : gExtra true zs = .ok (s, ys)) :
  Calls Tryz.prog 56 #[.pointer (some ⟨br, 0, none⟩)] w (TxOk w B br room s ys) := by
 obtain ⟨h2, hl, rfl, rfl⟩ := gExtra_true_ok hr
 have hn := le2_lt (zs := zs.take 2) (by simp; omega)
 have HT := hide (take_yes w B br zs room a cap h 2 h2)
 have HL : Hid (∀ w1 a1 c1, Bi w1 B a1 c1 (zs.take 2) -> Calls Tryz.prog 42 #[.slice a1 2 c1] w1 fun e w' => e = .returned (.int .u64 (le (zs.take 2) : Nat)) /\ w' = w1) := fun w1 a1 c1 hb => by
  have := leB hb (by simp; omega)
  rwa [show (zs.take 2).length = 2 by simp; omega] at this
 have HT2 : Hid (∀ w1 a2 c2, RdAt w1 B br (zs.drop 2) room a2 c2 -> Calls Tryz.prog 41 #[.pointer (some ⟨br, 0, none⟩), .int .i64 (le (zs.take 2) : Nat)] w1 (TkOk w1 B br (zs.drop 2) room (le (zs.take 2)))) := fun w1 a2 c2 hR => take_yes w1 B br _ room a2 c2 hR _ hl
 have hw : ((le (zs.take 2) : Nat) : Int) <= 65535 := by omega
 have HLN : Hid (((zs.drop 2).take (le (zs.take 2))).length = le (zs.take 2)) := by
  show _ = _
  rw [List.length_take]; omega
 clear h hr h2 hl
 generalize hN : le (zs.take 2) = N at *
 clear hN
 go_enter Tryz.func56, Tryz.ntmps56
 go_wp2_with (first
  | (go_at_call 41; refine HT.out.mono ?_; rintro e w1 ⟨a1, c1, a2, c2, rfl, b1, r1, o1⟩; have HL1 := hide (HL.out w1 a1 c1 b1); have HT3 := hide (HT2.out w1 a2 c2 r1); have O1 := hide o1; clear b1 r1 o1 HT HL HT2)
  | (go_at_call 42; refine HL1.out.mono ?_; rintro e w2 ⟨rfl, rfl⟩)
  | (go_at_call 41; refine HT3.out.mono ?_; rintro e w3 ⟨a3, c3, a4, c4, rfl, b3, r3, o3⟩; have hcv : (convert 24 9 (.slice a3 N c3)).run Tryz.prog w3 = .ok (.string (strOfNums ((zs.drop 2).take N))) w3 := (by have h5 := b3.conv; rwa [HLN.out] at h5); have O3 := hide (O1.out.trans o3); have R3 := hide r3; clear b3 r3 o3 HT3))
 go_ret2
 exact ⟨a4, c4, rfl, R3.out, O3.out⟩
theorem conv_nil0 (W : World) : (convert 24 9 (.slice none 0 0)).run Tryz.prog W = .ok (.string ⟨#[]⟩) W := (Bi.none (w := W) (cap := 0) (a := none) (B := 0) (by omega) (fun _ => rfl)).conv
set_option maxHeartbeats 2000000 in
theorem extra_bad (w : World) (B br : Nat) (zs : List Int) (room : Int) (a : Option Addr) (cap : Nat) (h : RdAt w B br zs room a cap) {er : Int} (hr : gExtra true zs = .error er) :
  Calls Tryz.prog 56 #[.pointer (some ⟨br, 0, none⟩)] w (TxBad w br) := by
 obtain ⟨rfl, h2 | ⟨h2, hl⟩⟩ := gExtra_true_bad hr
 ·have HT := hide (take_no w B br zs room a cap h 2 h2)
  clear h hr h2
  go_enter Tryz.func56, Tryz.ntmps56
  go_wp2_with (go_at_call 41; refine HT.out.mono ?_; rintro e w1 ⟨rfl, rfl⟩)
  go_ret2
  exact ⟨⟨_, rfl⟩, On.refl _ _⟩
 ·have hn := le2_lt (zs := zs.take 2) (by simp; omega)
  have HT := hide (take_yes w B br zs room a cap h 2 h2)
  have HL : Hid (∀ w1 a1 c1, Bi w1 B a1 c1 (zs.take 2) -> Calls Tryz.prog 42 #[.slice a1 2 c1] w1 fun e w' => e = .returned (.int .u64 (le (zs.take 2) : Nat)) /\ w' = w1) := fun w1 a1 c1 hb => by
   have := leB hb (by simp; omega)
   rwa [show (zs.take 2).length = 2 by simp; omega] at this
  have HT2 : Hid (∀ w1 a2 c2, RdAt w1 B br (zs.drop 2) room a2 c2 -> Calls Tryz.prog 41 #[.pointer (some ⟨br, 0, none⟩), .int .i64 (le (zs.take 2) : Nat)] w1 fun e w' => e = .returned (.tuple #[.slice none 0 0, .int .i64 90]) /\ w' = w1) := fun w1 a2 c2 hR => take_no w1 B br _ room a2 c2 hR _ hl
  have hw : ((le (zs.take 2) : Nat) : Int) <= 65535 := by omega
  clear h hr h2 hl
  generalize hN : le (zs.take 2) = N at *
  clear hN
  go_enter Tryz.func56, Tryz.ntmps56
  go_wp2_with (first
   | (go_at_call 41; refine HT.out.mono ?_; rintro e w1 ⟨a1, c1, a2, c2, rfl, b1, r1, o1⟩; have HL1 := hide (HL.out w1 a1 c1 b1); have HT3 := hide (HT2.out w1 a2 c2 r1); have O1 := hide o1; clear b1 r1 o1 HT HL HT2)
   | (go_at_call 42; refine HL1.out.mono ?_; rintro e w2 ⟨rfl, rfl⟩)
   | (go_at_call 41; refine HT3.out.mono ?_; rintro e w3 ⟨rfl, rfl⟩; have hcv := conv_nil0 w3; clear HT3))
  go_ret2
  exact ⟨⟨_, rfl⟩, O1.out⟩
def On2 (br bm : Nat) (w w' : World) : Prop := Kept (fun b => b = br \/ b = bm) w w'
theorem On2.refl (br bm : Nat) (w : World) : On2 br bm w w := Kept.refl _ w
theorem On2.trans {br bm : Nat} {w w1 w2 : World} (h : On2 br bm w w1) (k : On2 br bm w1 w2) : On2 br bm w w2 := Kept.trans h k (fun _ _ h => h)
theorem On.two {br : Nat} {w w' : World} (h : On br w w') (bm : Nat) : On2 br bm w w' := Kept.mono h (fun _ _ e => .inl e)
theorem On2.setM {br bm : Nat} {w w' : World} (h : On2 br bm w w') (i : Nat) (u : Value) : On2 br bm w (w'.setCell ⟨bm, i, none⟩ u) := Kept.setCell h (p := ⟨bm, i, none⟩) (fun _ => .inr rfl) u
structure SM (w0 W : World) (B br bm : Nat) (zs : List Int) (room : Int) (m : Mb) : Prop where
 rd : ∃ a c, RdAt W B br zs room a c
 mb : MbAt W bm m
 low : On2 br bm w0 W
 lt : B <= bm
 ne : bm ≠ br
section
variable {w0 W W1 : World} {B br bm : Nat} {zs ys : List Int} {room : Int} {m : Mb}
theorem SM.on (h : SM w0 W B br bm zs room m) (o : On br W W1) (r : ∃ a c, RdAt W1 B br ys room a c) : SM w0 W1 B br bm ys room m :=
 ⟨r, o.heap h.mb h.ne, h.low.trans (o.two bm), h.lt, h.ne⟩
theorem SM.low' (h : SM w0 W B br bm zs room m) (o : On br W W1) : On2 br bm w0 W1 := h.low.trans (o.two bm)
theorem SM.set (h : SM w0 W B br bm zs room m) (i : Nat) (u : Value) (m' : Mb) (hc : m.cells.setIfInBounds i u = m'.cells) : SM w0 (W.setCell ⟨bm, i, none⟩ u) B br bm zs room m' := by
 obtain ⟨a, c, hr⟩ := h.rd
 have k : On bm W (W.setCell ⟨bm, i, none⟩ u) := (Kept.refl (fun b => b = bm) W).setCell (p := ⟨bm, i, none⟩) (fun _ => rfl) _
 refine ⟨⟨a, c, hr.kept k (fun b hb e => by have := h.lt; omega) (fun e => h.ne e.symm)⟩, ?_, h.low.setM i u, h.lt, h.ne⟩
 unfold MbAt
 rw [set_of h.mb, hc]
theorem SM.cell (h : SM w0 W B br bm zs room m) (i : Nat) : W.cell? ⟨bm, i, none⟩ = m.cells[i]? := cells_of h.mb i
theorem SM.free (h : SM w0 W B br bm zs room m) (i : Nat) : W.frozen? ⟨bm, i, none⟩ = false := free_of h.mb i
end
def mbC (x t : ByteArray) (c : ByteArray) (tm : Nat) (b : Bool) : Mb := ⟨x, t, c, tm, b, .empty⟩
theorem fl_and4 : ∀ F : Fin 32, bits .and .u8 ((F.val : Nat) : Int) 4 = if gB F.val 4 = true then 4 else 0 := by decide +kernel
theorem fl_and8 : ∀ F : Fin 32, bits .and .u8 ((F.val : Nat) : Int) 8 = if gB F.val 8 = true then 8 else 0 := by decide +kernel
theorem fl_and16 : ∀ F : Fin 32, bits .and .u8 ((F.val : Nat) : Int) 16 = if gB F.val 16 = true then 16 else 0 := by decide +kernel
theorem fl_and2 : ∀ F : Fin 32, bits .and .u8 ((F.val : Nat) : Int) 2 = if gB F.val 2 = true then 2 else 0 := by decide +kernel
theorem fl_and1 : ∀ F : Fin 32, bits .and .u8 ((F.val : Nat) : Int) 1 = if gB F.val 1 = true then 1 else 0 := by decide +kernel
def StGo (w0 : World) (B br bm : Nat) (room : Int) (m : Mb) (ys : List Int) (e : Ending) (w' : World) : Prop := e = .returned (.int .i64 0) /\ SM w0 w' B br bm ys room m
def StBad (w0 : World) (br bm : Nat) (er : Int) (e : Ending) (w' : World) : Prop := e = .returned (.int .i64 er) /\ On2 br bm w0 w'
theorem sm_extra_ok {w0 : World} {B br bm : Nat} {zs ys : List Int} {room : Int} {m : Mb} {s : ByteArray} (hr : gExtra true zs = .ok (s, ys)) (W : World) (h : SM w0 W B br bm zs room m) :
  Calls Tryz.prog 56 #[.pointer (some ⟨br, 0, none⟩)] W fun e W1 => e = .returned (.tuple #[.string s, .int .i64 0]) /\ SM w0 W1 B br bm ys room m := by
 obtain ⟨a, c, r⟩ := h.rd
 refine (extra_ok W B br zs room a c r hr).mono ?_
 rintro e W1 ⟨a1, c1, rfl, r1, o1⟩
 exact ⟨rfl, h.on o1 ⟨a1, c1, r1⟩⟩
theorem sm_text_ok {w0 : World} {B br bm : Nat} {zs ys : List Int} {room : Int} {m : Mb} {s : ByteArray} (hr : gText true zs = .ok (s, ys)) (W : World) (h : SM w0 W B br bm zs room m) :
  Calls Tryz.prog 57 #[.pointer (some ⟨br, 0, none⟩)] W fun e W1 => e = .returned (.tuple #[.string s, .int .i64 0]) /\ SM w0 W1 B br bm ys room m := by
 obtain ⟨a, c, r⟩ := h.rd
 refine (text_ok W B br zs room a c r hr).mono ?_
 rintro e W1 ⟨a1, c1, rfl, r1, o1⟩
 exact ⟨rfl, h.on o1 ⟨a1, c1, r1⟩⟩
def SxBad (w0 : World) (B br bm : Nat) (m : Mb) (e : Ending) (W1 : World) : Prop := (∃ s, e = .returned (.tuple #[.string s, .int .i64 90])) /\ On2 br bm w0 W1 /\ MbAt W1 bm m /\ B <= bm
theorem sm_extra_bad {w0 : World} {B br bm : Nat} {zs : List Int} {room : Int} {m : Mb} {er : Int} (hr : gExtra true zs = .error er) (W : World) (h : SM w0 W B br bm zs room m) :
  Calls Tryz.prog 56 #[.pointer (some ⟨br, 0, none⟩)] W (SxBad w0 B br bm m) := by
 obtain ⟨a, c, r⟩ := h.rd
 refine (extra_bad W B br zs room a c r hr).mono ?_
 rintro e W1 ⟨hs, o1⟩
 exact ⟨hs, h.low' o1, o1.heap h.mb h.ne, h.lt⟩
theorem sm_text_bad {w0 : World} {B br bm : Nat} {zs : List Int} {room : Int} {m : Mb} {er : Int} (hr : gText true zs = .error er) (W : World) (h : SM w0 W B br bm zs room m) :
  Calls Tryz.prog 57 #[.pointer (some ⟨br, 0, none⟩)] W (SxBad w0 B br bm m) := by
 obtain ⟨a, c, r⟩ := h.rd
 refine (text_bad W B br zs room a c r hr).mono ?_
 rintro e W1 ⟨hs, o1⟩
 exact ⟨hs, h.low' o1, o1.heap h.mb h.ne, h.lt⟩
end Go.Proofs.YteknifnadbmfiaaGreatDoor
