/- gz: qG3Hd. -/
import Derived.Test.YteknifnadbmfiaaGreatDoorqG2Texts
import Derived.Lib.Bytes
namespace Go.Proofs.YteknifnadbmfiaaGreatDoor
set_option maxRecDepth 100000
open Go Go.RowKit

theorem mark_yes {r : List Int} (h : gMark r) (hl : 10 <= r.length) : (strOfNums ((r.take 10).take 3)).toList = [31, 139, 8] := by
 rw [Lib.strOfNums_toList]
 obtain ⟨h0, h1, h2, _⟩ := h
 match r, hl with
 | x :: y :: z :: r, _ =>
  simp only [List.getD_cons_zero, List.getD_cons_succ] at h0 h1 h2
  subst h0 h1 h2
  rfl
theorem of_byte {x : Int} {n : Nat} (h : 0 <= x /\ x <= 255) (hn : n < 256) (e : UInt8.ofNat x.toNat = UInt8.ofNat n) : x = n := by
 have := congrArg UInt8.toNat e
 rw [UInt8.toNat_ofNat', UInt8.toNat_ofNat'] at this
 omega
theorem mark_no {r : List Int} (hb : ∀ x ∈ r, 0 <= x /\ x <= 255) (hl : 10 <= r.length) (h : (strOfNums ((r.take 10).take 3)).toList = [31, 139, 8]) : r.getD 0 0 = 31 /\ r.getD 1 0 = 139 /\ r.getD 2 0 = 8 := by
 rw [Lib.strOfNums_toList] at h
 match r, hl with
 | x :: y :: z :: r, _ =>
  simp only [Lib.bytesOf, List.take_succ_cons, List.take_zero, List.map_cons, List.map_nil, List.cons.injEq, and_true] at h
  obtain ⟨e1, e2, e3⟩ := h
  exact ⟨of_byte (hb x (by simp)) (by decide) e1, of_byte (hb y (by simp)) (by decide) e2, of_byte (hb z (by simp)) (by decide) e3⟩
def FsOk (w0 : World) (B br bm : Nat) (room : Int) (f : Nat) (m : Mb) (ys : List Int) (e : Ending) (w' : World) : Prop := e = .returned (.tuple #[.int .u8 (f : Int), .int .i64 0]) /\ SM w0 w' B br bm ys room m
def FsBad (w0 : World) (br bm : Nat) (er : Int) (e : Ending) (w' : World) : Prop := e = .returned (.tuple #[.int .u8 0, .int .i64 er]) /\ On2 br bm w0 w'
set_option maxHeartbeats 4000000 in
theorem first_short {w : World} {B br bm : Nat} {zs : List Int} {room : Int} {m : Mb} (h : SM w w B br bm zs room m) (hl : zs.length < 10) :
  Calls Tryz.prog 37 #[.pointer (some ⟨br, 0, none⟩), .pointer (some ⟨bm, 0, none⟩)] w (FsBad w br bm 90) := by
 obtain ⟨a, c, hr⟩ := h.rd
 have HT := hide (take_no w B br zs room a c hr 10 hl)
 have HL := hide h.low
 clear h hr
 go_enter Tryz.func37, Tryz.ntmps37
 go_wp2_with (go_at_call 41; refine HT.out.mono ?_; rintro e w1 ⟨rfl, rfl⟩)
 go_ret2
 exact ⟨rfl, HL.out⟩
structure F10 (w1 : World) (B : Nat) (zs : List Int) (b off c1 : Nat) (S : ByteArray) (X : Int) : Prop where
 lo : 10 <= c1
 c3 : w1.cell? ⟨b, off + 3, none⟩ = some (.int .u8 X)
 cv : (convert 24 9 (.slice (some ⟨b, off, none⟩) 3 c1)).run Tryz.prog w1 = .ok (.string S) w1
 le4 : Bi w1 B (some ⟨b, off + 4, none⟩) (c1 - 4) ((zs.drop 4).take 4)
theorem f10 {w1 : World} {B : Nat} {zs : List Int} {a1 : Option Addr} {c1 : Nat} (h : Bi w1 B a1 c1 (zs.take 10)) (hl : 10 <= zs.length) : ∃ b off, a1 = some ⟨b, off, none⟩ /\ F10 w1 B zs b off c1 (strOfNums ((zs.take 10).take 3)) (zs.getD 3 0) := by
 have hle := h.le
 rw [List.length_take] at hle
 rcases h.t.2.2 with h0 | ⟨b, off, hb, rfl, hc⟩
 ·rw [List.length_take] at h0; omega
 ·refine ⟨b, off, rfl, by omega, ?_, ?_, ?_⟩
  ·have := hc 3 (by rw [List.length_take]; omega)
   rwa [getD_take (by omega)] at this
  ·have := (h.take 3).conv
   rwa [show ((zs.take 10).take 3).length = 3 by simp; omega] at this
  ·have := (h.drop (n := 4) (by rw [List.length_take]; omega)).take 4
   rw [add_at] at this
   rwa [List.drop_take, List.take_take, show min 4 (10 - 4) = 4 by decide] at this
set_option maxHeartbeats 4000000 in
theorem first_form {w : World} {B br bm : Nat} {zs : List Int} {room : Int} {m : Mb} (h : SM w w B br bm zs room m) (hl : 10 <= zs.length) (hm : ¬ gMark zs) :
  Calls Tryz.prog 37 #[.pointer (some ⟨br, 0, none⟩), .pointer (some ⟨bm, 0, none⟩)] w (FsBad w br bm 91) := by
 obtain ⟨a, c, hr⟩ := h.rd
 have HT := hide (take_yes w B br zs room a c hr 10 hl)
 have HF : Hid (∀ w1 a1 c1, On br w w1 -> Bi w1 B a1 c1 (zs.take 10) -> On2 br bm w w1 /\ ∃ b off, a1 = some ⟨b, off, none⟩ /\ F10 w1 B zs b off c1 (strOfNums ((zs.take 10).take 3)) (zs.getD 3 0)) := fun w1 a1 c1 o hb => ⟨h.low' o, f10 hb hl⟩
 have hx := hr.b.t.2.1 3
 have hmk : ¬ (strOfNums ((zs.take 10).take 3)).toList = [31, 139, 8] \/ ((strOfNums ((zs.take 10).take 3)).toList = [31, 139, 8] /\ 32 <= zs.getD 3 0) := by
  by_cases e : (strOfNums ((zs.take 10).take 3)).toList = [31, 139, 8]
  ·right
   refine ⟨e, ?_⟩
   have := mark_no hr.b.mem hl e
   by_cases h32 : zs.getD 3 0 < 32
   ·exact absurd ⟨this.1, this.2.1, this.2.2, h32⟩ hm
   ·omega
  ·exact .inl e
 clear h hr hm
 generalize strOfNums ((zs.take 10).take 3) = S at *
 generalize zs.getD 3 0 = X at *
 rcases hmk with hS | ⟨hS, h32⟩
 ·have hS' : (S.toList == [31, 139, 8]) = false := by rw [beq_eq_false_iff_ne]; exact hS
  go_enter Tryz.func37, Tryz.ntmps37
  go_upto_region 4 with (go_at_call 41; refine HT.out.mono ?_; rintro e w1 ⟨a1, c1, a2, c2, rfl, b1, r1, o1⟩; have HF1 := hide (HF.out w1 a1 c1 o1 b1); clear b1 r1 o1 HT HF)
  obtain ⟨hlow, b, off, rfl, hf⟩ := HF1.out
  obtain ⟨flo, fc3, fcv, -⟩ := hf
  have HLW := hide hlow
  clear hlow HF1
  go_wp2
  go_ret2
  exact ⟨rfl, HLW.out⟩
 ·have hS' : (S.toList == [31, 139, 8]) = true := by rw [beq_iff_eq]; exact hS
  have h32' : ¬ X < 32 := by omega
  go_enter Tryz.func37, Tryz.ntmps37
  go_upto_region 4 with (go_at_call 41; refine HT.out.mono ?_; rintro e w1 ⟨a1, c1, a2, c2, rfl, b1, r1, o1⟩; have HF1 := hide (HF.out w1 a1 c1 o1 b1); clear b1 r1 o1 HT HF)
  obtain ⟨hlow, b, off, rfl, hf⟩ := HF1.out
  obtain ⟨flo, fc3, fcv, -⟩ := hf
  have HLW := hide hlow
  clear hlow HF1
  go_wp2
  go_ret2
  exact ⟨rfl, HLW.out⟩
set_option maxHeartbeats 4000000 in
theorem first_ok {w : World} {B br bm : Nat} {zs : List Int} {room : Int} (h : SM w w B br bm zs room mb0) (hl : 10 <= zs.length) (hm : gMark zs) :
  Calls Tryz.prog 37 #[.pointer (some ⟨br, 0, none⟩), .pointer (some ⟨bm, 0, none⟩)] w (FsOk w B br bm room (gFl zs) ⟨.empty, .empty, .empty, gTime zs, gB (gFl zs) 1, .empty⟩ (zs.drop 10)) := by
 obtain ⟨a, c, hr⟩ := h.rd
 have HT := hide (take_yes w B br zs room a c hr 10 hl)
 have HF : Hid (∀ w1 a1 c1, On br w w1 -> Bi w1 B a1 c1 (zs.take 10) -> ∃ b off, a1 = some ⟨b, off, none⟩ /\ F10 w1 B zs b off c1 (strOfNums ((zs.take 10).take 3)) (zs.getD 3 0)) := fun w1 a1 c1 o hb => f10 hb hl
 have HS : Hid (∀ w1, On br w w1 -> (∃ a c, RdAt w1 B br (zs.drop 10) room a c) -> SM w w1 B br bm (zs.drop 10) room mb0) := fun w1 o r => h.on o r
 have hx := hr.b.t.2.1 3
 have hS := mark_yes hm hl
 have hx32 := hm.2.2.2
 have ht4 : gTime zs < 4294967296 := le4_lt (by simp; omega)
 have hlen4 : ((zs.drop 4).take 4).length = 4 := by simp; omega
 have HL : Hid (∀ w1 a1 c1, Bi w1 B a1 c1 ((zs.drop 4).take 4) -> Calls Tryz.prog 42 #[.slice a1 4 c1] w1 fun e w' => e = .returned (.int .u64 (gTime zs : Nat)) /\ w' = w1) := fun w1 a1 c1 hb => by
  have := leB hb (by omega)
  rwa [hlen4] at this
 obtain ⟨f, hf⟩ : ∃ f : Nat, zs.getD 3 0 = (f : Int) := ⟨(zs.getD 3 0).toNat, by omega⟩
 have hfl : gFl zs = f := by unfold gFl; omega
 rw [hfl]
 rw [hf] at HF hx32
 have hf32 : f < 32 := by omega
 have a1 := fl_and1 ⟨f, hf32⟩
 simp only at a1
 have ht4' : ((gTime zs : Nat) : Int) % 4294967296 = (gTime zs : Nat) := by omega
 clear h hr hm hx hf hfl hlen4
 generalize strOfNums ((zs.take 10).take 3) = S at *
 generalize gTime zs = T at *
 have hS' : (S.toList == [31, 139, 8]) = true := by rw [beq_iff_eq]; exact hS
 go_enter Tryz.func37, Tryz.ntmps37
 go_upto_region 4 with (go_at_call 41; refine HT.out.mono ?_; rintro e w1 ⟨a1', c1, a2, c2, rfl, b1, r1, o1⟩; have HF1 := hide (HF.out w1 a1' c1 o1 b1); have HS1 := hide (HS.out w1 o1 ⟨a2, c2, r1⟩); clear b1 r1 o1 HT HF HS)
 obtain ⟨b, off, rfl, hf⟩ := HF1.out
 obtain ⟨flo, fc3, fcv, fle⟩ := hf
 have c4 := HS1.out.cell 4
 have g4 := HS1.out.free 4
 have d3 := (HS1.out.set 4 (.bool (gB f 1)) ⟨.empty, .empty, .empty, 0, gB f 1, .empty⟩ rfl).cell 3
 have e3 := (HS1.out.set 4 (.bool (gB f 1)) ⟨.empty, .empty, .empty, 0, gB f 1, .empty⟩ rfl).free 3
 simp only [Mb.cells, mb0] at c4 d3
 have HS2 := hide ((HS1.out.set 4 (.bool (gB f 1)) ⟨.empty, .empty, .empty, 0, gB f 1, .empty⟩ rfl).set 3 (.int .u32 (T : Int)) ⟨.empty, .empty, .empty, T, gB f 1, .empty⟩ rfl)
 have HLE := hide (HL.out (w1.setCell ⟨bm, 4, none⟩ (.bool (gB f 1))) _ _ (fle.below ((Below.refl B w1).setCell (p := ⟨bm, 4, none⟩) HS1.out.lt _)))
 have hne : ¬ c1 = 4 := by omega
 clear fle HF1 HL HS1
 cases hB : gB f 1
 all_goals
  rw [hB] at a1 HS2 HLE d3 e3
  simp only [Bool.false_eq_true, if_false, if_true] at a1
  go_wp2_with (go_at_call 42; refine HLE.out.mono ?_; rintro e w2 ⟨rfl, rfl⟩)
  go_ret2
  exact ⟨rfl, by rw [hB]; exact HS2.out⟩
end Go.Proofs.YteknifnadbmfiaaGreatDoor

namespace Go.Proofs.YteknifnadbmfiaaGreatDoor
set_option maxRecDepth 100000
open Go Go.RowKit

theorem wrap16 (n : Int) : IntKind.u16.wrap n = n % 65536 := by simp [IntKind.wrap, IntKind.signed, IntKind.bits]
theorem SM.drewN {w0 W : World} {B br bm : Nat} {zs : List Int} {room : Int} {m : Mb} (h : SM w0 W B br bm zs room m) (q : Nat) : SM w0 (W.drewN q) B br bm zs room m := by
 obtain ⟨a, c, r⟩ := h.rd
 exact h.on ((On.refl br W).drewN q) ⟨a, c, r.kept (Kept.drewN (Kept.refl (fun _ => False) W) q) (fun _ _ e => e) (fun e => e)⟩
theorem SM.start {w0 W : World} {B br bm : Nat} {zs : List Int} {room : Int} {m : Mb} (h : SM w0 W B br bm zs room m) : SM W W B br bm zs room m := ⟨h.rd, h.mb, On2.refl _ _ _, h.lt, h.ne⟩
theorem gTexts_err {f : Nat} {r : List Int} {e : Int} (h : gTexts f r = .error e) : e = 90 := by
 have hx : ∀ {on : Bool} {r : List Int} {e : Int}, gExtra on r = .error e -> e = 90 := fun {on r e} h => by
  cases on
  ·rw [gExtra_false] at h; cases h
  ·exact (gExtra_true_bad h).1
 have ht : ∀ {on : Bool} {r : List Int} {e : Int}, gText on r = .error e -> e = 90 := fun {on r e} h => by
  cases on
  ·rw [gText_false] at h; cases h
  ·exact (gText_true_bad h).1
 unfold gTexts at h
 split at h
 ·next e1 => cases h; exact hx e1
 ·split at h
  ·next e1 => cases h; exact ht e1
  ·split at h
   ·next e1 => cases h; exact ht e1
   ·cases h
set_option maxHeartbeats 4000000 in
theorem hsum_short {w : World} {B br bm : Nat} {zs : List Int} {room : Int} {m : Mb} {w0 : World} (h : SM w0 w B br bm zs room m) (a0 : Option Addr) (n0 c0 : Nat) (hl : zs.length < 2) :
  Calls Tryz.prog 39 #[.pointer (some ⟨br, 0, none⟩), .slice a0 n0 c0] w (StBad w0 br bm 90) := by
 obtain ⟨a, c, hr⟩ := h.rd
 have HT := hide (take_no w B br zs room a c hr 2 hl)
 have HL := hide h.low
 clear h hr
 go_enter Tryz.func39, Tryz.ntmps39
 go_wp2_with (go_at_call 41; refine HT.out.mono ?_; rintro e w1 ⟨rfl, rfl⟩)
 go_ret
 exact ⟨rfl, HL.out⟩
set_option maxHeartbeats 4000000 in
theorem hsum_c {w : World} {B br bm : Nat} {zs Y : List Int} {room : Int} {m : Mb} {w0 : World} (h : SM w0 w B br bm zs room m) {a0 : Option Addr} {c0 : Nat} (hY : Bi w B a0 c0 Y) (hl : 2 <= zs.length) :
  Calls Tryz.prog 39 #[.pointer (some ⟨br, 0, none⟩), .slice a0 Y.length c0] w fun e w' => (le (zs.take 2) = crc Y % 65536 -> StGo w0 B br bm room m (zs.drop 2) e w') /\ (¬ le (zs.take 2) = crc Y % 65536 -> StBad w0 br bm 92 e w') := by
 obtain ⟨a, c, hr⟩ := h.rd
 have HT := hide (take_yes w B br zs room a c hr 2 hl)
 have hn := le2_lt (zs := zs.take 2) (by simp; omega)
 have hc := crc_lt Y
 have HQ : Hid (∀ w1 a1 c1 a2 c2, On br w w1 -> Bi w1 B a1 c1 (zs.take 2) -> RdAt w1 B br (zs.drop 2) room a2 c2 -> SM w0 w1 B br bm (zs.drop 2) room m /\ (∀ q, Calls Tryz.prog 42 #[.slice a1 2 c1] (w1.drewN q) fun e w' => e = .returned (.int .u64 (le (zs.take 2) : Nat)) /\ w' = w1.drewN q) /\ ∀ q, Calls Tryz.prog 22 #[.pointer (some ⟨br, 2, none⟩), .slice a0 Y.length c0] (w1.drewN q) fun e w' => e = .returned (.int .u32 (crc Y : Nat)) /\ w' = w1.drewN q) := fun w1 a1 c1 a2 c2 o b1 r1 => by
  have kq : ∀ q, Kept (fun _ => False) w1 (w1.drewN q) := fun q => Kept.drewN (Kept.refl _ _) q
  refine ⟨h.on o ⟨a2, c2, r1⟩, fun q => ?_, fun q => ?_⟩
  ·have := leB (b1.kept (kq q) (fun _ _ e => e)) (by simp; omega)
   rwa [show (zs.take 2).length = 2 by simp; omega] at this
  ·exact sumB ((hY.kept o (fun b hb e => by have := hr.lt; omega)).kept (kq q) (fun _ _ e => e)) (r1.kept (kq q) (fun _ _ e => e) (fun e => e)).tab
 have e1 : IntKind.u16.wrap ((le (zs.take 2) : Nat) : Int) = (le (zs.take 2) : Nat) := by rw [wrap16]; omega
 have e2 : IntKind.u16.wrap ((crc Y : Nat) : Int) = ((crc Y % 65536 : Nat) : Int) := by rw [wrap16]; omega
 clear h hr hY
 generalize le (zs.take 2) = N at *
 generalize crc Y = K at *
 generalize hK6 : K % 65536 = K6 at *
 clear hK6
 by_cases hNK : N = K6
 all_goals
  go_enter Tryz.func39, Tryz.ntmps39
  go_upto_region 4 with (go_at_call 41; refine HT.out.mono ?_; rintro e w1 ⟨a1, c1, a2, c2, rfl, b1, r1, o1⟩; have HQ1 := hide (HQ.out w1 a1 c1 a2 c2 o1 b1 r1); clear b1 r1 o1 HT HQ)
  obtain ⟨hs1, hle, hsu⟩ := HQ1.out
  have HS1 := hide hs1
  have HLE := hide hle
  have HSU := hide hsu
  clear hs1 hle hsu HQ1
  go_quiet (first | (go_at_call 42; with_reducible exact Calls.quiet_of_same (HLE.out _)) | (go_at_call 22; with_reducible exact Calls.quiet_of_same (HSU.out _)))
  all_goals go_wp2
  all_goals go_ret
  all_goals first
   | exact ⟨fun _ => ⟨rfl, HS1.out.drewN _⟩, fun h => absurd hNK h⟩
   | exact ⟨fun h => absurd h hNK, fun _ => ⟨rfl, (HS1.out.drewN _).low⟩⟩
theorem gHead_1 {r : List Int} {e : Int} (h : gFirst r = .error e) : gHead r = .error e := by simp [gHead, h]
theorem gHead_2 {r r1 : List Int} {e : Int} (h : gFirst r = .ok r1) (h2 : gTexts (gFl r) r1 = .error e) : gHead r = .error e := by simp [gHead, h, h2]
theorem gHead_3 {r r1 r2 : List Int} {e : Int} {n c x : ByteArray} (h : gFirst r = .ok r1) (h2 : gTexts (gFl r) r1 = .ok (n, c, x, r2)) (h3 : gSum (gB (gFl r) 2) r r2 = .error e) : gHead r = .error e := by simp [gHead, h, h2, h3]
theorem gHead_4 {r r1 r2 r3 : List Int} {n c x : ByteArray} (h : gFirst r = .ok r1) (h2 : gTexts (gFl r) r1 = .ok (n, c, x, r2)) (h3 : gSum (gB (gFl r) 2) r r2 = .ok r3) : gHead r = .ok (⟨n, c, x, gTime r, gB (gFl r) 1, .empty⟩, r3) := by simp [gHead, h, h2, h3]
def HdOk (w : World) (B br bm : Nat) (room : Int) (r : Except Int (Mb × List Int)) (e : Ending) (w' : World) : Prop :=
 (∃ m ys, r = .ok (m, ys) /\ StGo w B br bm room m ys e w') \/ (∃ er, r = .error er /\ 90 <= er /\ er <= 93 /\ StBad w br bm er e w')
section
variable {w : World} {B br bm : Nat} {zs : List Int} {room : Int}
set_option maxHeartbeats 4000000 in
theorem head_first {er : Int} (h0 : er ≠ 0) (HF : Hid (Calls Tryz.prog 37 #[.pointer (some ⟨br, 0, none⟩), .pointer (some ⟨bm, 0, none⟩)] w (FsBad w br bm er))) (h : SM w w B br bm zs room mb0) :
  Calls Tryz.prog 24 #[.pointer (some ⟨br, 0, none⟩), .pointer (some ⟨bm, 0, none⟩)] w (StBad w br bm er) := by
 obtain ⟨a, c, hr⟩ := h.rd
 have c0 := cells_of hr.h 0
 rw [rdA_0] at c0
 clear h hr
 go_enter Tryz.func24, Tryz.ntmps24
 go_wp2_with (go_at_call 37; refine HF.out.mono ?_; rintro e w1 ⟨rfl, l1⟩; have L1 := hide l1; clear l1 HF)
 go_ret
 exact ⟨rfl, L1.out⟩
set_option maxHeartbeats 4000000 in
theorem head_texts {f t : Nat} {x : Bool} {z1 : List Int} (HF : Hid (Calls Tryz.prog 37 #[.pointer (some ⟨br, 0, none⟩), .pointer (some ⟨bm, 0, none⟩)] w (FsOk w B br bm room f ⟨.empty, .empty, .empty, t, x, .empty⟩ z1))) (hf : f < 32) (h : SM w w B br bm zs room mb0) (ht : gTexts f z1 = .error 90) :
  Calls Tryz.prog 24 #[.pointer (some ⟨br, 0, none⟩), .pointer (some ⟨bm, 0, none⟩)] w (StBad w br bm 90) := by
 obtain ⟨a, c, hr⟩ := h.rd
 have c0 := cells_of hr.h 0
 rw [rdA_0] at c0
 have HT : Hid (∀ w1, SM w w1 B br bm z1 room ⟨.empty, .empty, .empty, t, x, .empty⟩ -> Calls Tryz.prog 38 #[.pointer (some ⟨br, 0, none⟩), .pointer (some ⟨bm, 0, none⟩), .int .u8 (f : Int)] w1 (StBad w br bm 90)) := fun w1 s1 => by
  refine (texts_c (w := w1) s1.start hf).mono ?_
  rw [ht]
  rintro e w2 (⟨_, _, _, _, e1, _⟩ | ⟨_, rfl, l⟩)
  ·cases e1
  ·exact ⟨rfl, s1.low.trans l⟩
 clear h hr ht
 have hfi : (f : Int) < 32 := by omega
 go_enter Tryz.func24, Tryz.ntmps24
 go_wp2_with (first
  | (go_at_call 37; refine HF.out.mono ?_; rintro e w1 ⟨rfl, s1⟩; have HT1 := hide (HT.out w1 s1); clear s1 HF HT)
  | (go_at_call 38; refine HT1.out.mono ?_; rintro e w2 ⟨rfl, l2⟩; have L2 := hide l2; clear l2 HT1))
 go_ret
 exact ⟨rfl, L2.out⟩
theorem texts_go {f t : Nat} {x : Bool} {z1 ys : List Int} {n c xx : ByteArray} (hf : f < 32) (ht : gTexts f z1 = .ok (n, c, xx, ys)) (w1 : World) (s1 : SM w w1 B br bm z1 room ⟨.empty, .empty, .empty, t, x, .empty⟩) :
  Calls Tryz.prog 38 #[.pointer (some ⟨br, 0, none⟩), .pointer (some ⟨bm, 0, none⟩), .int .u8 (f : Int)] w1 (StGo w B br bm room ⟨n, c, xx, t, x, .empty⟩ ys) := by
 refine (texts_c (w := w1) s1.start hf).mono ?_
 rw [ht]
 rintro e w2 (⟨_, _, _, _, e1, rfl, s2⟩ | ⟨e1, _⟩)
 ·cases e1; exact ⟨rfl, ⟨s2.rd, s2.mb, s1.low.trans s2.low, s2.lt, s2.ne⟩⟩
 ·cases e1
set_option maxHeartbeats 4000000 in
theorem head_plain {f t : Nat} {x : Bool} {z1 ys : List Int} {n c xx : ByteArray} (HF : Hid (Calls Tryz.prog 37 #[.pointer (some ⟨br, 0, none⟩), .pointer (some ⟨bm, 0, none⟩)] w (FsOk w B br bm room f ⟨.empty, .empty, .empty, t, x, .empty⟩ z1))) (hf : f < 32) (h : SM w w B br bm zs room mb0) (ht : gTexts f z1 = .ok (n, c, xx, ys)) (h2 : gB f 2 = false) :
  Calls Tryz.prog 24 #[.pointer (some ⟨br, 0, none⟩), .pointer (some ⟨bm, 0, none⟩)] w (StGo w B br bm room ⟨n, c, xx, t, x, .empty⟩ ys) := by
 obtain ⟨a, cc, hr⟩ := h.rd
 have c0 := cells_of hr.h 0
 rw [rdA_0] at c0
 have HT := hide (texts_go (w := w) (B := B) (br := br) (bm := bm) (room := room) (t := t) (x := x) hf ht)
 have a2 := fl_and2 ⟨f, hf⟩
 simp only [h2, Bool.false_eq_true, if_false] at a2
 clear h hr ht h2
 have hfi : (f : Int) < 32 := by omega
 go_enter Tryz.func24, Tryz.ntmps24
 go_wp2_with (first
  | (go_at_call 37; refine HF.out.mono ?_; rintro e w1 ⟨rfl, s1⟩; have HT1 := hide (HT.out w1 s1); clear s1 HF HT)
  | (go_at_call 38; refine HT1.out.mono ?_; rintro e w2 ⟨rfl, s2⟩; have S2 := hide s2; clear s2 HT1))
 go_ret
 exact ⟨rfl, S2.out⟩
set_option maxHeartbeats 4000000 in
theorem head_sum {f t : Nat} {x : Bool} {z1 ys : List Int} {n c xx : ByteArray} (HF : Hid (Calls Tryz.prog 37 #[.pointer (some ⟨br, 0, none⟩), .pointer (some ⟨bm, 0, none⟩)] w (FsOk w B br bm room f ⟨.empty, .empty, .empty, t, x, .empty⟩ z1))) (hf : f < 32) (h : SM w w B br bm zs room mb0) (ht : gTexts f z1 = .ok (n, c, xx, ys)) (h2 : gB f 2 = true) (hys : ys.length <= zs.length)
  {Q : Ending -> World -> Prop} (hQ : ∀ w2 a0 c0, SM w w2 B br bm ys room ⟨n, c, xx, t, x, .empty⟩ -> Bi w2 B a0 c0 (zs.take (zs.length - ys.length)) -> Calls Tryz.prog 39 #[.pointer (some ⟨br, 0, none⟩), .slice a0 (zs.length - ys.length) c0] w2 fun e w' => Q e w' /\ ∃ v : Int, e = .returned (.int .i64 v)) :
  Calls Tryz.prog 24 #[.pointer (some ⟨br, 0, none⟩), .pointer (some ⟨bm, 0, none⟩)] w Q := by
 obtain ⟨a, cc, hr⟩ := h.rd
 have c0 := cells_of hr.h 0
 rw [rdA_0] at c0
 have hle := hr.b.le
 have hmx := hr.b.max
 have HT := hide (texts_go (w := w) (B := B) (br := br) (bm := bm) (room := room) (t := t) (x := x) hf ht)
 have a2 := fl_and2 ⟨f, hf⟩
 simp only [h2, if_true] at a2
 have HQ : Hid (∀ w2, SM w w2 B br bm ys room ⟨n, c, xx, t, x, .empty⟩ -> (∃ a2 c2, w2.cell? ⟨br, 0, none⟩ = some (.slice a2 ys.length c2)) /\ Calls Tryz.prog 39 #[.pointer (some ⟨br, 0, none⟩), .slice a (zs.length - ys.length) cc] w2 fun e w' => Q e w' /\ ∃ v : Int, e = .returned (.int .i64 v)) := fun w2 s2 => by
  obtain ⟨a2, c2, r2⟩ := s2.rd
  exact ⟨⟨a2, c2, (cells_of r2.h 0).trans (rdA_0 _ _)⟩, hQ w2 a cc s2 ((hr.b.kept s2.low (fun b hb e => by have := hr.lt; have := s2.lt; omega)).take _)⟩
 clear h hr ht h2 hQ
 have hfi : (f : Int) < 32 := by omega
 have hsub : ((zs.length : Int) - (ys.length : Int)) = ((zs.length - ys.length : Nat) : Int) := by omega
 have hnn : ys.length <= zs.length := hys
 generalize zs.length = NZ at *
 generalize ys.length = NY at *
 generalize hND : NZ - NY = ND at *
 have hnd : ND <= cc := by omega
 clear hND
 go_enter Tryz.func24, Tryz.ntmps24
 go_upto_region 10 with (first
  | (go_at_call 37; refine HF.out.mono ?_; rintro e w1 ⟨rfl, s1⟩; have HT1 := hide (HT.out w1 s1); clear s1 HF HT)
  | (go_at_call 38; refine HT1.out.mono ?_; rintro e w2 ⟨rfl, s2⟩; have S2 := hide (HQ.out w2 s2); clear s2 HT1 HQ))
 obtain ⟨⟨a2', c2', hc2⟩, hcall⟩ := S2.out
 have HC := hide hcall
 clear hcall S2
 go_wp2_with (go_at_call 39; refine HC.out.mono ?_; rintro e w3 ⟨q3, v, rfl⟩; have Q3 := hide q3; clear q3 HC)
 exact Q3.out
theorem head_c (h : SM w w B br bm zs room mb0) : Calls Tryz.prog 24 #[.pointer (some ⟨br, 0, none⟩), .pointer (some ⟨bm, 0, none⟩)] w (HdOk w B br bm room (gHead zs)) := by
 by_cases hl : zs.length < 10
 ·have e1 : gFirst zs = .error 90 := by simp [gFirst, hl]
  exact (head_first (by decide) (hide (first_short h hl)) h).mono fun e w1 h1 => .inr ⟨90, gHead_1 e1, by decide, by decide, h1⟩
 by_cases hm : ¬ gMark zs
 ·have e1 : gFirst zs = .error 91 := by simp [gFirst, hl, hm]
  exact (head_first (by decide) (hide (first_form h (by omega) hm)) h).mono fun e w1 h1 => .inr ⟨91, gHead_1 e1, by decide, by decide, h1⟩
 replace hm := Classical.not_not.1 hm
 have e1 : gFirst zs = .ok (zs.drop 10) := by simp [gFirst, hl, hm]
 have HF := hide (first_ok h (by omega) hm)
 have hf : gFl zs < 32 := by have := hm.2.2.2; unfold gFl; omega
 rcases e2 : gTexts (gFl zs) (zs.drop 10) with er | ⟨n, c, xx, ys⟩
 ·obtain ⟨a, cc, hr⟩ := h.rd
  have : er = 90 := gTexts_err e2
  subst this
  exact (head_texts HF hf h e2).mono fun e w1 h1 => .inr ⟨90, gHead_2 e1 e2, by decide, by decide, h1⟩
 have hys : ys.length <= zs.length := by have := (gTexts_suf e2).length_le; simp at this; omega
 cases h2 : gB (gFl zs) 2 with
 | false =>
  have e3 : gSum (gB (gFl zs) 2) zs ys = .ok ys := by simp [gSum, h2]
  exact (head_plain HF hf h e2 h2).mono fun e w1 h1 => .inl ⟨_, _, gHead_4 e1 e2 e3, h1⟩
 | true =>
  have hlen : (zs.take (zs.length - ys.length)).length = zs.length - ys.length := by rw [List.length_take]; omega
  by_cases hl2 : ys.length < 2
  ·have e3 : gSum (gB (gFl zs) 2) zs ys = .error 90 := by simp [gSum, h2, hl2]
   exact head_sum HF hf h e2 h2 hys (fun w2 a0 c0 s2 b2 => (hsum_short s2 a0 _ c0 hl2).mono fun e w1 h1 => ⟨.inr ⟨90, gHead_3 e1 e2 e3, by decide, by decide, h1⟩, 90, h1.1⟩)
  ·refine head_sum HF hf h e2 h2 hys (fun w2 a0 c0 s2 b2 => ?_)
   have := hsum_c s2 b2 (by omega)
   rw [hlen] at this
   refine this.mono fun e w1 h1 => ?_
   by_cases hK : le (ys.take 2) = crc (zs.take (zs.length - ys.length)) % 65536
   ·have e3 : gSum (gB (gFl zs) 2) zs ys = .ok (ys.drop 2) := by simp [gSum, h2, hl2, hK]
    exact ⟨.inl ⟨_, _, gHead_4 e1 e2 e3, h1.1 hK⟩, 0, (h1.1 hK).1⟩
   ·have e3 : gSum (gB (gFl zs) 2) zs ys = .error 92 := by simp [gSum, h2, hl2, hK]
    exact ⟨.inr ⟨92, gHead_3 e1 e2 e3, by decide, by decide, h1.2 hK⟩, 92, (h1.2 hK).1⟩
end
end Go.Proofs.YteknifnadbmfiaaGreatDoor
