/- gz: qG2Texts. -/
import Derived.Test.YteknifnadbmfiaaGreatDoorqG1Head
namespace Go.Proofs.YteknifnadbmfiaaGreatDoor
set_option maxRecDepth 100000
open Go Go.RowKit

theorem gTexts_bad1 {f : Nat} {r : List Int} {e : Int} (h : gExtra (gB f 4) r = .error e) : gTexts f r = .error e := by simp [gTexts, h]
theorem gTexts_bad2 {f : Nat} {r r1 : List Int} {e : Int} {x : ByteArray} (h : gExtra (gB f 4) r = .ok (x, r1)) (h2 : gText (gB f 8) r1 = .error e) : gTexts f r = .error e := by simp [gTexts, h, h2]
theorem gTexts_bad3 {f : Nat} {r r1 r2 : List Int} {e : Int} {x n : ByteArray} (h : gExtra (gB f 4) r = .ok (x, r1)) (h2 : gText (gB f 8) r1 = .ok (n, r2)) (h3 : gText (gB f 16) r2 = .error e) : gTexts f r = .error e := by simp [gTexts, h, h2, h3]
theorem gTexts_ok {f : Nat} {r r1 r2 r3 : List Int} {x n c : ByteArray} (h : gExtra (gB f 4) r = .ok (x, r1)) (h2 : gText (gB f 8) r1 = .ok (n, r2)) (h3 : gText (gB f 16) r2 = .ok (c, r3)) : gTexts f r = .ok (n, c, x, r3) := by simp [gTexts, h, h2, h3]
theorem fn4 {f : Nat} (hf : f < 32) (h : gB f 4 = false) : bits .and .u8 (f : Int) 4 = 0 := by have := fl_and4 ⟨f, hf⟩; simpa [h] using this
theorem fy4 {f : Nat} (hf : f < 32) (h : gB f 4 = true) : bits .and .u8 (f : Int) 4 = 4 := by have := fl_and4 ⟨f, hf⟩; simpa [h] using this
theorem fn8 {f : Nat} (hf : f < 32) (h : gB f 8 = false) : bits .and .u8 (f : Int) 8 = 0 := by have := fl_and8 ⟨f, hf⟩; simpa [h] using this
theorem fy8 {f : Nat} (hf : f < 32) (h : gB f 8 = true) : bits .and .u8 (f : Int) 8 = 8 := by have := fl_and8 ⟨f, hf⟩; simpa [h] using this
theorem fn16 {f : Nat} (hf : f < 32) (h : gB f 16 = false) : bits .and .u8 (f : Int) 16 = 0 := by have := fl_and16 ⟨f, hf⟩; simpa [h] using this
theorem fy16 {f : Nat} (hf : f < 32) (h : gB f 16 = true) : bits .and .u8 (f : Int) 16 = 16 := by have := fl_and16 ⟨f, hf⟩; simpa [h] using this
def TxC (w : World) (br bm f : Nat) (Q : Ending -> World -> Prop) : Prop := Calls Tryz.prog 38 #[.pointer (some ⟨br, 0, none⟩), .pointer (some ⟨bm, 0, none⟩), .int .u8 (f : Int)] w Q
def mT (n c x : ByteArray) (t : Nat) (b : Bool) : Mb := ⟨n, c, x, t, b, .empty⟩
theorem SM.st2 {w0 W : World} {B br bm : Nat} {zs : List Int} {room : Int} {n c x : ByteArray} {t : Nat} {b : Bool} (h : SM w0 W B br bm zs room (mT n c x t b)) (s : ByteArray) : W.cell? ⟨bm, 2, none⟩ = some (.string x) /\ W.frozen? ⟨bm, 2, none⟩ = false /\ Hid (SM w0 (W.setCell ⟨bm, 2, none⟩ (.string s)) B br bm zs room (mT n c s t b)) := ⟨h.cell 2, h.free 2, h.set 2 _ _ rfl⟩
theorem SM.st0 {w0 W : World} {B br bm : Nat} {zs : List Int} {room : Int} {n c x : ByteArray} {t : Nat} {b : Bool} (h : SM w0 W B br bm zs room (mT n c x t b)) (s : ByteArray) : W.cell? ⟨bm, 0, none⟩ = some (.string n) /\ W.frozen? ⟨bm, 0, none⟩ = false /\ Hid (SM w0 (W.setCell ⟨bm, 0, none⟩ (.string s)) B br bm zs room (mT s c x t b)) := ⟨h.cell 0, h.free 0, h.set 0 _ _ rfl⟩
theorem SM.st1 {w0 W : World} {B br bm : Nat} {zs : List Int} {room : Int} {n c x : ByteArray} {t : Nat} {b : Bool} (h : SM w0 W B br bm zs room (mT n c x t b)) (s : ByteArray) : W.cell? ⟨bm, 1, none⟩ = some (.string c) /\ W.frozen? ⟨bm, 1, none⟩ = false /\ Hid (SM w0 (W.setCell ⟨bm, 1, none⟩ (.string s)) B br bm zs room (mT n s x t b)) := ⟨h.cell 1, h.free 1, h.set 1 _ _ rfl⟩
theorem SxBad.st {w0 W : World} {B br bm : Nat} {m : Mb} {e : Ending} (h : SxBad w0 B br bm m e W) (i : Nat) (hi : i < 3) : ∃ s, e = .returned (.tuple #[.string s, .int .i64 90]) /\ (∃ v, W.cell? ⟨bm, i, none⟩ = some v) /\ W.frozen? ⟨bm, i, none⟩ = false /\ Hid (On2 br bm w0 (W.setCell ⟨bm, i, none⟩ (.string s))) := by
 obtain ⟨⟨s, rfl⟩, l, mb, lt⟩ := h
 refine ⟨s, rfl, ?_, free_of mb i, l.setM i _⟩
 have := cells_of mb i
 have h6 : i < m.cells.size := by show i < 6; omega
 exact ⟨_, this.trans (Array.getElem?_eq_getElem h6)⟩
section
variable {w : World} {B br bm : Nat} {zs z1 z2 z3 : List Int} {room : Int} {t : Nat} {x : Bool} {f : Nat} {sx sn sc : ByteArray} {er : Int}

theorem tx_ooo (h : SM w w B br bm zs room (mT .empty .empty .empty t x)) (hf : f < 32) (f4 : gB f 4 = false) (f8 : gB f 8 = false) (f16 : gB f 16 = false) : TxC w br bm f (StGo w B br bm room (mT .empty .empty .empty t x) zs) := by
 have a4 := fn4 hf f4
 have a8 := fn8 hf f8
 have a16 := fn16 hf f16
 have S0 := hide h
 clear h f4 f8 f16
 have hfi : (f : Int) < 32 := by omega
 unfold TxC
 go_enter Tryz.func38, Tryz.ntmps38
 go_wp2_with fail
 go_ret
 exact ⟨rfl, S0.out⟩

theorem tx_ooy (h : SM w w B br bm zs room (mT .empty .empty .empty t x)) (hf : f < 32) (f4 : gB f 4 = false) (f8 : gB f 8 = false) (f16 : gB f 16 = true) (r16 : gText true zs = .ok (sc, z3)) : TxC w br bm f (StGo w B br bm room (mT .empty sc .empty t x) z3) := by
 have a4 := fn4 hf f4
 have a8 := fn8 hf f8
 have a16 := fy16 hf f16
 have H16 := hide (@sm_text_ok w B br bm zs z3 room (mT .empty .empty .empty t x) sc r16)
 have S0 := hide h
 clear h f4 f8 f16 r16
 have hfi : (f : Int) < 32 := by omega
 unfold TxC
 go_enter Tryz.func38, Tryz.ntmps38
 go_wp2_with (first
  | (go_at_call 57; refine (H16.out _ S0.out).mono ?_; rintro e w16 ⟨rfl, s⟩; obtain ⟨c16, g16, S16⟩ := s.st1 sc; clear s H16))
 go_ret
 exact ⟨rfl, S16.out⟩

theorem tx_oon (h : SM w w B br bm zs room (mT .empty .empty .empty t x)) (hf : f < 32) (f4 : gB f 4 = false) (f8 : gB f 8 = false) (f16 : gB f 16 = true) (r16 : gText true zs = .error er) : TxC w br bm f (StBad w br bm 90) := by
 have a4 := fn4 hf f4
 have a8 := fn8 hf f8
 have a16 := fy16 hf f16
 have H16 := hide (@sm_text_bad w B br bm zs room (mT .empty .empty .empty t x) er r16)
 have S0 := hide h
 clear h f4 f8 f16 r16
 have hfi : (f : Int) < 32 := by omega
 unfold TxC
 go_enter Tryz.func38, Tryz.ntmps38
 go_wp2_with (first
  | (go_at_call 57; refine (H16.out _ S0.out).mono ?_; intro e w16 s; obtain ⟨sv, rfl, ⟨v, c16⟩, g16, LL⟩ := s.st 1 (by decide); clear s H16))
 go_ret
 exact ⟨rfl, LL.out⟩

theorem tx_oyo (h : SM w w B br bm zs room (mT .empty .empty .empty t x)) (hf : f < 32) (f4 : gB f 4 = false) (f8 : gB f 8 = true) (r8 : gText true zs = .ok (sn, z2)) (f16 : gB f 16 = false) : TxC w br bm f (StGo w B br bm room (mT sn .empty .empty t x) z2) := by
 have a4 := fn4 hf f4
 have a8 := fy8 hf f8
 have a16 := fn16 hf f16
 have H8 := hide (@sm_text_ok w B br bm zs z2 room (mT .empty .empty .empty t x) sn r8)
 have S0 := hide h
 clear h f4 f8 f16 r8
 have hfi : (f : Int) < 32 := by omega
 unfold TxC
 go_enter Tryz.func38, Tryz.ntmps38
 go_wp2_with (first
  | (go_at_call 57; refine (H8.out _ S0.out).mono ?_; rintro e w8 ⟨rfl, s⟩; obtain ⟨c8, g8, S8⟩ := s.st0 sn; clear s H8))
 go_ret
 exact ⟨rfl, S8.out⟩

theorem tx_oyy (h : SM w w B br bm zs room (mT .empty .empty .empty t x)) (hf : f < 32) (f4 : gB f 4 = false) (f8 : gB f 8 = true) (r8 : gText true zs = .ok (sn, z2)) (f16 : gB f 16 = true) (r16 : gText true z2 = .ok (sc, z3)) : TxC w br bm f (StGo w B br bm room (mT sn sc .empty t x) z3) := by
 have a4 := fn4 hf f4
 have a8 := fy8 hf f8
 have a16 := fy16 hf f16
 have H8 := hide (@sm_text_ok w B br bm zs z2 room (mT .empty .empty .empty t x) sn r8)
 have H16 := hide (@sm_text_ok w B br bm z2 z3 room (mT sn .empty .empty t x) sc r16)
 have S0 := hide h
 clear h f4 f8 f16 r8 r16
 have hfi : (f : Int) < 32 := by omega
 unfold TxC
 go_enter Tryz.func38, Tryz.ntmps38
 go_wp2_with (first
  | (go_at_call 57; refine (H8.out _ S0.out).mono ?_; rintro e w8 ⟨rfl, s⟩; obtain ⟨c8, g8, S8⟩ := s.st0 sn; clear s H8)
  | (go_at_call 57; refine (H16.out _ S8.out).mono ?_; rintro e w16 ⟨rfl, s⟩; obtain ⟨c16, g16, S16⟩ := s.st1 sc; clear s H16))
 go_ret
 exact ⟨rfl, S16.out⟩

theorem tx_oyn (h : SM w w B br bm zs room (mT .empty .empty .empty t x)) (hf : f < 32) (f4 : gB f 4 = false) (f8 : gB f 8 = true) (r8 : gText true zs = .ok (sn, z2)) (f16 : gB f 16 = true) (r16 : gText true z2 = .error er) : TxC w br bm f (StBad w br bm 90) := by
 have a4 := fn4 hf f4
 have a8 := fy8 hf f8
 have a16 := fy16 hf f16
 have H8 := hide (@sm_text_ok w B br bm zs z2 room (mT .empty .empty .empty t x) sn r8)
 have H16 := hide (@sm_text_bad w B br bm z2 room (mT sn .empty .empty t x) er r16)
 have S0 := hide h
 clear h f4 f8 f16 r8 r16
 have hfi : (f : Int) < 32 := by omega
 unfold TxC
 go_enter Tryz.func38, Tryz.ntmps38
 go_wp2_with (first
  | (go_at_call 57; refine (H8.out _ S0.out).mono ?_; rintro e w8 ⟨rfl, s⟩; obtain ⟨c8, g8, S8⟩ := s.st0 sn; clear s H8)
  | (go_at_call 57; refine (H16.out _ S8.out).mono ?_; intro e w16 s; obtain ⟨sv, rfl, ⟨v, c16⟩, g16, LL⟩ := s.st 1 (by decide); clear s H16))
 go_ret
 exact ⟨rfl, LL.out⟩

theorem tx_on (h : SM w w B br bm zs room (mT .empty .empty .empty t x)) (hf : f < 32) (f4 : gB f 4 = false) (f8 : gB f 8 = true) (r8 : gText true zs = .error er) : TxC w br bm f (StBad w br bm 90) := by
 have a4 := fn4 hf f4
 have a8 := fy8 hf f8
 have H8 := hide (@sm_text_bad w B br bm zs room (mT .empty .empty .empty t x) er r8)
 have S0 := hide h
 clear h f4 f8 r8
 have hfi : (f : Int) < 32 := by omega
 unfold TxC
 go_enter Tryz.func38, Tryz.ntmps38
 go_wp2_with (first
  | (go_at_call 57; refine (H8.out _ S0.out).mono ?_; intro e w8 s; obtain ⟨sv, rfl, ⟨v, c8⟩, g8, LL⟩ := s.st 0 (by decide); clear s H8))
 go_ret
 exact ⟨rfl, LL.out⟩

theorem tx_yoo (h : SM w w B br bm zs room (mT .empty .empty .empty t x)) (hf : f < 32) (f4 : gB f 4 = true) (r4 : gExtra true zs = .ok (sx, z1)) (f8 : gB f 8 = false) (f16 : gB f 16 = false) : TxC w br bm f (StGo w B br bm room (mT .empty .empty sx t x) z1) := by
 have a4 := fy4 hf f4
 have a8 := fn8 hf f8
 have a16 := fn16 hf f16
 have H4 := hide (@sm_extra_ok w B br bm zs z1 room (mT .empty .empty .empty t x) sx r4)
 have S0 := hide h
 clear h f4 f8 f16 r4
 have hfi : (f : Int) < 32 := by omega
 unfold TxC
 go_enter Tryz.func38, Tryz.ntmps38
 go_wp2_with (first
  | (go_at_call 56; refine (H4.out _ S0.out).mono ?_; rintro e w4 ⟨rfl, s⟩; obtain ⟨c4, g4, S4⟩ := s.st2 sx; clear s H4))
 go_ret
 exact ⟨rfl, S4.out⟩

theorem tx_yoy (h : SM w w B br bm zs room (mT .empty .empty .empty t x)) (hf : f < 32) (f4 : gB f 4 = true) (r4 : gExtra true zs = .ok (sx, z1)) (f8 : gB f 8 = false) (f16 : gB f 16 = true) (r16 : gText true z1 = .ok (sc, z3)) : TxC w br bm f (StGo w B br bm room (mT .empty sc sx t x) z3) := by
 have a4 := fy4 hf f4
 have a8 := fn8 hf f8
 have a16 := fy16 hf f16
 have H4 := hide (@sm_extra_ok w B br bm zs z1 room (mT .empty .empty .empty t x) sx r4)
 have H16 := hide (@sm_text_ok w B br bm z1 z3 room (mT .empty .empty sx t x) sc r16)
 have S0 := hide h
 clear h f4 f8 f16 r4 r16
 have hfi : (f : Int) < 32 := by omega
 unfold TxC
 go_enter Tryz.func38, Tryz.ntmps38
 go_wp2_with (first
  | (go_at_call 56; refine (H4.out _ S0.out).mono ?_; rintro e w4 ⟨rfl, s⟩; obtain ⟨c4, g4, S4⟩ := s.st2 sx; clear s H4)
  | (go_at_call 57; refine (H16.out _ S4.out).mono ?_; rintro e w16 ⟨rfl, s⟩; obtain ⟨c16, g16, S16⟩ := s.st1 sc; clear s H16))
 go_ret
 exact ⟨rfl, S16.out⟩

theorem tx_yon (h : SM w w B br bm zs room (mT .empty .empty .empty t x)) (hf : f < 32) (f4 : gB f 4 = true) (r4 : gExtra true zs = .ok (sx, z1)) (f8 : gB f 8 = false) (f16 : gB f 16 = true) (r16 : gText true z1 = .error er) : TxC w br bm f (StBad w br bm 90) := by
 have a4 := fy4 hf f4
 have a8 := fn8 hf f8
 have a16 := fy16 hf f16
 have H4 := hide (@sm_extra_ok w B br bm zs z1 room (mT .empty .empty .empty t x) sx r4)
 have H16 := hide (@sm_text_bad w B br bm z1 room (mT .empty .empty sx t x) er r16)
 have S0 := hide h
 clear h f4 f8 f16 r4 r16
 have hfi : (f : Int) < 32 := by omega
 unfold TxC
 go_enter Tryz.func38, Tryz.ntmps38
 go_wp2_with (first
  | (go_at_call 56; refine (H4.out _ S0.out).mono ?_; rintro e w4 ⟨rfl, s⟩; obtain ⟨c4, g4, S4⟩ := s.st2 sx; clear s H4)
  | (go_at_call 57; refine (H16.out _ S4.out).mono ?_; intro e w16 s; obtain ⟨sv, rfl, ⟨v, c16⟩, g16, LL⟩ := s.st 1 (by decide); clear s H16))
 go_ret
 exact ⟨rfl, LL.out⟩

theorem tx_yyo (h : SM w w B br bm zs room (mT .empty .empty .empty t x)) (hf : f < 32) (f4 : gB f 4 = true) (r4 : gExtra true zs = .ok (sx, z1)) (f8 : gB f 8 = true) (r8 : gText true z1 = .ok (sn, z2)) (f16 : gB f 16 = false) : TxC w br bm f (StGo w B br bm room (mT sn .empty sx t x) z2) := by
 have a4 := fy4 hf f4
 have a8 := fy8 hf f8
 have a16 := fn16 hf f16
 have H4 := hide (@sm_extra_ok w B br bm zs z1 room (mT .empty .empty .empty t x) sx r4)
 have H8 := hide (@sm_text_ok w B br bm z1 z2 room (mT .empty .empty sx t x) sn r8)
 have S0 := hide h
 clear h f4 f8 f16 r4 r8
 have hfi : (f : Int) < 32 := by omega
 unfold TxC
 go_enter Tryz.func38, Tryz.ntmps38
 go_wp2_with (first
  | (go_at_call 56; refine (H4.out _ S0.out).mono ?_; rintro e w4 ⟨rfl, s⟩; obtain ⟨c4, g4, S4⟩ := s.st2 sx; clear s H4)
  | (go_at_call 57; refine (H8.out _ S4.out).mono ?_; rintro e w8 ⟨rfl, s⟩; obtain ⟨c8, g8, S8⟩ := s.st0 sn; clear s H8))
 go_ret
 exact ⟨rfl, S8.out⟩

theorem tx_yyy (h : SM w w B br bm zs room (mT .empty .empty .empty t x)) (hf : f < 32) (f4 : gB f 4 = true) (r4 : gExtra true zs = .ok (sx, z1)) (f8 : gB f 8 = true) (r8 : gText true z1 = .ok (sn, z2)) (f16 : gB f 16 = true) (r16 : gText true z2 = .ok (sc, z3)) : TxC w br bm f (StGo w B br bm room (mT sn sc sx t x) z3) := by
 have a4 := fy4 hf f4
 have a8 := fy8 hf f8
 have a16 := fy16 hf f16
 have H4 := hide (@sm_extra_ok w B br bm zs z1 room (mT .empty .empty .empty t x) sx r4)
 have H8 := hide (@sm_text_ok w B br bm z1 z2 room (mT .empty .empty sx t x) sn r8)
 have H16 := hide (@sm_text_ok w B br bm z2 z3 room (mT sn .empty sx t x) sc r16)
 have S0 := hide h
 clear h f4 f8 f16 r4 r8 r16
 have hfi : (f : Int) < 32 := by omega
 unfold TxC
 go_enter Tryz.func38, Tryz.ntmps38
 go_wp2_with (first
  | (go_at_call 56; refine (H4.out _ S0.out).mono ?_; rintro e w4 ⟨rfl, s⟩; obtain ⟨c4, g4, S4⟩ := s.st2 sx; clear s H4)
  | (go_at_call 57; refine (H8.out _ S4.out).mono ?_; rintro e w8 ⟨rfl, s⟩; obtain ⟨c8, g8, S8⟩ := s.st0 sn; clear s H8)
  | (go_at_call 57; refine (H16.out _ S8.out).mono ?_; rintro e w16 ⟨rfl, s⟩; obtain ⟨c16, g16, S16⟩ := s.st1 sc; clear s H16))
 go_ret
 exact ⟨rfl, S16.out⟩

theorem tx_yyn (h : SM w w B br bm zs room (mT .empty .empty .empty t x)) (hf : f < 32) (f4 : gB f 4 = true) (r4 : gExtra true zs = .ok (sx, z1)) (f8 : gB f 8 = true) (r8 : gText true z1 = .ok (sn, z2)) (f16 : gB f 16 = true) (r16 : gText true z2 = .error er) : TxC w br bm f (StBad w br bm 90) := by
 have a4 := fy4 hf f4
 have a8 := fy8 hf f8
 have a16 := fy16 hf f16
 have H4 := hide (@sm_extra_ok w B br bm zs z1 room (mT .empty .empty .empty t x) sx r4)
 have H8 := hide (@sm_text_ok w B br bm z1 z2 room (mT .empty .empty sx t x) sn r8)
 have H16 := hide (@sm_text_bad w B br bm z2 room (mT sn .empty sx t x) er r16)
 have S0 := hide h
 clear h f4 f8 f16 r4 r8 r16
 have hfi : (f : Int) < 32 := by omega
 unfold TxC
 go_enter Tryz.func38, Tryz.ntmps38
 go_wp2_with (first
  | (go_at_call 56; refine (H4.out _ S0.out).mono ?_; rintro e w4 ⟨rfl, s⟩; obtain ⟨c4, g4, S4⟩ := s.st2 sx; clear s H4)
  | (go_at_call 57; refine (H8.out _ S4.out).mono ?_; rintro e w8 ⟨rfl, s⟩; obtain ⟨c8, g8, S8⟩ := s.st0 sn; clear s H8)
  | (go_at_call 57; refine (H16.out _ S8.out).mono ?_; intro e w16 s; obtain ⟨sv, rfl, ⟨v, c16⟩, g16, LL⟩ := s.st 1 (by decide); clear s H16))
 go_ret
 exact ⟨rfl, LL.out⟩

theorem tx_yn (h : SM w w B br bm zs room (mT .empty .empty .empty t x)) (hf : f < 32) (f4 : gB f 4 = true) (r4 : gExtra true zs = .ok (sx, z1)) (f8 : gB f 8 = true) (r8 : gText true z1 = .error er) : TxC w br bm f (StBad w br bm 90) := by
 have a4 := fy4 hf f4
 have a8 := fy8 hf f8
 have H4 := hide (@sm_extra_ok w B br bm zs z1 room (mT .empty .empty .empty t x) sx r4)
 have H8 := hide (@sm_text_bad w B br bm z1 room (mT .empty .empty sx t x) er r8)
 have S0 := hide h
 clear h f4 f8 r4 r8
 have hfi : (f : Int) < 32 := by omega
 unfold TxC
 go_enter Tryz.func38, Tryz.ntmps38
 go_wp2_with (first
  | (go_at_call 56; refine (H4.out _ S0.out).mono ?_; rintro e w4 ⟨rfl, s⟩; obtain ⟨c4, g4, S4⟩ := s.st2 sx; clear s H4)
  | (go_at_call 57; refine (H8.out _ S4.out).mono ?_; intro e w8 s; obtain ⟨sv, rfl, ⟨v, c8⟩, g8, LL⟩ := s.st 0 (by decide); clear s H8))
 go_ret
 exact ⟨rfl, LL.out⟩

theorem tx_n (h : SM w w B br bm zs room (mT .empty .empty .empty t x)) (hf : f < 32) (f4 : gB f 4 = true) (r4 : gExtra true zs = .error er) : TxC w br bm f (StBad w br bm 90) := by
 have a4 := fy4 hf f4
 have H4 := hide (@sm_extra_bad w B br bm zs room (mT .empty .empty .empty t x) er r4)
 have S0 := hide h
 clear h f4 r4
 have hfi : (f : Int) < 32 := by omega
 unfold TxC
 go_enter Tryz.func38, Tryz.ntmps38
 go_wp2_with (first
  | (go_at_call 56; refine (H4.out _ S0.out).mono ?_; intro e w4 s; obtain ⟨sv, rfl, ⟨v, c4⟩, g4, LL⟩ := s.st 2 (by decide); clear s H4))
 go_ret
 exact ⟨rfl, LL.out⟩

end

def TsOk (w : World) (B br bm : Nat) (room : Int) (t : Nat) (x : Bool) (r : Except Int (ByteArray × ByteArray × ByteArray × List Int)) (e : Ending) (w' : World) : Prop :=
 (∃ n c xx ys, r = .ok (n, c, xx, ys) /\ StGo w B br bm room ⟨n, c, xx, t, x, .empty⟩ ys e w') \/ (r = .error 90 /\ StBad w br bm 90 e w')
theorem texts_c {w : World} {B br bm : Nat} {zs : List Int} {room : Int} {t : Nat} {x : Bool} {f : Nat} (h : SM w w B br bm zs room ⟨.empty, .empty, .empty, t, x, .empty⟩) (hf : f < 32) :
  Calls Tryz.prog 38 #[.pointer (some ⟨br, 0, none⟩), .pointer (some ⟨bm, 0, none⟩), .int .u8 (f : Int)] w (TsOk w B br bm room t x (gTexts f zs)) := by
 cases f4 : gB f 4 with
 | false =>
  have q4 : gExtra (gB f 4) zs = .ok (.empty, zs) := by rw [f4]; exact gExtra_false _
  cases f8 : gB f 8 with
  | false =>
   have q8 : gText (gB f 8) zs = .ok (.empty, zs) := by rw [f8]; exact gText_false _
   cases f16 : gB f 16 with
   | false =>
    have q16 : gText (gB f 16) zs = .ok (.empty, zs) := by rw [f16]; exact gText_false _
    exact (tx_ooo h hf f4 f8 f16).mono fun e w1 h1 => .inl ⟨_, _, _, _, gTexts_ok q4 q8 q16, h1⟩
   | true =>
    rcases r16 : gText true zs with er | ⟨sc, z3⟩
    ·have q16 : gText (gB f 16) zs = .error er := by rw [f16]; exact r16
     have e9 : er = 90 := (gText_true_bad r16).1
     subst e9
     exact (tx_oon h hf f4 f8 f16 r16).mono fun e w1 h1 => .inr ⟨gTexts_bad3 q4 q8 q16, h1⟩
    ·have q16 : gText (gB f 16) zs = .ok (sc, z3) := by rw [f16]; exact r16
     exact (tx_ooy h hf f4 f8 f16 r16).mono fun e w1 h1 => .inl ⟨_, _, _, _, gTexts_ok q4 q8 q16, h1⟩
  | true =>
   rcases r8 : gText true zs with er | ⟨sn, z2⟩
   ·have q8 : gText (gB f 8) zs = .error er := by rw [f8]; exact r8
    have e9 : er = 90 := (gText_true_bad r8).1
    subst e9
    exact (tx_on h hf f4 f8 r8).mono fun e w1 h1 => .inr ⟨gTexts_bad2 q4 q8, h1⟩
   ·have q8 : gText (gB f 8) zs = .ok (sn, z2) := by rw [f8]; exact r8
    cases f16 : gB f 16 with
    | false =>
     have q16 : gText (gB f 16) z2 = .ok (.empty, z2) := by rw [f16]; exact gText_false _
     exact (tx_oyo h hf f4 f8 r8 f16).mono fun e w1 h1 => .inl ⟨_, _, _, _, gTexts_ok q4 q8 q16, h1⟩
    | true =>
     rcases r16 : gText true z2 with er | ⟨sc, z3⟩
     ·have q16 : gText (gB f 16) z2 = .error er := by rw [f16]; exact r16
      have e9 : er = 90 := (gText_true_bad r16).1
      subst e9
      exact (tx_oyn h hf f4 f8 r8 f16 r16).mono fun e w1 h1 => .inr ⟨gTexts_bad3 q4 q8 q16, h1⟩
     ·have q16 : gText (gB f 16) z2 = .ok (sc, z3) := by rw [f16]; exact r16
      exact (tx_oyy h hf f4 f8 r8 f16 r16).mono fun e w1 h1 => .inl ⟨_, _, _, _, gTexts_ok q4 q8 q16, h1⟩
 | true =>
  rcases r4 : gExtra true zs with er | ⟨sx, z1⟩
  ·have q4 : gExtra (gB f 4) zs = .error er := by rw [f4]; exact r4
   have e9 : er = 90 := (gExtra_true_bad r4).1
   subst e9
   exact (tx_n h hf f4 r4).mono fun e w1 h1 => .inr ⟨gTexts_bad1 q4, h1⟩
  ·have q4 : gExtra (gB f 4) zs = .ok (sx, z1) := by rw [f4]; exact r4
   cases f8 : gB f 8 with
   | false =>
    have q8 : gText (gB f 8) z1 = .ok (.empty, z1) := by rw [f8]; exact gText_false _
    cases f16 : gB f 16 with
    | false =>
     have q16 : gText (gB f 16) z1 = .ok (.empty, z1) := by rw [f16]; exact gText_false _
     exact (tx_yoo h hf f4 r4 f8 f16).mono fun e w1 h1 => .inl ⟨_, _, _, _, gTexts_ok q4 q8 q16, h1⟩
    | true =>
     rcases r16 : gText true z1 with er | ⟨sc, z3⟩
     ·have q16 : gText (gB f 16) z1 = .error er := by rw [f16]; exact r16
      have e9 : er = 90 := (gText_true_bad r16).1
      subst e9
      exact (tx_yon h hf f4 r4 f8 f16 r16).mono fun e w1 h1 => .inr ⟨gTexts_bad3 q4 q8 q16, h1⟩
     ·have q16 : gText (gB f 16) z1 = .ok (sc, z3) := by rw [f16]; exact r16
      exact (tx_yoy h hf f4 r4 f8 f16 r16).mono fun e w1 h1 => .inl ⟨_, _, _, _, gTexts_ok q4 q8 q16, h1⟩
   | true =>
    rcases r8 : gText true z1 with er | ⟨sn, z2⟩
    ·have q8 : gText (gB f 8) z1 = .error er := by rw [f8]; exact r8
     have e9 : er = 90 := (gText_true_bad r8).1
     subst e9
     exact (tx_yn h hf f4 r4 f8 r8).mono fun e w1 h1 => .inr ⟨gTexts_bad2 q4 q8, h1⟩
    ·have q8 : gText (gB f 8) z1 = .ok (sn, z2) := by rw [f8]; exact r8
     cases f16 : gB f 16 with
     | false =>
      have q16 : gText (gB f 16) z2 = .ok (.empty, z2) := by rw [f16]; exact gText_false _
      exact (tx_yyo h hf f4 r4 f8 r8 f16).mono fun e w1 h1 => .inl ⟨_, _, _, _, gTexts_ok q4 q8 q16, h1⟩
     | true =>
      rcases r16 : gText true z2 with er | ⟨sc, z3⟩
      ·have q16 : gText (gB f 16) z2 = .error er := by rw [f16]; exact r16
       have e9 : er = 90 := (gText_true_bad r16).1
       subst e9
       exact (tx_yyn h hf f4 r4 f8 r8 f16 r16).mono fun e w1 h1 => .inr ⟨gTexts_bad3 q4 q8 q16, h1⟩
      ·have q16 : gText (gB f 16) z2 = .ok (sc, z3) := by rw [f16]; exact r16
       exact (tx_yyy h hf f4 r4 f8 r8 f16 r16).mono fun e w1 h1 => .inl ⟨_, _, _, _, gTexts_ok q4 q8 q16, h1⟩
end Go.Proofs.YteknifnadbmfiaaGreatDoor
