/- gz: qG4End. -/
import Derived.Test.YteknifnadbmfiaaGreatDoorqG3Hd
namespace Go.Proofs.YteknifnadbmfiaaGreatDoor
set_option maxRecDepth 100000
open Go Go.RowKit

structure SR (w0 W : World) (B br : Nat) (zs : List Int) (room : Int) : Prop where
 rd : ∃ a c, RdAt W B br zs room a c
 low : On br w0 W
theorem SR.on {w0 W W1 : World} {B br : Nat} {zs ys : List Int} {room r2 : Int} (h : SR w0 W B br zs room) (o : On br W W1) (r : ∃ a c, RdAt W1 B br ys r2 a c) : SR w0 W1 B br ys r2 := ⟨r, h.low.trans o⟩
theorem SR.drewN {w0 W : World} {B br : Nat} {zs : List Int} {room : Int} (h : SR w0 W B br zs room) (q : Nat) : SR w0 (W.drewN q) B br zs room := by
 obtain ⟨a, c, r⟩ := h.rd
 exact h.on ((On.refl br W).drewN q) ⟨a, c, r.kept (Kept.drewN (Kept.refl (fun _ => False) W) q) (fun _ _ e => e) (fun e => e)⟩
def EnOk (w0 : World) (B br : Nat) (room : Int) (r : Except Int (List Int)) (e : Ending) (w' : World) : Prop :=
 (∃ ys, r = .ok ys /\ e = .returned (.int .i64 0) /\ SR w0 w' B br ys room) \/ (∃ er, r = .error er /\ 90 <= er /\ er <= 93 /\ e = .returned (.int .i64 er) /\ On br w0 w')
set_option maxHeartbeats 4000000 in
theorem end_short {w : World} {B br : Nat} {zs d : List Int} {room : Int} (h : SR w w B br zs room) (a0 : Option Addr) (n0 c0 : Nat) (hl : zs.length < 8) :
  Calls Tryz.prog 26 #[.pointer (some ⟨br, 0, none⟩), .slice a0 n0 c0] w (EnOk w B br room (gEnd d zs)) := by
 obtain ⟨a, c, hr⟩ := h.rd
 have HT := hide (take_no w B br zs room a c hr 8 hl)
 have HE : Hid (gEnd d zs = .error 90) := by show _ = _; simp [gEnd, hl]
 have HL := hide h.low
 clear h hr
 go_enter Tryz.func26, Tryz.ntmps26
 go_wp2_with (go_at_call 41; refine HT.out.mono ?_; rintro e w1 ⟨rfl, rfl⟩)
 go_ret
 exact .inr ⟨90, HE.out, by decide, by decide, rfl, HL.out⟩
set_option maxHeartbeats 8000000 in
theorem end_long {w : World} {B br : Nat} {zs d : List Int} {room : Int} (h : SR w w B br zs room) {a0 : Option Addr} {c0 Bd : Nat} (hd : Bi w Bd a0 c0 d) (hbd : d = [] \/ ∃ g, a0 = some ⟨g, 0, none⟩ /\ g ≠ br) (hl : 8 <= zs.length) :
  Calls Tryz.prog 26 #[.pointer (some ⟨br, 0, none⟩), .slice a0 d.length c0] w (EnOk w B br room (gEnd d zs)) := by
 obtain ⟨a, c, hr⟩ := h.rd
 have HT := hide (take_yes w B br zs room a c hr 8 hl)
 have hn := le4_lt (zs := zs.take 4) (by simp; omega)
 have hn2 := le4_lt (zs := (zs.drop 4).take 4) (by simp; omega)
 have hc := crc_lt d
 have hdl : d.length <= 9223372036854775807 := by have := hd.le; have := hd.max; omega
 have hlen1 : (zs.take 4).length = 4 := by simp; omega
 have hlen2 : ((zs.drop 4).take 4).length = 4 := by simp; omega
 have HQ : Hid (∀ w1 a1 c1 a2 c2, On br w w1 -> Bi w1 B a1 c1 (zs.take 8) -> RdAt w1 B br (zs.drop 8) room a2 c2 -> (∃ b off, a1 = some ⟨b, off, none⟩ /\ (∀ q, Calls Tryz.prog 42 #[.slice (some ⟨b, off, none⟩) 4 c1] (w1.drewN q) fun e w' => e = .returned (.int .u64 (le (zs.take 4) : Nat)) /\ w' = w1.drewN q) /\ (∀ q, Calls Tryz.prog 42 #[.slice (some ⟨b, off + 4, none⟩) 4 (c1 - 4)] (w1.drewN q) fun e w' => e = .returned (.int .u64 (le ((zs.drop 4).take 4) : Nat)) /\ w' = w1.drewN q)) /\ 8 <= c1 /\ SR w w1 B br (zs.drop 8) room /\ (∀ q, Calls Tryz.prog 22 #[.pointer (some ⟨br, 2, none⟩), .slice a0 d.length c0] (w1.drewN q) fun e w' => e = .returned (.int .u32 (crc d : Nat)) /\ w' = w1.drewN q)) := fun w1 a1 c1 a2 c2 o b1 r1 => by
  have kq : ∀ q, Kept (fun _ => False) w1 (w1.drewN q) := fun q => Kept.drewN (Kept.refl _ _) q
  have hle := b1.le
  rw [List.length_take] at hle
  refine ⟨?_, by omega, h.on o ⟨a2, c2, r1⟩, fun q => ?_⟩
  ·rcases b1.t.2.2 with h0 | ⟨b, off, hb, rfl, hcc⟩
   ·rw [List.length_take] at h0; omega
   ·refine ⟨b, off, rfl, fun q => ?_, fun q => ?_⟩
    ·have b4 := (b1.take 4).kept (kq q) (fun _ _ e => e)
     rw [List.take_take, show min 4 8 = 4 by decide] at b4
     have := leB b4 (by omega)
     rwa [hlen1] at this
    ·have b4 := ((b1.drop (n := 4) (by rw [List.length_take]; omega)).take 4).kept (kq q) (fun _ _ e => e)
     rw [add_at, List.drop_take, List.take_take, show min 4 (8 - 4) = 4 by decide] at b4
     have := leB b4 (by omega)
     rwa [hlen2] at this
  ·refine sumB (B := Bd) ((?_ : Bi w1 Bd a0 c0 d).kept (kq q) (fun _ _ e => e)) (r1.kept (kq q) (fun _ _ e => e) (fun e => e)).tab
   rcases hbd with rfl | ⟨g, rfl, hg⟩
   ·exact Bi.none hd.max hd.nil
   ·refine ⟨⟨rfl, hd.t.2.1, ?_⟩, hd.le, hd.nil, hd.max⟩
    rcases hd.t.2.2 with h0 | ⟨b, off, hb, e, hcc⟩
    ·exact .inl h0
    ·cases e
     refine .inr ⟨g, 0, hb, rfl, fun i hi => ?_⟩
     have := hcc i hi
     rw [Kept.cell o (lt_of_cell this) (fun e => hg e)]
     exact this
 have HE : Hid (gEnd d zs = if le (zs.take 4) = crc d /\ le ((zs.drop 4).take 4) = d.length % 4294967296 then .ok (zs.drop 8) else .error 92) := by show _ = _; rw [gEnd, if_neg (by omega)]
 have e1 : ((le (zs.take 4) : Nat) : Int) % 4294967296 = (le (zs.take 4) : Nat) := by omega
 have e2 : ((le ((zs.drop 4).take 4) : Nat) : Int) % 4294967296 = (le ((zs.drop 4).take 4) : Nat) := by omega
 have e3 : ((d.length : Nat) : Int) % 4294967296 = ((d.length % 4294967296 : Nat) : Int) := by omega
 clear h hr hd hbd hlen1 hlen2
 generalize le (zs.take 4) = N at *
 generalize le ((zs.drop 4).take 4) = M at *
 generalize crc d = K at *
 generalize hDL : d.length = DL at *
 generalize hDM : DL % 4294967296 = DM at *
 clear hDL hDM
 have walk : ∀ {R : Except Int (List Int)}, gEnd d zs = R -> Calls Tryz.prog 26 #[.pointer (some ⟨br, 0, none⟩), .slice a0 DL c0] w (EnOk w B br room R) := by
  intro R hR
  rw [HE.out] at hR
  by_cases hNK : N = K
  ·by_cases hMD : M = DM
   ·rw [if_pos ⟨hNK, hMD⟩] at hR
    subst hR
    clear HE
    subst hNK hMD
    go_enter Tryz.func26, Tryz.ntmps26
    go_upto_region 4 with (go_at_call 41; refine HT.out.mono ?_; rintro e w1 ⟨a1, c1, a2, c2, rfl, b1, r1, o1⟩; have HQ1 := hide (HQ.out w1 a1 c1 a2 c2 o1 b1 r1); clear b1 r1 o1 HT HQ)
    obtain ⟨⟨b, off, rfl, hle1, hle2⟩, hc8, hs1, hsu⟩ := HQ1.out
    have HS1 := hide hs1
    have HL1 := hide hle1
    have HL2 := hide hle2
    have HSU := hide hsu
    have hne : ¬ c1 = 4 := by omega
    clear hs1 hle1 hle2 hsu HQ1
    go_quiet (first | (go_at_call 42; with_reducible exact Calls.quiet_of_same (HL1.out _)) | (go_at_call 42; with_reducible exact Calls.quiet_of_same (HL2.out _)))
    all_goals (go_wp2_with (go_at_call 22; refine (HSU.out _).mono ?_; rintro e w2 ⟨rfl, rfl⟩))
    all_goals go_ret
    all_goals exact .inl ⟨_, rfl, rfl, HS1.out.drewN _⟩
   ·rw [if_neg (fun h => hMD h.2)] at hR
    subst hR
    clear HE
    subst hNK
    have hMD' : ¬ (M : Int) = (DM : Int) := by omega
    go_enter Tryz.func26, Tryz.ntmps26
    go_upto_region 4 with (go_at_call 41; refine HT.out.mono ?_; rintro e w1 ⟨a1, c1, a2, c2, rfl, b1, r1, o1⟩; have HQ1 := hide (HQ.out w1 a1 c1 a2 c2 o1 b1 r1); clear b1 r1 o1 HT HQ)
    obtain ⟨⟨b, off, rfl, hle1, hle2⟩, hc8, hs1, hsu⟩ := HQ1.out
    have HS1 := hide hs1
    have HL1 := hide hle1
    have HL2 := hide hle2
    have HSU := hide hsu
    have hne : ¬ c1 = 4 := by omega
    clear hs1 hle1 hle2 hsu HQ1
    go_quiet (first | (go_at_call 42; with_reducible exact Calls.quiet_of_same (HL1.out _)) | (go_at_call 42; with_reducible exact Calls.quiet_of_same (HL2.out _)))
    all_goals (go_wp2_with (go_at_call 22; refine (HSU.out _).mono ?_; rintro e w2 ⟨rfl, rfl⟩))
    all_goals go_ret
    all_goals exact .inr ⟨92, rfl, by decide, by decide, rfl, (HS1.out.drewN _).low⟩
  ·rw [if_neg (fun h => hNK h.1)] at hR
   subst hR
   clear HE
   have hNK' : ¬ (N : Int) = (K : Int) := by omega
   go_enter Tryz.func26, Tryz.ntmps26
   go_upto_region 4 with (go_at_call 41; refine HT.out.mono ?_; rintro e w1 ⟨a1, c1, a2, c2, rfl, b1, r1, o1⟩; have HQ1 := hide (HQ.out w1 a1 c1 a2 c2 o1 b1 r1); clear b1 r1 o1 HT HQ)
   obtain ⟨⟨b, off, rfl, hle1, hle2⟩, hc8, hs1, hsu⟩ := HQ1.out
   have HS1 := hide hs1
   have HL1 := hide hle1
   have HL2 := hide hle2
   have HSU := hide hsu
   have hne : ¬ c1 = 4 := by omega
   clear hs1 hle1 hle2 hsu HQ1
   go_quiet (first | (go_at_call 42; with_reducible exact Calls.quiet_of_same (HL1.out _)) | (go_at_call 42; with_reducible exact Calls.quiet_of_same (HL2.out _)))
   all_goals (go_wp2_with (go_at_call 22; refine (HSU.out _).mono ?_; rintro e w2 ⟨rfl, rfl⟩))
   all_goals go_ret
   all_goals exact .inr ⟨92, rfl, by decide, by decide, rfl, (HS1.out.drewN _).low⟩
 exact walk rfl
theorem end_c {w : World} {B br : Nat} {zs d : List Int} {room : Int} (h : SR w w B br zs room) {a0 : Option Addr} {c0 Bd : Nat} (hd : Bi w Bd a0 c0 d) (hbd : d = [] \/ ∃ g, a0 = some ⟨g, 0, none⟩ /\ g ≠ br) :
  Calls Tryz.prog 26 #[.pointer (some ⟨br, 0, none⟩), .slice a0 d.length c0] w (EnOk w B br room (gEnd d zs)) := by
 by_cases hl : zs.length < 8
 ·exact end_short h a0 _ c0 hl
 ·exact end_long h hd hbd (by omega)
end Go.Proofs.YteknifnadbmfiaaGreatDoor
