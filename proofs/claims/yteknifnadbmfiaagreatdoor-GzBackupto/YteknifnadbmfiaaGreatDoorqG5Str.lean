/- gz: qG5Str. -/
import Derived.Test.YteknifnadbmfiaaGreatDoorqG4End
import Derived.Test.YteknifnadbmfiaaGreatDoorpAg12HPut
import Derived.Deep.RegionWith
namespace Go.Proofs.YteknifnadbmfiaaGreatDoor
set_option maxRecDepth 100000
open Go Go.RowKit

def SgOk (w : World) (B br : Nat) (left : Nat) (r : Except Int (List Int × List Int)) (e : Ending) (w' : World) : Prop :=
 (∃ d ys o oc, r = .ok (d, ys) /\ e = .returned (.tuple #[.slice o d.length oc, .int .i64 0]) /\ OwnsB w' w.heap.size (.slice o d.length oc) d /\ SR w w' B br ys ((left : Int) - d.length) /\ d.length <= left /\ ∀ x ∈ d, 0 <= x /\ x <= 255) \/ (∃ er, r = .error er /\ 90 <= er /\ er <= 93 /\ e = .returned (.tuple #[.slice none 0 0, .int .i64 er]) /\ On br w w')
theorem RdAt.put1 {w : World} {B br : Nat} {zs : List Int} {room r2 : Int} {a : Option Addr} {cap : Nat} (h : RdAt w B br zs room a cap) : RdAt (w.setCell ⟨br, 1, none⟩ (.int .i64 r2)) B br zs r2 a cap /\ On br w (w.setCell ⟨br, 1, none⟩ (.int .i64 r2)) := by
 have k : On br w (w.setCell ⟨br, 1, none⟩ (.int .i64 r2)) := (Kept.refl (fun b => b = br) w).setCell (p := ⟨br, 1, none⟩) (fun _ => rfl) _
 refine ⟨⟨?_, h.b.kept k (fun b h1 e => by have := h.lt; omega), h.lt⟩, k⟩
 rw [set_of h.h, rdA_set1]
theorem gStream_ok {left : Nat} {r : List Int} (h : (iAns r left).2.2 = 0) : gStream left r = .ok ((iAns r left).1, r.drop (iAns r left).2.1) := by rw [gStream, if_pos h]
theorem gStream_bad {left : Nat} {r : List Int} (h : (iAns r left).2.2 ≠ 0) : gStream left r = .error (gErr (iAns r left).2.2) := by rw [gStream, if_neg h]
theorem gErr_lt (e : Int) : 90 <= gErr e /\ gErr e <= 93 := by unfold gErr; split <;> (try split) <;> omega
structure SgMid (w wx : World) (B br : Nat) (zs d : List Int) (left : Nat) (a o : Option Addr) (c oc : Nat) : Prop where
 rd : RdAt wx B br zs left a c
 low : On br w wx
 own : OwnsB wx w.heap.size (.slice o d.length oc) d
theorem SgMid.put {w wx : World} {B br : Nat} {zs d ys : List Int} {left : Nat} {a o a' : Option Addr} {c oc c' : Nat} (h : SgMid w wx B br zs d left a o c oc) (hbr : br < w.heap.size) (hbi : Bi wx B a' c' ys) (r2 : Int) :
  ((wx.cell? ⟨br, 0, none⟩ = some (.slice a zs.length c) /\ wx.frozen? ⟨br, 0, none⟩ = false) /\ (wx.setCell ⟨br, 0, none⟩ (.slice a' ys.length c')).cell? ⟨br, 1, none⟩ = some (.int .i64 (left : Int)) /\ (wx.setCell ⟨br, 0, none⟩ (.slice a' ys.length c')).frozen? ⟨br, 1, none⟩ = false) /\
  OwnsB ((wx.setCell ⟨br, 0, none⟩ (.slice a' ys.length c')).setCell ⟨br, 1, none⟩ (.int .i64 r2)) w.heap.size (.slice o d.length oc) d /\ SR w ((wx.setCell ⟨br, 0, none⟩ (.slice a' ys.length c')).setCell ⟨br, 1, none⟩ (.int .i64 r2)) B br ys r2 := by
 obtain ⟨h2, o2⟩ := h.rd.put hbi
 obtain ⟨h3, o3⟩ := h2.put1 (r2 := r2)
 have hS : SR w wx B br zs left := ⟨⟨a, c, h.rd⟩, h.low⟩
 refine ⟨⟨⟨(cells_of h.rd.h 0).trans (rdA_0 _ _), free_of h.rd.h 0⟩, (cells_of h2.h 1).trans (rdA_1 _ _), free_of h2.h 1⟩, ?_, (hS.on o2 ⟨_, _, h2⟩).on o3 ⟨_, _, h3⟩⟩
 refine ownsRow_kept (ownsRow_kept h.own o2 ?_) o3 ?_
 ·intro g hg e
  have := (ownsRow_lt h.own hg).1
  omega
 ·intro g hg e
  have := (ownsRow_lt h.own hg).1
  omega
set_option maxHeartbeats 8000000 in
theorem gstream_c {w : World} {B br : Nat} {zs : List Int} {left : Nat} (h : SR w w B br zs left) (hT : Tab w) (hl : zs.length <= 140737488351232) (hm : left <= 10000000) (hB : B <= br) :
  Calls Tryz.prog 25 #[.pointer (some ⟨br, 0, none⟩)] w (SgOk w B br left (gStream left zs)) := by
 obtain ⟨a, c, hrd⟩ := h.rd
 have c0 := cells_of hrd.h 0
 have c1 := cells_of hrd.h 1
 rw [rdA_0] at c0
 rw [rdA_1] at c1
 have hle := hrd.b.le
 have hmx := hrd.b.max
 have hrd' := iAns_read zs left
 have hby := iAns_by zs left
 have hbr := lt_of_block hrd.h
 have HI : Hid (∀ q, Calls Tryz.prog 40 #[.slice a zs.length c, .int .i64 (left : Int)] (w.drewN q) fun x w' => ∃ o oc, x = .returned (.tuple #[.slice o (iAns zs left).1.length oc, .int .i64 ((iAns zs left).2.1 : Int), .int .i64 (iAns zs left).2.2]) /\ SgMid w w' B br zs (iAns zs left).1 left a o c oc) := fun q => by
  have kq : Kept (fun _ => False) w (w.drewN q) := Kept.drewN (Kept.refl _ _) q
  have hb := hrd.b.kept kq (fun _ _ e => e)
  have hsz : B <= w.heap.size := by omega
  refine (inflate_c a zs.length c zs (left : Int) (w.drewN q) (hb.up hsz).t (hT.kept kq ⟨fun e => e, fun e => e⟩) hl hle (by omega)).mono ?_
  rintro x w' ⟨o, oc, rfl, ho, hbl⟩
  rw [Int.toNat_natCast] at ho ⊢
  have k1 : Kept (fun b => w.heap.size <= b) w w' := (Kept.drewN (Kept.refl (fun b => w.heap.size <= b) w) q).trans (Kept.of_below hbl) (fun _ _ e => e)
  exact ⟨o, oc, rfl, hrd.kept k1 (fun b hb' e => by omega) (fun e => by omega), k1.mono (fun i hi e => by omega), ho⟩
 have HG : Hid ((iAns zs left).2.2 = 0 /\ gStream left zs = .ok ((iAns zs left).1, zs.drop (iAns zs left).2.1) \/ (iAns zs left).2.2 ≠ 0 /\ gStream left zs = .error (gErr (iAns zs left).2.2)) := by
  by_cases hr : (iAns zs left).2.2 = 0
  ·exact .inl ⟨hr, gStream_ok hr⟩
  ·exact .inr ⟨hr, gStream_bad hr⟩
 generalize (iAns zs left).1 = d at *
 generalize (iAns zs left).2.1 = NR at *
 generalize (iAns zs left).2.2 = E at *
 have hdl := hby.1
 have HDB := hide hby.2
 have hdl' : (d.length : Int) <= left := by omega
 have hlm : (left : Int) <= 10000000 := by omega
 have hNRc : NR <= c := by omega
 clear h hT hrd hby
 go_enter Tryz.func25, Tryz.ntmps25
 go_upto_region 1 with fail
 go_cut [4, 5, 6] (fun v4 v5 v6 wx => ∃ o oc, v4 = .slice o d.length oc /\ v5 = .int .i64 (NR : Int) /\ v6 = .int .i64 E /\ Hid (SgMid w wx B br zs d left a o c oc))
 case first =>
  go_region_with (go_at_call 40; refine (HI.out _).mono ?_; rintro e w1 ⟨o, oc, rfl, m1⟩; have M1 := hide m1; clear m1)
  all_goals go_wp2_with fail
  all_goals go_meet
  all_goals exact ⟨o, oc, rfl, rfl, rfl, M1.out⟩
 case rest =>
  obtain ⟨o, oc, rfl, rfl, rfl, HM⟩ := hcut
  clear HI c0 c1
  rcases HG.out with ⟨rfl, hg⟩ | ⟨hE, hg⟩
  ·have HE := hide hg
   clear hg HG
   have HR : Hid (∀ wx a' c', SgMid w wx B br zs d left a o c oc -> Bi wx B a' c' (zs.drop NR) -> (((wx.cell? ⟨br, 0, none⟩ = some (.slice a zs.length c) /\ wx.frozen? ⟨br, 0, none⟩ = false) /\ (wx.setCell ⟨br, 0, none⟩ (.slice a' (zs.length - NR) c')).cell? ⟨br, 1, none⟩ = some (.int .i64 (left : Int)) /\ (wx.setCell ⟨br, 0, none⟩ (.slice a' (zs.length - NR) c')).frozen? ⟨br, 1, none⟩ = false)) /\ SgOk w B br left (gStream left zs) (.returned (.tuple #[.slice o d.length oc, .int .i64 0])) ((wx.setCell ⟨br, 0, none⟩ (.slice a' (zs.length - NR) c')).setCell ⟨br, 1, none⟩ (.int .i64 ((left : Int) - d.length)))) := fun wx a' c' hm hbi => by
    have := hm.put hbr hbi ((left : Int) - d.length)
    rw [List.length_drop] at this
    exact ⟨this.1, .inl ⟨d, zs.drop NR, o, oc, HE.out, rfl, this.2.1, this.2.2, hdl, HDB.out⟩⟩
   clear HE HDB
   cases a with
   | none =>
    have hz := HM.out.rd.b.nil0
    obtain ⟨rfl, rfl⟩ := hz
    obtain rfl : NR = 0 := by simpa using hrd'
    obtain ⟨⟨⟨q1, q2⟩, q3, q4⟩, q5⟩ := HR.out _ none 0 HM.out HM.out.rd.b
    have Q5 := hide q5
    simp only [List.length_nil, Nat.sub_zero] at q1 q3 q4 Q5 ⊢
    clear q5 HR HM
    go_wp2_with fail
    go_ret2
    exact Q5.out
   | some ad =>
    by_cases hcn : c = NR
    ·have hz0 : zs.length - NR = 0 := by omega
     have hzn : zs.drop NR = [] := List.eq_nil_of_length_eq_zero (by simp; omega)
     obtain ⟨⟨⟨q1, q2⟩, q3, q4⟩, q5⟩ := HR.out _ (some ad) 0 HM.out (by rw [hzn]; exact Bi.none (by omega) (by simp))
     have Q5 := hide q5
     rw [hz0] at q3 q4 Q5
     have hzl : zs.length = NR := by omega
     clear q5 HR HM hzn
     subst hcn
     go_wp2_with fail
     go_ret2
     exact Q5.out
    ·obtain ⟨⟨⟨q1, q2⟩, q3, q4⟩, q5⟩ := HR.out _ (some (ad.add NR)) (c - NR) HM.out (HM.out.rd.b.drop hrd')
     have Q5 := hide q5
     clear q5 HR HM
     go_wp2_with fail
     go_ret2
     exact Q5.out
  ·have HL := hide HM.out.low
   have HR : Hid (∀ w' er, gErr E = er -> On br w w' -> SgOk w B br left (gStream left zs) (.returned (.tuple #[.slice none 0 0, .int .i64 er])) w') := fun w' er he hb => .inr ⟨er, by rw [hg, he], by rw [<- he]; exact (gErr_lt E).1, by rw [<- he]; exact (gErr_lt E).2, rfl, hb⟩
   clear hg HG HM HDB
   by_cases h60 : E = 60
   ·subst h60
    go_wp2_with fail
    go_ret2
    exact HR.out _ 90 rfl HL.out
   by_cases h65 : E = 65
   ·subst h65
    go_wp2_with fail
    go_ret2
    exact HR.out _ 93 rfl HL.out
   ·have HG : Hid (gErr E = 91) := by show _ = _; simp [gErr, h60, h65]
    go_wp2_with fail
    go_ret2
    exact HR.out _ 91 HG.out HL.out
end Go.Proofs.YteknifnadbmfiaaGreatDoor
