/- gz: qTheBack. -/
import Derived.Test.YteknifnadbmfiaaGreatDoorqGaWt
import Derived.Test.YteknifnadbmfiaaGreatDoorqGcLaid
import Derived.Test.YteknifnadbmfiaaGreatDoorqG7Rd
import Derived.DeepKeys
namespace Go.Proofs.YteknifnadbmfiaaGreatDoor
set_option maxRecDepth 100000
open Go Go.RowKit
set_option linter.unusedVariables false

theorem uB_leP (v n : Nat) : uB (leP v n) = F.putN v n := by
 unfold uB leP
 rw [List.map_map]
 conv => rhs; rw [<- List.map_id (F.putN v n)]
 exact List.map_congr_left fun b _ => by simp
theorem leN_put9 : ∀ (m v : Nat), F.leN (F.putN v m) = v % 256 ^ m
 | 0, v => by simp [F.putN, F.leN, Nat.mod_one]
 | m + 1, v => by
  unfold F.putN F.leN
  rw [leN_put9 m, F.byte_of, Nat.pow_succ, Nat.mul_comm (256 ^ m), Nat.mod_mul]
theorem le_leP (v n : Nat) : le (leP v n) = v % 256 ^ n := by unfold le; rw [uB_leP, leN_put9]
theorem fl_ok : ∀ b1 b4 b8 b16 : Bool, gB (flN b1 b4 b8 b16) 1 = b1 /\ gB (flN b1 b4 b8 b16) 2 = false /\ gB (flN b1 b4 b8 b16) 4 = b4 /\ gB (flN b1 b4 b8 b16) 8 = b8 /\ gB (flN b1 b4 b8 b16) 16 = b16 := by decide
def gTl (m : Mb) : List Int := xtr m.extra ++ txt m.name ++ txt m.comment
def gTen (m : Mb) : List Int := [31, 139, 8] ++ [(fls m : Int)] ++ leP m.time 4 ++ [0, 255]
theorem gHd_two (m : Mb) : gHd m = gTen m ++ gTl m := by unfold gHd gTen gTl; simp
theorem gTen_length (m : Mb) : (gTen m).length = 10 := by unfold gTen; simp [leP_length]
theorem leP4 (v : Nat) : leP v 4 = [((UInt8.ofNat (v % 256)).toNat : Int), ((UInt8.ofNat (v / 256 % 256)).toNat : Int), ((UInt8.ofNat (v / 256 / 256 % 256)).toNat : Int), ((UInt8.ofNat (v / 256 / 256 / 256 % 256)).toNat : Int)] := rfl
theorem ten_mark (m : Mb) (r : List Int) : gMark (gTen m ++ r) /\ gFl (gTen m ++ r) = fls m /\ (gTen m ++ r).drop 10 = r /\ ((gTen m ++ r).drop 4).take 4 = leP m.time 4 := by
 have h := fls_lt m
 unfold gTen gMark gFl
 rw [leP4]
 refine ⟨⟨rfl, rfl, rfl, ?_⟩, ?_, rfl, rfl⟩
 ·show ((fls m : Nat) : Int) < 32
  omega
 ·show ((fls m : Nat) : Int).toNat = fls m
  omega
theorem ten_first (m : Mb) (r : List Int) : gFirst (gTen m ++ r) = .ok r := by
 obtain ⟨h1, _, h3, _⟩ := ten_mark m r
 rw [gFirst, if_neg (by rw [List.length_append, gTen_length]; omega), if_pos h1, h3]
theorem ten_time (m : Mb) (r : List Int) (ht : m.time < 4294967296) : gTime (gTen m ++ r) = m.time := by
 unfold gTime
 rw [(ten_mark m r).2.2.2, le_leP]
 omega
theorem extra_back (s : ByteArray) (r : List Int) (h : s.size <= 65535) : gExtra (has s) (xtr s ++ r) = .ok (s, r) := by
 unfold xtr has
 by_cases h0 : s.size = 0
 ·rw [if_pos h0]
  simp only [h0, ne_eq, not_true_eq_false, decide_false, List.nil_append]
  rw [gExtra_false, str_empty h0]
  rfl
 ·rw [if_neg h0]
  have e1 : ((leP s.size 2 ++ sB s ++ r).take 2) = leP s.size 2 := by rw [List.append_assoc, List.take_left' (leP_length _ _)]
  have e2 : ((leP s.size 2 ++ sB s ++ r).drop 2) = sB s ++ r := by rw [List.append_assoc, List.drop_left' (leP_length _ _)]
  have e3 : le (leP s.size 2) = s.size := by rw [le_leP]; omega
  simp only [ne_eq, h0, not_false_eq_true, decide_true]
  unfold gExtra
  rw [if_pos rfl, e1, e2, e3, if_neg (by rw [List.length_append, List.length_append, leP_length, sB_length]; omega), if_neg (by rw [List.length_append, List.length_append, leP_length, sB_length]; omega)]
  rw [List.take_left' (sB_length s), List.drop_left' (sB_length s), nums_sB]
theorem text_back (s : ByteArray) (r : List Int) (h : nul s = false) : gText (has s) (txt s ++ r) = .ok (s, r) := by
 unfold txt has
 by_cases h0 : s.size = 0
 ·rw [if_pos h0]
  simp only [h0, ne_eq, not_true_eq_false, decide_false, List.nil_append]
  rw [gText_false, str_empty h0]
  rfl
 ·rw [if_neg h0]
  simp only [ne_eq, h0, not_false_eq_true, decide_true]
  unfold gText
  have hz : ∀ x ∈ sB s, x ≠ 0 := fun x hx e => of_decide_eq_false h (e ▸ hx)
  rw [if_pos rfl, List.append_assoc, List.singleton_append, gLine_some hz]
  simp only
  rw [nums_sB]
theorem texts_back (m : Mb) (r : List Int) (h : gMay m) : gTexts (fls m) (gTl m ++ r) = .ok (m.name, m.comment, m.extra, r) := by
 obtain ⟨h1, h2, h3⟩ := h
 obtain ⟨_, _, f4, f8, f16⟩ := fl_ok m.text (has m.extra) (has m.name) (has m.comment)
 have e1 : gExtra (gB (fls m) 4) (gTl m ++ r) = .ok (m.extra, txt m.name ++ (txt m.comment ++ r)) := by
  unfold fls gTl
  rw [f4, List.append_assoc, List.append_assoc]
  exact extra_back _ _ h3
 have e2 : gText (gB (fls m) 8) (txt m.name ++ (txt m.comment ++ r)) = .ok (m.name, txt m.comment ++ r) := by
  unfold fls; rw [f8]; exact text_back _ _ h1
 have e3 : gText (gB (fls m) 16) (txt m.comment ++ r) = .ok (m.comment, r) := by
  unfold fls; rw [f16]; exact text_back _ _ h2
 exact gTexts_ok e1 e2 e3
theorem head_back (m : Mb) (r : List Int) (h : gMay m) (ht : m.time < 4294967296) : gHead (gHd m ++ r) = .ok ({ m with data := .empty }, r) := by
 have f2 := (fl_ok m.text (has m.extra) (has m.name) (has m.comment)).2.1
 have f1 := (fl_ok m.text (has m.extra) (has m.name) (has m.comment)).1
 rw [gHd_two, List.append_assoc]
 have hfl := (ten_mark m (gTl m ++ r)).2.1
 have e2 : gTexts (gFl (gTen m ++ (gTl m ++ r))) (gTl m ++ r) = .ok (m.name, m.comment, m.extra, r) := by rw [hfl]; exact texts_back m r h
 have e3 : gSum (gB (gFl (gTen m ++ (gTl m ++ r))) 2) (gTen m ++ (gTl m ++ r)) r = .ok r := by
  rw [hfl]; unfold fls; rw [f2]; simp [gSum]
 rw [gHead_4 (ten_first m _) e2 e3, ten_time m _ ht, hfl]
 unfold fls
 rw [f1]
theorem foot_back (d r : List Int) : gEnd d (gFt d ++ r) = .ok r := by
 have hc := crc_lt d
 have e1 : (gFt d ++ r).take 4 = leP (crc d) 4 := by unfold gFt; rw [List.append_assoc, List.take_left' (leP_length _ _)]
 have e2 : ((gFt d ++ r).drop 4).take 4 = leP (d.length % 4294967296) 4 := by unfold gFt; rw [List.append_assoc, List.drop_left' (leP_length _ _), List.take_left' (leP_length _ _)]
 have e3 : (gFt d ++ r).drop 8 = r := by rw [List.drop_left' (by unfold gFt; simp [leP_length])]
 rw [gEnd, if_neg (by unfold gFt; simp [leP_length]; omega), e1, e2, e3, le_leP, le_leP, if_pos ⟨by omega, by omega⟩]
theorem stream_back {zs X r : List Int} (h : iAns X zs.length = (zs, X.length, 0)) (left : Nat) (hl : zs.length <= left) : gStream left (X ++ r) = .ok (zs, r) := by
 have h1 : iAns X left = (zs, X.length, 0) := by
  rcases iAns_most X zs.length (left - zs.length) with h' | h'
  ·rw [h] at h'; simp at h'
  ·rw [show zs.length + (left - zs.length) = left by omega] at h'
   rw [h', h]
 have h2 : iAns (X ++ r) left = (zs, X.length, 0) := by
  rcases iAns_more X r left with h' | h'
  ·rw [h1] at h'; simp at h'
  ·rw [h', h1]
 rw [gStream, h2]
 simp
theorem Mb.eta (m : Mb) : ({ m with data := strOfNums (sB m.data) } : Mb) = m := by rw [nums_sB]
theorem gMember_4' {left : Nat} {r r1 r2 r3 d : List Int} {m : Mb} (h : gHead r = .ok (m, r1)) (h2 : gStream left r1 = .ok (d, r2)) (h3 : gEnd d r2 = .ok r3) : gMember left r = .ok ({ m with data := strOfNums d }, r3) := by simp [gMember, h, h2, h3]
theorem member_back (m : Mb) (X r : List Int) (h : gMay m) (ht : m.time < 4294967296) (hX : iAns X (sB m.data).length = (sB m.data, X.length, 0)) (left : Nat) (hl : m.data.size <= left) : gMember left (gHd m ++ X ++ gFt (sB m.data) ++ r) = .ok (m, r) := by
 have e1 := head_back m (X ++ (gFt (sB m.data) ++ r)) h ht
 have e2 := stream_back (r := gFt (sB m.data) ++ r) hX left (by rw [sB_length]; exact hl)
 rw [List.append_assoc, List.append_assoc, gMember_4' e1 e2 (foot_back _ r)]
 congr 2
 exact Mb.eta m
/-! Cut off. -/
theorem txt_mem (s : ByteArray) : ∀ x ∈ txt s, 0 <= x /\ x <= 255 := fun x hx => by
 unfold txt at hx
 split at hx
 ·simp at hx
 ·rcases List.mem_append.1 hx with h | h
  ·exact sB_mem s x h
  ·simp at h; omega
theorem xtr_mem (s : ByteArray) : ∀ x ∈ xtr s, 0 <= x /\ x <= 255 := fun x hx => by
 unfold xtr at hx
 split at hx
 ·simp at hx
 ·rcases List.mem_append.1 hx with h | h
  ·exact leP_mem _ _ x h
  ·exact sB_mem s x h
theorem gAll_mem (m : Mb) {X : List Int} (hX : ∀ x ∈ X, 0 <= x /\ x <= 255) : ∀ x ∈ gHd m ++ X ++ gFt (sB m.data), 0 <= x /\ x <= 255 := fun x hx => by
 have hf := fls_lt m
 unfold gHd gFt at hx
 simp only [List.mem_append] at hx
 rcases hx with ((((((((h | h) | h) | h) | h) | h) | h)) | h) | h | h
 ·simp at h; omega
 ·simp at h; omega
 ·exact leP_mem _ _ x h
 ·simp at h; omega
 ·exact xtr_mem _ x h
 ·exact txt_mem _ x h
 ·exact txt_mem _ x h
 ·exact hX x h
 ·exact leP_mem _ _ x h
 ·exact leP_mem _ _ x h
theorem gRead_bad {zs : List Int} {most e : Int} (h : gMember most.toNat zs = .error e) : gRead zs most = .error e := by
 rw [gRead, gRd, h]
end Go.Proofs.YteknifnadbmfiaaGreatDoor

namespace Go.Proofs.YteknifnadbmfiaaGreatDoor
set_option maxRecDepth 100000
open Go Go.RowKit
set_option linter.unusedVariables false

structure MkB (m : Mb) (Y : List Int) : Prop where
 may : gMay m
 time : m.time < 4294967296
 byt : ∀ x ∈ Y, 0 <= x /\ x <= 255
 is_ : ∃ X, Y = gHd m ++ X ++ gFt (sB m.data) /\ iAns X (sB m.data).length = (sB m.data, X.length, 0)
def bsL (L : List (Mb × List Int)) : List Int := L.flatMap fun p => p.2
def msL (L : List (Mb × List Int)) : List Mb := L.map fun p => p.1
def szL : List (Mb × List Int) -> Nat
 | [] => 0
 | p :: r => p.1.data.size + szL r
theorem bsL_push (L : List (Mb × List Int)) (p : Mb × List Int) : bsL (L ++ [p]) = bsL L ++ p.2 := by simp [bsL]
theorem msL_push (L : List (Mb × List Int)) (p : Mb × List Int) : msL (L ++ [p]) = msL L ++ [p.1] := by simp [msL]
theorem szL_push (L : List (Mb × List Int)) (p : Mb × List Int) : szL (L ++ [p]) = szL L + p.1.data.size := by
 induction L with
 | nil => simp [szL]
 | cons q r ih => simp only [List.cons_append, szL, ih]; omega
theorem MkB.len {m : Mb} {Y : List Int} (h : MkB m Y) : 0 < Y.length := by
 obtain ⟨X, rfl, _⟩ := h.is_
 rw [gHd_two]
 simp only [List.length_append, gTen_length]
 omega
theorem bsL_len {L : List (Mb × List Int)} (h : ∀ p ∈ L, MkB p.1 p.2) : L.length <= (bsL L).length := by
 induction L with
 | nil => simp [bsL]
 | cons p r ih =>
  have h1 := (h p (by simp)).len
  have h2 := ih (fun q hq => h q (by simp [hq]))
  show r.length + 1 <= (p.2 ++ bsL r).length
  rw [List.length_append]
  omega
theorem bsL_byt {L : List (Mb × List Int)} (h : ∀ p ∈ L, MkB p.1 p.2) : ∀ x ∈ bsL L, 0 <= x /\ x <= 255 := fun x hx => by
 simp only [bsL, List.mem_flatMap] at hx
 obtain ⟨p, hp, hx⟩ := hx
 exact (h p hp).byt x hx
theorem mk_back {m : Mb} {Y : List Int} (h : MkB m Y) (r : List Int) (left : Nat) (hl : m.data.size <= left) : gMember left (Y ++ r) = .ok (m, r) := by
 obtain ⟨X, rfl, hX⟩ := h.is_
 exact member_back m X r h.may h.time hX left hl
theorem gRd_back : ∀ (L : List (Mb × List Int)) (k left : Nat) (acc : List Mb), L ≠ [] -> (∀ p ∈ L, MkB p.1 p.2) -> L.length <= k -> szL L <= left -> gRd k left (bsL L) acc = .ok (acc ++ msL L)
 | [], _, _, _, hn, _, _, _ => absurd rfl hn
 | p :: r, 0, _, _, _, _, hk, _ => by simp at hk
 | p :: r, k + 1, left, acc, _, h, hk, hs => by
  have hp := h p (by simp)
  have hr : ∀ q ∈ r, MkB q.1 q.2 := fun q hq => h q (by simp [hq])
  have hsz : p.1.data.size + szL r <= left := hs
  have hm := mk_back hp (bsL r) left (by omega)
  show gRd (k + 1) left (p.2 ++ bsL r) acc = _
  unfold gRd
  rw [hm]
  by_cases h0 : r = []
  ·subst h0
   simp [bsL, msL]
  ·have hne : bsL r ≠ [] := fun e => by
    have := bsL_len hr
    rw [e] at this
    simp only [List.length_nil] at this
    exact h0 (List.eq_nil_of_length_eq_zero (by omega))
   simp only [if_neg hne]
   rw [gRd_back r k (left - p.1.data.size) (acc ++ [p.1]) h0 hr (by simp at hk; omega) (by omega)]
   simp [msL]
theorem gRead_back {L : List (Mb × List Int)} (hn : L ≠ []) (h : ∀ p ∈ L, MkB p.1 p.2) (hs : szL L <= 100000) : gRead (bsL L) 100000 = .ok (msL L) := by
 have := gRd_back L ((bsL L).length + 1) 100000 [] hn h (by have := bsL_len h; omega) hs
 simpa [gRead] using this
theorem gRead_none : gRead [] 100000 = .error 90 := gRead_bad (by simp [gMember, gHead, gFirst])
end Go.Proofs.YteknifnadbmfiaaGreatDoor

namespace Go.Proofs.YteknifnadbmfiaaGreatDoor
set_option maxRecDepth 100000
open Go.ChangeShapes Go.WideShapes Go.ChangeAt Go.RowKit
set_option linter.unusedVariables false

def MemsIn (W : World) (a : Option Addr) (ms : List Mb) : Prop :=
 ms.length = 0 \/ ∃ b off, b < W.heap.size /\ a = some ⟨b, off, none⟩ /\ ∀ i m, ms[i]? = some m -> (∀ j u, m.cells[j]? = some u -> W.cell? ⟨b, off + i * 6 + j, none⟩ = some u) /\ m.time < 4294967296 /\ m.name.size + m.comment.size + m.extra.size + m.data.size <= 1048576
theorem bulk_in {H : Type} {l : List (DataW H)} {d : DataW H} (h : d ∈ l) : Rows.uptoBulk d <= Rows.uptoBulkAll l := by
 induction l with
 | nil => simp at h
 | cons x r ih =>
  simp only [Rows.uptoBulkAll]
  rcases List.mem_cons.1 h with rfl | h'
  ·omega
  ·have := ih h'; omega
instance : Inhabited Mb := ⟨mb0⟩
theorem open_mems {H : Type} {enc : TypeId × Value -> H} {W : World} {a : Option Addr} {len cap : Nat} {d : DataW H} {p : List MemPlace} (h : DataW.Trod enc Tryz.prog W 0 (fun _ => true) true 22 (.slice a len cap) d p) (hk : Rows.uptoBulk d <= 1048576) : ∃ ms, len = ms.length /\ MemsIn W a ms := by
 obtain ⟨fuel, hf⟩ := h
 rcases Deep.open_slice Tryz.underlying22 hf with ⟨hcs, _⟩ | ⟨ad, l, c, m, n, D, Pl, hcs, _, hl, hm, hmm, hx, hall⟩
 ·simp [Value.cells] at hcs
  obtain ⟨rfl, rfl, rfl⟩ := hcs
  exact ⟨[], rfl, .inl rfl⟩
 ·simp [Value.cells] at hcs
  obtain ⟨rfl, rfl, rfl⟩ := hcs
  have hmc : m = cap := by simpa using hmm
  subst hmc
  have hx' := congrArg Prod.fst hx
  simp only at hx'
  subst hx'
  simp only [Rows.uptoBulk] at hk
  by_cases h0 : len = 0
  ·exact ⟨[], h0, .inl rfl⟩
  ·obtain ⟨b, off, spot⟩ := ad
   rw [cells_Mem] at hall
   obtain ⟨cs0, hc0, _⟩ := hall 0 (by omega)
   obtain ⟨_, hl0, hcell0⟩ := World.cells?_some hc0
   have q0 := hcell0 0 (by omega)
   have hs0 : ∃ u, W.cell? (((⟨b, off, spot⟩ : Addr).add (0 * 6)).add 0) = some u := ⟨_, q0.trans (List.getElem?_eq_getElem (by omega))⟩
   obtain ⟨u0, hu0⟩ := hs0
   have hspot : spot = none := by simpa [Addr.add] using World.cell?_spot hu0
   subst hspot
   have hb : b < W.heap.size := by
    have := lt_of_cell hu0
    simpa [Addr.add] using this
   obtain ⟨f, hfs⟩ := Deep.choose_lt (n := len) (p := fun i (m : Mb) => (∀ j u, m.cells[j]? = some u -> W.cell? ⟨b, off + i * 6 + j, none⟩ = some u) /\ m.time < 4294967296 /\ m.name.size + m.comment.size + m.extra.size + m.data.size <= 1048576) (fun i hi => by
    obtain ⟨cs, hc, ht⟩ := hall i (by omega)
    obtain ⟨m', hcs', htm, hxm⟩ := trod_mem ht
    obtain ⟨_, hl', hcell⟩ := World.cells?_some hc
    refine ⟨m', fun j u hj => ?_, htm, ?_⟩
    ·have hj' : cs[j]? = some u := by rw [hcs', Array.getElem?_toList]; exact hj
     have hjl : j < cs.length := by
      rcases Nat.lt_or_ge j cs.length with h' | h'
      ·exact h'
      ·rw [List.getElem?_eq_none h'] at hj'; cases hj'
     have := hcell j (by omega)
     rw [add_at, add_at] at this
     rw [this]; exact hj'
    ·have hD : D i ∈ (List.range len).map D := List.mem_map.2 ⟨i, by simpa using hi, rfl⟩
     have hle := bulk_in hD
     simp only at hxm
     rw [hxm] at hle
     simp only [Rows.uptoBulk, Rows.uptoBulkAll, Array.length_toList] at hle
     have e : ∀ s : ByteArray, s.size = s.data.size := fun s => rfl
     simp only [e]
     omega)
   refine ⟨(List.range len).map f, by simp, .inr ⟨b, off, hb, rfl, fun i m hr => ?_⟩⟩
   have hi : i < len := by
    rcases Nat.lt_or_ge i len with h' | h'
    ·exact h'
    ·rw [List.getElem?_eq_none (by simpa using h')] at hr; cases hr
   have hfr : f i = m := by simpa [hi] using hr
   have := hfs i hi
   rw [hfr] at this
   exact this
theorem mbsL_at : ∀ (ms : List Mb) (i j : Nat), j < 6 -> (mbL ms)[i * 6 + j]? = (ms[i]?).bind fun m => m.cells[j]?
 | [], i, j, _ => by simp [mbL]
 | m :: r, 0, j, hj => by
  have hl : m.cells.toList.length = 6 := rfl
  show (m.cells.toList ++ mbL r)[0 * 6 + j]? = _
  rw [List.getElem?_append_left (by omega), show 0 * 6 + j = j by omega, Array.getElem?_toList]
  rfl
 | m :: r, i + 1, j, hj => by
  have hl : m.cells.toList.length = 6 := rfl
  show (m.cells.toList ++ mbL r)[(i + 1) * 6 + j]? = _
  rw [List.getElem?_append_right (by omega), hl, show (i + 1) * 6 + j - 6 = i * 6 + j by omega, mbsL_at r i j hj]
  rfl
def MbsAt (w : World) (g : Nat) (ms : List Mb) : Prop := ∀ i m, ms[i]? = some m -> ∀ j u, m.cells[j]? = some u -> w.cell? ⟨g, i * 6 + j, none⟩ = some u
theorem OwnsMb.at_ {w : World} {base : Nat} {a : Option Addr} {n c : Nat} {ms : List Mb} (h : OwnsMb w base (.slice a n c) ms) (hn : ms ≠ []) : ∃ g, a = some ⟨g, 0, none⟩ /\ g < w.heap.size /\ MbsAt w g ms := by
 rcases h.2 with ⟨_, h2⟩ | ⟨g, cap, cur, e, hb, hh, _⟩
 ·exact absurd (List.eq_nil_of_length_eq_zero h2) hn
 ·simp only [Value.slice.injEq] at e
  obtain ⟨rfl, rfl, rfl⟩ := e
  refine ⟨g, rfl, lt_of_block hh, fun i m hm j u hu => ?_⟩
  have hi : i < ms.length := by
   rcases Nat.lt_or_ge i ms.length with h' | h'
   ·exact h'
   ·rw [List.getElem?_eq_none h'] at hm; cases hm
  have hj : j < 6 := by
   rcases Nat.lt_or_ge j 6 with h' | h'
   ·exact h'
   ·have : m.cells.size = 6 := rfl
    rw [Array.getElem?_eq_none (by omega)] at hu; cases hu
  rw [World.ownsRow.cellAt h (i * 6 + j) (by omega), mbsL_at ms i j hj, hm]
  exact hu
theorem MbsAt.six {w : World} {g : Nat} {ms : List Mb} (h : MbsAt w g ms) {i : Nat} {m : Mb} (hm : ms[i]? = some m) :
  w.cell? ⟨g, i * 6, none⟩ = some (.string m.name) /\ w.cell? ⟨g, i * 6 + 1, none⟩ = some (.string m.comment) /\ w.cell? ⟨g, i * 6 + 2, none⟩ = some (.string m.extra) /\ w.cell? ⟨g, i * 6 + 3, none⟩ = some (.int .u32 (m.time : Int)) /\ w.cell? ⟨g, i * 6 + 4, none⟩ = some (.bool m.text) /\ w.cell? ⟨g, i * 6 + 5, none⟩ = some (.string m.data) :=
 ⟨h i m hm 0 _ rfl, h i m hm 1 _ rfl, h i m hm 2 _ rfl, h i m hm 3 _ rfl, h i m hm 4 _ rfl, h i m hm 5 _ rfl⟩
set_option maxHeartbeats 4000000 in
theorem same_c (ga gb ca cb : Nat) (ms : List Mb) (w : World) (ha : MbsAt w ga ms) (hb : MbsAt w gb ms) (hn : ms.length <= 1000) :
  Calls Tryz.prog 7 #[.slice (some ⟨ga, 0, none⟩) ms.length ca, .slice (some ⟨gb, 0, none⟩) ms.length cb] w fun e w' => e = .returned (.bool true) /\ Kept (fun _ => False) w w' := by
 have HA := hide ha
 have HB := hide hb
 clear ha hb
 obtain ⟨n, hnn⟩ : ∃ n, n = ms.length := ⟨_, rfl⟩
 have HN := hide hnn
 rw [<- hnn] at hn ⊢
 clear hnn
 have hne : ((n : Int) != (n : Int)) = false := by simp
 go_enter Tryz.func7, Tryz.ntmps7
 go_wp2_with fail
 go_loopg [5] n (fun gk v5 wx => ∃ i : Nat, i + gk = n /\ v5 = .int .i64 i /\ Hid (Kept (fun _ => False) w wx))
 case atStart => exact ⟨0, by omega, rfl, Kept.refl _ _⟩
 case round =>
  obtain ⟨i, hig, rfl, KX⟩ := hrel
  cases gk with
  | zero =>
   obtain rfl : i = n := by omega
   have hge : ¬ (i : Int) < (i : Int) := by omega
   go_wp2_with fail
   go_ret
   exact ⟨rfl, KX.out⟩
  | succ g1 =>
   have hlt : (i : Int) < (n : Int) := by omega
   have hil : i < ms.length := by have := HN.out; omega
   obtain ⟨m, hm⟩ : ∃ m, ms[i]? = some m := ⟨_, List.getElem?_eq_getElem hil⟩
   have kc : ∀ {g o : Nat} {u : Value}, w.cell? ⟨g, o, none⟩ = some u -> wr.cell? ⟨g, o, none⟩ = some u := fun {g o u} hc => (KX.out.cell (p := ⟨g, o, none⟩) (lt_of_cell hc) (fun e => e)).trans hc
   obtain ⟨a0, a1, a2, a3, a4, a5⟩ := HA.out.six hm
   obtain ⟨b0, b1, b2, b3, b4, b5⟩ := HB.out.six hm
   replace a0 := kc a0
   replace a1 := kc a1
   replace a2 := kc a2
   replace a3 := kc a3
   replace a4 := kc a4
   replace a5 := kc a5
   replace b0 := kc b0
   replace b1 := kc b1
   replace b2 := kc b2
   replace b3 := kc b3
   replace b4 := kc b4
   replace b5 := kc b5
   have i0 : (0 : Int) <= (i : Int) := by omega
   clear hm hil kc
   obtain ⟨s0, s1, s2, t3, t4, s5⟩ := m
   simp only at a0 a1 a2 a3 a4 a5 b0 b1 b2 b3 b4 b5
   go_upto_region 6 with fail
   go_region
   go_wp2_with fail
   go_roundg g1
   case measure => omega
   case rel => exact ⟨i + 1, by omega, by go_num, KX.out.drewN 1⟩
end Go.Proofs.YteknifnadbmfiaaGreatDoor
