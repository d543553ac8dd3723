/- gz: qTheCuts. -/
import Derived.Test.YtgjafmppkfgkfaaGreatDoorqGaWt
namespace Go.Proofs.YtgjafmppkfgkfaaGreatDoor
set_option maxRecDepth 100000
open Go Go.RowKit
set_option linter.unusedVariables false

theorem uB_leP (v n : Nat) : uB (leP v n) = F.putN v n := by
 unfold uB leP
 rw [List.map_map]
 conv => rhs; rw [<- List.map_id (F.putN v n)]
 exact List.map_congr_left fun b _ => by simp
theorem leN_put9 : ∀ (m v : Nat), F.leN (F.putN v m) = v % 256 ^ m
 | 0, v => by simp [F.putN, F.leN, Nat.mod_one]
 | m + 1, v => by
  unfold F.putN F.leN
  rw [leN_put9 m, F.byte_of, Nat.pow_succ, Nat.mul_comm (256 ^ m), Nat.mod_mul]
theorem le_leP (v n : Nat) : le (leP v n) = v % 256 ^ n := by unfold le; rw [uB_leP, leN_put9]
theorem fl_ok : ∀ b1 b4 b8 b16 : Bool, gB (flN b1 b4 b8 b16) 1 = b1 /\ gB (flN b1 b4 b8 b16) 2 = false /\ gB (flN b1 b4 b8 b16) 4 = b4 /\ gB (flN b1 b4 b8 b16) 8 = b8 /\ gB (flN b1 b4 b8 b16) 16 = b16 := by decide
def gTl (m : Mb) : List Int := xtr m.extra ++ txt m.name ++ txt m.comment
def gTen (m : Mb) : List Int := [31, 139, 8] ++ [(fls m : Int)] ++ leP m.time 4 ++ [0, 255]
theorem gHd_two (m : Mb) : gHd m = gTen m ++ gTl m := by unfold gHd gTen gTl; simp
theorem gTen_length (m : Mb) : (gTen m).length = 10 := by unfold gTen; simp [leP_length]
theorem leP4 (v : Nat) : leP v 4 = [((UInt8.ofNat (v % 256)).toNat : Int), ((UInt8.ofNat (v / 256 % 256)).toNat : Int), ((UInt8.ofNat (v / 256 / 256 % 256)).toNat : Int), ((UInt8.ofNat (v / 256 / 256 / 256 % 256)).toNat : Int)] := rfl
theorem ten_mark (m : Mb) (r : List Int) : gMark (gTen m ++ r) /\ gFl (gTen m ++ r) = fls m /\ (gTen m ++ r).drop 10 = r /\ ((gTen m ++ r).drop 4).take 4 = leP m.time 4 := by
 have h := fls_lt m
 unfold gTen gMark gFl
 rw [leP4]
 refine ⟨⟨rfl, rfl, rfl, ?_⟩, ?_, rfl, rfl⟩
 ·show ((fls m : Nat) : Int) < 32
  omega
 ·show ((fls m : Nat) : Int).toNat = fls m
  omega
theorem ten_first (m : Mb) (r : List Int) : gFirst (gTen m ++ r) = .ok r := by
 obtain ⟨h1, _, h3, _⟩ := ten_mark m r
 rw [gFirst, if_neg (by rw [List.length_append, gTen_length]; omega), if_pos h1, h3]
theorem ten_time (m : Mb) (r : List Int) (ht : m.time < 4294967296) : gTime (gTen m ++ r) = m.time := by
 unfold gTime
 rw [(ten_mark m r).2.2.2, le_leP]
 omega
theorem extra_back (s : ByteArray) (r : List Int) (h : s.size <= 65535) : gExtra (has s) (xtr s ++ r) = .ok (s, r) := by
 unfold xtr has
 by_cases h0 : s.size = 0
 ·rw [if_pos h0]
  simp only [h0, ne_eq, not_true_eq_false, decide_false, List.nil_append]
  rw [gExtra_false, str_empty h0]
  rfl
 ·rw [if_neg h0]
  have e1 : ((leP s.size 2 ++ sB s ++ r).take 2) = leP s.size 2 := by rw [List.append_assoc, List.take_left' (leP_length _ _)]
  have e2 : ((leP s.size 2 ++ sB s ++ r).drop 2) = sB s ++ r := by rw [List.append_assoc, List.drop_left' (leP_length _ _)]
  have e3 : le (leP s.size 2) = s.size := by rw [le_leP]; omega
  simp only [ne_eq, h0, not_false_eq_true, decide_true]
  unfold gExtra
  rw [if_pos rfl, e1, e2, e3, if_neg (by rw [List.length_append, List.length_append, leP_length, sB_length]; omega), if_neg (by rw [List.length_append, List.length_append, leP_length, sB_length]; omega)]
  rw [List.take_left' (sB_length s), List.drop_left' (sB_length s), nums_sB]
theorem text_back (s : ByteArray) (r : List Int) (h : nul s = false) : gText (has s) (txt s ++ r) = .ok (s, r) := by
 unfold txt has
 by_cases h0 : s.size = 0
 ·rw [if_pos h0]
  simp only [h0, ne_eq, not_true_eq_false, decide_false, List.nil_append]
  rw [gText_false, str_empty h0]
  rfl
 ·rw [if_neg h0]
  simp only [ne_eq, h0, not_false_eq_true, decide_true]
  unfold gText
  have hz : ∀ x ∈ sB s, x ≠ 0 := fun x hx e => of_decide_eq_false h (e ▸ hx)
  rw [if_pos rfl, List.append_assoc, List.singleton_append, gLine_some hz]
  simp only
  rw [nums_sB]
theorem texts_back (m : Mb) (r : List Int) (h : gMay m) : gTexts (fls m) (gTl m ++ r) = .ok (m.name, m.comment, m.extra, r) := by
 obtain ⟨h1, h2, h3⟩ := h
 obtain ⟨_, _, f4, f8, f16⟩ := fl_ok m.text (has m.extra) (has m.name) (has m.comment)
 have e1 : gExtra (gB (fls m) 4) (gTl m ++ r) = .ok (m.extra, txt m.name ++ (txt m.comment ++ r)) := by
  unfold fls gTl
  rw [f4, List.append_assoc, List.append_assoc]
  exact extra_back _ _ h3
 have e2 : gText (gB (fls m) 8) (txt m.name ++ (txt m.comment ++ r)) = .ok (m.name, txt m.comment ++ r) := by
  unfold fls; rw [f8]; exact text_back _ _ h1
 have e3 : gText (gB (fls m) 16) (txt m.comment ++ r) = .ok (m.comment, r) := by
  unfold fls; rw [f16]; exact text_back _ _ h2
 exact gTexts_ok e1 e2 e3
theorem head_back (m : Mb) (r : List Int) (h : gMay m) (ht : m.time < 4294967296) : gHead (gHd m ++ r) = .ok ({ m with data := .empty }, r) := by
 have f2 := (fl_ok m.text (has m.extra) (has m.name) (has m.comment)).2.1
 have f1 := (fl_ok m.text (has m.extra) (has m.name) (has m.comment)).1
 rw [gHd_two, List.append_assoc]
 have hfl := (ten_mark m (gTl m ++ r)).2.1
 have e2 : gTexts (gFl (gTen m ++ (gTl m ++ r))) (gTl m ++ r) = .ok (m.name, m.comment, m.extra, r) := by rw [hfl]; exact texts_back m r h
 have e3 : gSum (gB (gFl (gTen m ++ (gTl m ++ r))) 2) (gTen m ++ (gTl m ++ r)) r = .ok r := by
  rw [hfl]; unfold fls; rw [f2]; simp [gSum]
 rw [gHead_4 (ten_first m _) e2 e3, ten_time m _ ht, hfl]
 unfold fls
 rw [f1]
theorem stream_back {zs X r : List Int} (h : iAns X zs.length = (zs, X.length, 0)) (left : Nat) (hl : zs.length <= left) : gStream left (X ++ r) = .ok (zs, r) := by
 have h1 : iAns X left = (zs, X.length, 0) := by
  rcases iAns_most X zs.length (left - zs.length) with h' | h'
  ·rw [h] at h'; simp at h'
  ·rw [show zs.length + (left - zs.length) = left by omega] at h'
   rw [h', h]
 have h2 : iAns (X ++ r) left = (zs, X.length, 0) := by
  rcases iAns_more X r left with h' | h'
  ·rw [h1] at h'; simp at h'
  ·rw [h', h1]
 rw [gStream, h2]
 simp
/-! Cut off. -/
theorem leP2_take (v : Nat) (r : List Int) : ((leP v 2 ++ r).take 2) = leP v 2 := List.take_left' (leP_length _ _)
theorem extra_cut (s : ByteArray) (r : List Int) (k : Nat) (h : s.size <= 65535) (hk : k < (xtr s).length) : gExtra (has s) ((xtr s ++ r).take k) = .error 90 := by
 have h0 : ¬ s.size = 0 := fun e => by rw [xtr, if_pos e] at hk; simp at hk
 have hx : xtr s = leP s.size 2 ++ sB s := by rw [xtr, if_neg h0]
 have hs : has s = true := by simp [has, h0]
 rw [hs, gExtra, if_pos rfl]
 have hlen : ((xtr s ++ r).take k).length = k := by rw [List.length_take, List.length_append]; omega
 rw [hlen]
 by_cases h2 : k < 2
 ·rw [if_pos h2]
 ·rw [if_neg h2]
  have e1 : ((xtr s ++ r).take k).take 2 = leP s.size 2 := by
   rw [List.take_take, Nat.min_eq_left (by omega), hx, List.append_assoc, leP2_take]
  have e3 : le (leP s.size 2) = s.size := by rw [le_leP]; omega
  rw [e1, e3, if_pos]
  rw [hx, List.length_append, leP_length, sB_length] at hk
  omega
theorem text_cut (s : ByteArray) (r : List Int) (k : Nat) (h : nul s = false) (hk : k < (txt s).length) : gText (has s) ((txt s ++ r).take k) = .error 90 := by
 have h0 : ¬ s.size = 0 := fun e => by rw [txt, if_pos e] at hk; simp at hk
 have hx : txt s = sB s ++ [0] := by rw [txt, if_neg h0]
 have hs : has s = true := by simp [has, h0]
 have hz : ∀ x ∈ sB s, x ≠ 0 := fun x hx e => of_decide_eq_false h (e ▸ hx)
 rw [hs, gText, if_pos rfl]
 have e1 : (txt s ++ r).take k = (sB s).take k := by
  rw [hx, List.length_append, List.length_singleton] at hk
  rw [hx, List.append_assoc, List.take_append_of_le_length (by omega)]
 rw [e1, gLine_none (fun x hx => hz x (List.mem_of_mem_take hx))]
theorem take_app {X r : List Int} {k : Nat} (h : X.length <= k) : (X ++ r).take k = X ++ r.take (k - X.length) := by
 rw [List.take_append, List.take_of_length_le h]
theorem texts_cut (m : Mb) (r : List Int) (k : Nat) (h : gMay m) (hk : k < (gTl m).length) : gTexts (fls m) ((gTl m ++ r).take k) = .error 90 := by
 obtain ⟨h1, h2, h3⟩ := h
 obtain ⟨_, _, f4, f8, f16⟩ := fl_ok m.text (has m.extra) (has m.name) (has m.comment)
 have hl : (gTl m).length = (xtr m.extra).length + (txt m.name).length + (txt m.comment).length := by unfold gTl; simp; omega
 have e0 : gTl m ++ r = xtr m.extra ++ (txt m.name ++ (txt m.comment ++ r)) := by unfold gTl; simp
 rw [e0]
 by_cases hx : k < (xtr m.extra).length
 ·exact gTexts_bad1 (by unfold fls; rw [f4]; exact extra_cut _ _ _ h3 hx)
 ·rw [take_app (by omega)]
  have e1 : ∀ r', gExtra (gB (fls m) 4) (xtr m.extra ++ r') = .ok (m.extra, r') := fun r' => by unfold fls; rw [f4]; exact extra_back _ _ h3
  by_cases hn : k - (xtr m.extra).length < (txt m.name).length
  ·exact gTexts_bad2 (e1 _) (by unfold fls; rw [f8]; exact text_cut _ _ _ h1 hn)
  ·rw [take_app (by omega)]
   have e2 : ∀ r', gText (gB (fls m) 8) (txt m.name ++ r') = .ok (m.name, r') := fun r' => by unfold fls; rw [f8]; exact text_back _ _ h1
   exact gTexts_bad3 (e1 _) (e2 _) (by unfold fls; rw [f16]; exact text_cut _ _ _ h2 (by omega))
theorem head_cut (m : Mb) (r : List Int) (k : Nat) (h : gMay m) (hk : k < (gHd m).length) : gHead ((gHd m ++ r).take k) = .error 90 := by
 rw [gHd_two, List.length_append, gTen_length] at hk
 rw [gHd_two, List.append_assoc]
 by_cases h10 : k < 10
 ·refine gHead_1 ?_
  rw [gFirst, if_pos (by rw [List.length_take]; omega)]
 ·rw [take_app (by rw [gTen_length]; omega), gTen_length]
  exact gHead_2 (ten_first m _) (by rw [(ten_mark m _).2.1]; exact texts_cut m r _ h (by omega))
theorem member_cut (m : Mb) (X : List Int) (h : gMay m) (ht : m.time < 4294967296) (hX : iAns X (sB m.data).length = (sB m.data, X.length, 0)) (left : Nat) (hl : m.data.size <= left) (k : Nat) (hk : k < (gHd m ++ X ++ gFt (sB m.data)).length) : gMember left ((gHd m ++ X ++ gFt (sB m.data)).take k) = .error 90 := by
 have hfl : (gFt (sB m.data)).length = 8 := by unfold gFt; simp [leP_length]
 rw [List.length_append, List.length_append, hfl] at hk
 rw [List.append_assoc]
 by_cases h1 : k < (gHd m).length
 ·simp [gMember, head_cut m _ k h h1]
 ·rw [take_app (by omega)]
  have e1 := fun r => head_back m r h ht
  have h1X : iAns X left = (sB m.data, X.length, 0) := by
   rcases iAns_most X (sB m.data).length (left - (sB m.data).length) with h' | h'
   ·rw [hX] at h'; simp at h'
   ·rw [show (sB m.data).length + (left - (sB m.data).length) = left by rw [sB_length]; omega] at h'
    rw [h', hX]
  by_cases h2 : k - (gHd m).length < X.length
  ·have e2 : (X ++ gFt (sB m.data)).take (k - (gHd m).length) = X.take (k - (gHd m).length) := List.take_append_of_le_length (by omega)
   have e3 : (iAns (X.take (k - (gHd m).length)) left).2.2 = 60 := iAns_cut X left _ (by rw [h1X]; exact h2)
   simp [gMember, e1, e2, gStream, e3, gErr]
  ·rw [take_app (by omega)]
   have e2 := stream_back (r := (gFt (sB m.data)).take (k - (gHd m).length - X.length)) hX left (by rw [sB_length]; exact hl)
   have e3 : gEnd (sB m.data) ((gFt (sB m.data)).take (k - (gHd m).length - X.length)) = .error 90 := by
    rw [gEnd, if_pos (by rw [List.length_take, hfl]; omega)]
   simp [gMember, e1, e2, e3]
theorem txt_mem (s : ByteArray) : ∀ x ∈ txt s, 0 <= x /\ x <= 255 := fun x hx => by
 unfold txt at hx
 split at hx
 ·simp at hx
 ·rcases List.mem_append.1 hx with h | h
  ·exact sB_mem s x h
  ·simp at h; omega
theorem xtr_mem (s : ByteArray) : ∀ x ∈ xtr s, 0 <= x /\ x <= 255 := fun x hx => by
 unfold xtr at hx
 split at hx
 ·simp at hx
 ·rcases List.mem_append.1 hx with h | h
  ·exact leP_mem _ _ x h
  ·exact sB_mem s x h
theorem gAll_mem (m : Mb) {X : List Int} (hX : ∀ x ∈ X, 0 <= x /\ x <= 255) : ∀ x ∈ gHd m ++ X ++ gFt (sB m.data), 0 <= x /\ x <= 255 := fun x hx => by
 have hf := fls_lt m
 unfold gHd gFt at hx
 simp only [List.mem_append] at hx
 rcases hx with ((((((((h | h) | h) | h) | h) | h) | h)) | h) | h | h
 ·simp at h; omega
 ·simp at h; omega
 ·exact leP_mem _ _ x h
 ·simp at h; omega
 ·exact xtr_mem _ x h
 ·exact txt_mem _ x h
 ·exact txt_mem _ x h
 ·exact hX x h
 ·exact leP_mem _ _ x h
 ·exact leP_mem _ _ x h
theorem gRead_bad {zs : List Int} {most e : Int} (h : gMember most.toNat zs = .error e) : gRead zs most = .error e := by
 rw [gRead, gRd, h]
end Go.Proofs.YtgjafmppkfgkfaaGreatDoor
