/- gz: qTheSums. -/
import Derived.Test.YtgjafmppkfgkfaaGreatDoorqGaWt
namespace Go.Proofs.YtgjafmppkfgkfaaGreatDoor
set_option maxRecDepth 100000
open Go Go.RowKit
set_option linter.unusedVariables false

theorem uB_leP (v n : Nat) : uB (leP v n) = F.putN v n := by
 unfold uB leP
 rw [List.map_map]
 conv => rhs; rw [<- List.map_id (F.putN v n)]
 exact List.map_congr_left fun b _ => by simp
theorem leN_put9 : ∀ (m v : Nat), F.leN (F.putN v m) = v % 256 ^ m
 | 0, v => by simp [F.putN, F.leN, Nat.mod_one]
 | m + 1, v => by
  unfold F.putN F.leN
  rw [leN_put9 m, F.byte_of, Nat.pow_succ, Nat.mul_comm (256 ^ m), Nat.mod_mul]
theorem le_leP (v n : Nat) : le (leP v n) = v % 256 ^ n := by unfold le; rw [uB_leP, leN_put9]
theorem fl_ok : ∀ b1 b4 b8 b16 : Bool, gB (flN b1 b4 b8 b16) 1 = b1 /\ gB (flN b1 b4 b8 b16) 2 = false /\ gB (flN b1 b4 b8 b16) 4 = b4 /\ gB (flN b1 b4 b8 b16) 8 = b8 /\ gB (flN b1 b4 b8 b16) 16 = b16 := by decide
def gTl (m : Mb) : List Int := xtr m.extra ++ txt m.name ++ txt m.comment
def gTen (m : Mb) : List Int := [31, 139, 8] ++ [(fls m : Int)] ++ leP m.time 4 ++ [0, 255]
theorem gHd_two (m : Mb) : gHd m = gTen m ++ gTl m := by unfold gHd gTen gTl; simp
theorem gTen_length (m : Mb) : (gTen m).length = 10 := by unfold gTen; simp [leP_length]
theorem leP4 (v : Nat) : leP v 4 = [((UInt8.ofNat (v % 256)).toNat : Int), ((UInt8.ofNat (v / 256 % 256)).toNat : Int), ((UInt8.ofNat (v / 256 / 256 % 256)).toNat : Int), ((UInt8.ofNat (v / 256 / 256 / 256 % 256)).toNat : Int)] := rfl
theorem ten_mark (m : Mb) (r : List Int) : gMark (gTen m ++ r) /\ gFl (gTen m ++ r) = fls m /\ (gTen m ++ r).drop 10 = r /\ ((gTen m ++ r).drop 4).take 4 = leP m.time 4 := by
 have h := fls_lt m
 unfold gTen gMark gFl
 rw [leP4]
 refine ⟨⟨rfl, rfl, rfl, ?_⟩, ?_, rfl, rfl⟩
 ·show ((fls m : Nat) : Int) < 32
  omega
 ·show ((fls m : Nat) : Int).toNat = fls m
  omega
theorem ten_first (m : Mb) (r : List Int) : gFirst (gTen m ++ r) = .ok r := by
 obtain ⟨h1, _, h3, _⟩ := ten_mark m r
 rw [gFirst, if_neg (by rw [List.length_append, gTen_length]; omega), if_pos h1, h3]
theorem ten_time (m : Mb) (r : List Int) (ht : m.time < 4294967296) : gTime (gTen m ++ r) = m.time := by
 unfold gTime
 rw [(ten_mark m r).2.2.2, le_leP]
 omega
theorem extra_back (s : ByteArray) (r : List Int) (h : s.size <= 65535) : gExtra (has s) (xtr s ++ r) = .ok (s, r) := by
 unfold xtr has
 by_cases h0 : s.size = 0
 ·rw [if_pos h0]
  simp only [h0, ne_eq, not_true_eq_false, decide_false, List.nil_append]
  rw [gExtra_false, str_empty h0]
  rfl
 ·rw [if_neg h0]
  have e1 : ((leP s.size 2 ++ sB s ++ r).take 2) = leP s.size 2 := by rw [List.append_assoc, List.take_left' (leP_length _ _)]
  have e2 : ((leP s.size 2 ++ sB s ++ r).drop 2) = sB s ++ r := by rw [List.append_assoc, List.drop_left' (leP_length _ _)]
  have e3 : le (leP s.size 2) = s.size := by rw [le_leP]; omega
  simp only [ne_eq, h0, not_false_eq_true, decide_true]
  unfold gExtra
  rw [if_pos rfl, e1, e2, e3, if_neg (by rw [List.length_append, List.length_append, leP_length, sB_length]; omega), if_neg (by rw [List.length_append, List.length_append, leP_length, sB_length]; omega)]
  rw [List.take_left' (sB_length s), List.drop_left' (sB_length s), nums_sB]
theorem text_back (s : ByteArray) (r : List Int) (h : nul s = false) : gText (has s) (txt s ++ r) = .ok (s, r) := by
 unfold txt has
 by_cases h0 : s.size = 0
 ·rw [if_pos h0]
  simp only [h0, ne_eq, not_true_eq_false, decide_false, List.nil_append]
  rw [gText_false, str_empty h0]
  rfl
 ·rw [if_neg h0]
  simp only [ne_eq, h0, not_false_eq_true, decide_true]
  unfold gText
  have hz : ∀ x ∈ sB s, x ≠ 0 := fun x hx e => of_decide_eq_false h (e ▸ hx)
  rw [if_pos rfl, List.append_assoc, List.singleton_append, gLine_some hz]
  simp only
  rw [nums_sB]
theorem texts_back (m : Mb) (r : List Int) (h : gMay m) : gTexts (fls m) (gTl m ++ r) = .ok (m.name, m.comment, m.extra, r) := by
 obtain ⟨h1, h2, h3⟩ := h
 obtain ⟨_, _, f4, f8, f16⟩ := fl_ok m.text (has m.extra) (has m.name) (has m.comment)
 have e1 : gExtra (gB (fls m) 4) (gTl m ++ r) = .ok (m.extra, txt m.name ++ (txt m.comment ++ r)) := by
  unfold fls gTl
  rw [f4, List.append_assoc, List.append_assoc]
  exact extra_back _ _ h3
 have e2 : gText (gB (fls m) 8) (txt m.name ++ (txt m.comment ++ r)) = .ok (m.name, txt m.comment ++ r) := by
  unfold fls; rw [f8]; exact text_back _ _ h1
 have e3 : gText (gB (fls m) 16) (txt m.comment ++ r) = .ok (m.comment, r) := by
  unfold fls; rw [f16]; exact text_back _ _ h2
 exact gTexts_ok e1 e2 e3
theorem head_back (m : Mb) (r : List Int) (h : gMay m) (ht : m.time < 4294967296) : gHead (gHd m ++ r) = .ok ({ m with data := .empty }, r) := by
 have f2 := (fl_ok m.text (has m.extra) (has m.name) (has m.comment)).2.1
 have f1 := (fl_ok m.text (has m.extra) (has m.name) (has m.comment)).1
 rw [gHd_two, List.append_assoc]
 have hfl := (ten_mark m (gTl m ++ r)).2.1
 have e2 : gTexts (gFl (gTen m ++ (gTl m ++ r))) (gTl m ++ r) = .ok (m.name, m.comment, m.extra, r) := by rw [hfl]; exact texts_back m r h
 have e3 : gSum (gB (gFl (gTen m ++ (gTl m ++ r))) 2) (gTen m ++ (gTl m ++ r)) r = .ok r := by
  rw [hfl]; unfold fls; rw [f2]; simp [gSum]
 rw [gHead_4 (ten_first m _) e2 e3, ten_time m _ ht, hfl]
 unfold fls
 rw [f1]
theorem stream_back {zs X r : List Int} (h : iAns X zs.length = (zs, X.length, 0)) (left : Nat) (hl : zs.length <= left) : gStream left (X ++ r) = .ok (zs, r) := by
 have h1 : iAns X left = (zs, X.length, 0) := by
  rcases iAns_most X zs.length (left - zs.length) with h' | h'
  ·rw [h] at h'; simp at h'
  ·rw [show zs.length + (left - zs.length) = left by omega] at h'
   rw [h', h]
 have h2 : iAns (X ++ r) left = (zs, X.length, 0) := by
  rcases iAns_more X r left with h' | h'
  ·rw [h1] at h'; simp at h'
  ·rw [h', h1]
 rw [gStream, h2]
 simp
/-! Cut off. -/
theorem leN_inj : ∀ (a b : List UInt8), a.length = b.length -> F.leN a = F.leN b -> a = b
 | [], [], _, _ => rfl
 | x :: a, y :: b, h, e => by
  simp only [F.leN] at e
  have hx : x.toNat < 256 := x.toNat_lt
  have hy : y.toNat < 256 := y.toNat_lt
  have h1 : x.toNat = y.toNat := by omega
  have h2 : F.leN a = F.leN b := by omega
  rw [leN_inj a b (by simpa using h) h2, UInt8.toNat_inj.1 h1]
 | [], _ :: _, h, _ => by simp at h
 | _ :: _, [], h, _ => by simp at h
theorem uB_inj {a b : List Int} (ha : ∀ x ∈ a, 0 <= x /\ x <= 255) (hb : ∀ x ∈ b, 0 <= x /\ x <= 255) (h : uB a = uB b) : a = b := by
 induction a generalizing b with
 | nil => cases b with
  | nil => rfl
  | cons y b => simp [uB] at h
 | cons x a ih => cases b with
  | nil => simp [uB] at h
  | cons y b =>
   simp only [uB, List.map_cons, List.cons.injEq] at h
   have hx := ha x (by simp)
   have hy := hb y (by simp)
   have e := congrArg UInt8.toNat h.1
   rw [UInt8.toNat_ofNat', UInt8.toNat_ofNat'] at e
   rw [ih (fun z hz => ha z (by simp [hz])) (fun z hz => hb z (by simp [hz])) h.2, show x = y by omega]
theorem foot_other (d F' : List Int) (hl : F'.length = 8) (hb : ∀ x ∈ F', 0 <= x /\ x <= 255) (hne : F' ≠ gFt d) : gEnd d F' = .error 92 := by
 have hc := crc_lt d
 rw [gEnd, if_neg (by omega), if_neg]
 rintro ⟨h1, h2⟩
 apply hne
 have e1 : F'.take 4 = leP (crc d) 4 := by
  refine uB_inj (fun x hx => hb x (List.mem_of_mem_take hx)) (leP_mem _ _) (leN_inj _ _ ?_ ?_)
  ·rw [uB_length, uB_length, leP_length, List.length_take]; omega
  ·have : le (leP (crc d) 4) = crc d := by rw [le_leP]; omega
   exact h1.trans this.symm
 have e2 : F'.drop 4 = leP (d.length % 4294967296) 4 := by
  have e4 : (F'.drop 4).take 4 = F'.drop 4 := List.take_of_length_le (by simp; omega)
  rw [e4] at h2
  refine uB_inj (fun x hx => hb x (List.mem_of_mem_drop hx)) (leP_mem _ _) (leN_inj _ _ ?_ ?_)
  ·rw [uB_length, uB_length, leP_length, List.length_drop]; omega
  ·have : le (leP (d.length % 4294967296) 4) = d.length % 4294967296 := by rw [le_leP]; omega
   exact h2.trans this.symm
 rw [<- List.take_append_drop 4 F', e1, e2]
 rfl
theorem member_other (m : Mb) (X F' : List Int) (h : gMay m) (ht : m.time < 4294967296) (hX : iAns X (sB m.data).length = (sB m.data, X.length, 0)) (left : Nat) (hl : m.data.size <= left) (h8 : F'.length = 8) (hb : ∀ x ∈ F', 0 <= x /\ x <= 255) (hne : F' ≠ gFt (sB m.data)) : gMember left (gHd m ++ X ++ F') = .error 92 := by
 have e1 := head_back m (X ++ F') h ht
 have e2 := stream_back (r := F') hX left (by rw [sB_length]; exact hl)
 rw [List.append_assoc]
 simp [gMember, e1, e2, foot_other (sB m.data) F' h8 hb hne]
theorem txt_mem (s : ByteArray) : ∀ x ∈ txt s, 0 <= x /\ x <= 255 := fun x hx => by
 unfold txt at hx
 split at hx
 ·simp at hx
 ·rcases List.mem_append.1 hx with h | h
  ·exact sB_mem s x h
  ·simp at h; omega
theorem xtr_mem (s : ByteArray) : ∀ x ∈ xtr s, 0 <= x /\ x <= 255 := fun x hx => by
 unfold xtr at hx
 split at hx
 ·simp at hx
 ·rcases List.mem_append.1 hx with h | h
  ·exact leP_mem _ _ x h
  ·exact sB_mem s x h
theorem gAll_mem (m : Mb) {X : List Int} (hX : ∀ x ∈ X, 0 <= x /\ x <= 255) : ∀ x ∈ gHd m ++ X ++ gFt (sB m.data), 0 <= x /\ x <= 255 := fun x hx => by
 have hf := fls_lt m
 unfold gHd gFt at hx
 simp only [List.mem_append] at hx
 rcases hx with ((((((((h | h) | h) | h) | h) | h) | h)) | h) | h | h
 ·simp at h; omega
 ·simp at h; omega
 ·exact leP_mem _ _ x h
 ·simp at h; omega
 ·exact xtr_mem _ x h
 ·exact txt_mem _ x h
 ·exact txt_mem _ x h
 ·exact hX x h
 ·exact leP_mem _ _ x h
 ·exact leP_mem _ _ x h
theorem gRead_bad {zs : List Int} {most e : Int} (h : gMember most.toNat zs = .error e) : gRead zs most = .error e := by
 rw [gRead, gRd, h]
end Go.Proofs.YtgjafmppkfgkfaaGreatDoor
