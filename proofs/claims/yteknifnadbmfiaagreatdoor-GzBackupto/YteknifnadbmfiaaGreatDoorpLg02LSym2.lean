/- Several texts, laid together: LIns, LSym1, LSym2. -/
import Derived.Test.YteknifnadbmfiaaGreatDoorpLg01LSwap
/- The comparison that the sort is given, and the library's sort by insertion. -/
namespace Go.Proofs.YteknifnadbmfiaaGreatDoor.L
set_option maxRecDepth 100000
open Go Go.RowKit

def cmpv (x y : Int) : Int := if x < y then -1 else if y < x then 1 else 0
theorem cmpv_lt (x y : Int) : cmpv x y < 0 ↔ x < y := by unfold cmpv; split <;> (try split) <;> omega

theorem isNaN_c (x : Int) (w : World) : Calls Tryz.prog 148 #[.int .i64 x] w fun e w' => e = .returned (.bool false) /\ w' = w := by
 go_enter Tryz.func148, Tryz.ntmps148
 go_wp2_with fail
 go_ret
 exact ⟨by simp, rfl⟩
theorem compare_c (x y : Int) (w : World) : Calls Tryz.prog 144 #[.int .i64 x, .int .i64 y] w fun e w' => e = .returned (.int .i64 (cmpv x y)) /\ w' = w := by
 unfold cmpv
 by_cases h1 : x < y
 ·go_enter Tryz.func144, Tryz.ntmps144
  go_wp2_with (go_at_call 148; refine (isNaN_c _ _).mono ?_; rintro e w ⟨rfl, rfl⟩)
  go_ret
  exact ⟨by simp, rfl⟩
 ·by_cases h2 : y < x
  ·go_enter Tryz.func144, Tryz.ntmps144
   go_wp2_with (go_at_call 148; refine (isNaN_c _ _).mono ?_; rintro e w ⟨rfl, rfl⟩)
   go_ret
   exact ⟨by simp, rfl⟩
  ·go_enter Tryz.func144, Tryz.ntmps144
   go_wp2_with (go_at_call 148; refine (isNaN_c _ _).mono ?_; rintro e w ⟨rfl, rfl⟩)
   go_ret
   exact ⟨by simp, rfl⟩

set_option maxRecDepth 100000 in
theorem closure_c (B b off len cap x y : Nat) (X Y : Int) (w : World) (hB : w.cell? ⟨B, 0, none⟩ = some (.slice (some ⟨b, off, none⟩) len cap)) (hx : x < len) (hy : y < len) (cx : w.cell? ⟨b, off + x, none⟩ = some (.int .i64 X)) (cy : w.cell? ⟨b, off + y, none⟩ = some (.int .i64 Y)) :
  Calls Tryz.prog 143 #[.int .i64 x, .int .i64 y, .pointer (some ⟨B, 0, none⟩)] w fun e w' => e = .returned (.int .i64 (cmpv X Y)) /\ ∃ q, w' = w.drewN q := by
 have hx' : (x : Int) < (len : Int) := by omega
 have hy' : (y : Int) < (len : Int) := by omega
 generalize hC : cmpv X Y = C
 have hcc : ∀ W, Calls Tryz.prog 144 #[.int .i64 X, .int .i64 Y] W fun e w' => e = .returned (.int .i64 C) /\ w' = W := fun W => hC ▸ compare_c X Y W
 clear hC
 go_enter Tryz.func143, Tryz.ntmps143
 go_wp2_with fail
 go_quiet ((go_at_call 144; exact Calls.quiet_of_same (hcc _)))
 go_wp2_with fail
 go_ret
 exact ⟨rfl, nq, rfl⟩

def CmpOk (w0 : World) (g : Nat) (P : Int -> Prop) (k : Int -> Int) (bp : Value) : Prop :=
 ∀ w, Kept (fun i => i = g) w0 w -> ∀ x y, P x -> P y -> Calls Tryz.prog 143 #[.int .i64 x, .int .i64 y, bp] w fun e w' => e = .returned (.int .i64 (cmpv (k x) (k y))) /\ ∃ q, w' = w.drewN q
theorem CmpOk.after {w0 w1 : World} {g : Nat} {P : Int -> Prop} {k : Int -> Int} {bp : Value} (h : CmpOk w0 g P k bp) (hk : Kept (fun i => i = g) w0 w1) : CmpOk w1 g P k bp := fun w h1 x y hx hy => h w (hk.trans h1 (fun _ _ h => h)) x y hx hy
def All (P : Int -> Prop) (d : List Int) : Prop := ∀ x ∈ d, P x
theorem All.at {P : Int -> Prop} {d : List Int} (h : All P d) {i : Nat} (hi : i < d.length) : P (ln d i) := by rw [ln_in hi]; exact h _ (List.getElem_mem hi)
theorem All.stir {P : Int -> Prop} {d e : List Int} {a b : Nat} (h : All P d) (s : Stir a b d e) : All P e := fun x hx => h x (s.perm.mem_iff.1 hx)

set_option maxRecDepth 100000 in
theorem insertion_c (g : Nat) (sp : Array Value) (cap a b : Nat) (d : List Int) (bp : Value) (w : World) (P : Int -> Prop) (k : Int -> Int) (hC : CmpOk w g P k bp) (hP : All P d) (h : Ro g sp d w) (hab : a <= b) (hb : b <= d.length) (hl : d.length < 4611686018427387904) :
  Calls Tryz.prog 149 #[.slice (some ⟨g, 0, none⟩) d.length cap, .int .i64 a, .int .i64 b, .func (.func 143) #[] #[bp]] w fun e w' =>
   e = .returned (.tuple #[]) /\ ∃ d', Srt k d' a b /\ Stirk k a b d d' /\ Ro g sp d' w' /\ Kept (fun k => k = g) w w' := by
 have HR : Hid (Ro g sp d w) := h
 have HP : Hid (All P d) := hP
 have HC : Hid (CmpOk w g P k bp) := hC
 clear h hP hC
 go_enter Tryz.func149, Tryz.ntmps149
 go_wp2_with fail
 go_loopg [8] (b - a) (fun gk v8 wx => ∃ (i : Nat) (dk : List Int), v8 = .int .i64 i /\ a < i /\ b + 1 - i <= gk + 1 /\ Hid (Srt k dk a i /\ (i <= b \/ b <= a + 1 /\ i = a + 1) /\ Stirk k a b d dk /\ Ro g sp dk wx /\ Kept (fun k => k = g) w wx))
 case atStart => exact ⟨a + 1, d, by go_num, by omega, by omega, Srt.one _ _ _ (by omega), by omega, Stirk.refl _ _ _ _, HR.out, Kept.refl _ _⟩
 case round =>
  obtain ⟨i, dk, rfl, hai, hg1, HI⟩ := hrel
  by_cases hib : i < b
  ·have hib' : (i : Int) < (b : Int) := by omega
   go_wp2_with fail
   go_loopg [9] i (fun g2 v9 wx => ∃ (j : Nat) (dj : List Int), v9 = .int .i64 j /\ a <= j /\ j <= i /\ j <= g2 /\ Hid (Ins k dj a i j /\ Stirk k a b d dj /\ Ro g sp dj wx /\ Kept (fun k => k = g) w wx))
   case atStart => exact ⟨i, dk, rfl, by omega, Nat.le_refl _, Nat.le_refl _, Ins.start HI.out.1, HI.out.2.2⟩
   case round =>
    obtain ⟨j, dj, rfl, haj, hji, hg2, HJ⟩ := hrel
    have HL : Hid (dj.length = d.length) := HJ.out.2.1.len
    have HPj : Hid (All P dj) := HP.out.stir HJ.out.2.1.st
    by_cases hja : a < j
    ·obtain ⟨jp, rfl⟩ : ∃ jp, j = jp + 1 := ⟨j - 1, by omega⟩
     have c1 := HJ.out.2.2.1.cell (i := jp + 1) (by rw [HL.out]; omega)
     have c0 := HJ.out.2.2.1.cell (i := jp) (by rw [HL.out]; omega)
     have hc := fun n => HC.out _ (HJ.out.2.2.2.drewN n) _ _ (HPj.out.at (i := jp + 1) (by rw [HL.out]; omega)) (HPj.out.at (i := jp) (by rw [HL.out]; omega))
     have hja' : (a : Int) < (jp : Int) + 1 := by omega
     have jz : (jp : Int) + 1 < (d.length : Int) := by omega
     have jz1 : (jp : Int) < (d.length : Int) := by omega
     have p0 : (0 : Int) <= (jp : Int) + 1 := by omega
     have e0 : ((jp : Int) + 1).toNat = jp + 1 := by omega
     have hwp : IntKind.i64.wrap (jp : Int) = (jp : Int) := by rw [IntKind.wrap_i64]; omega
     by_cases hlv : k (ln dj (jp + 1)) < k (ln dj jp)
     ·have hCn : cmpv (k (ln dj (jp + 1))) (k (ln dj jp)) < 0 := (cmpv_lt _ _).2 hlv
      generalize cmpv (k (ln dj (jp + 1))) (k (ln dj jp)) = C at hc hCn
      generalize hX : ln dj (jp + 1) = X at c1 hc
      generalize hY : ln dj jp = Y at c0 hc
      have EX := hide hX
      have EY := hide hY
      have HLV := hide hlv
      clear hX hY hlv
      go_wp2_with fail
      go_quiet ((go_at_call 143; exact Calls.quiet_of (hc _)))
      go_wp2_with fail
      have c1' : (wr.drewN nq).cell? ⟨g, jp + 1, none⟩ = some (.int .i64 X) := c1
      have c0' : (wr.drewN nq).cell? ⟨g, jp, none⟩ = some (.int .i64 Y) := c0
      have f1' : (wr.drewN nq).frozen? ⟨g, jp + 1, none⟩ = false := HJ.out.2.2.1.free _
      have f0' : (wr.drewN nq).frozen? ⟨g, jp, none⟩ = false := HJ.out.2.2.1.free _
      have R' : Hid (Ro g sp dj (wr.drewN nq)) := HJ.out.2.2.1
      have K' : Hid (Kept (fun k => k = g) w (wr.drewN nq)) := HJ.out.2.2.2.drewN nq
      have I' : Hid (Ins k dj a i (jp + 1) /\ Stirk k a b d dj) := ⟨HJ.out.1, HJ.out.2.1⟩
      clear c1 c0 hc HJ
      generalize wr.drewN nq = wq at c1' c0' f1' f0' R' K' ⊢
      go_region
      go_wp2_with fail
      go_roundg jp
      case measure => omega
      case rel =>
       have hs := I'.out.1.step (by omega) hji (by rw [HL.out]; omega) HLV.out
       simp only [Nat.add_sub_cancel] at hs
       refine ⟨jp, swp dj (jp + 1) jp, by go_num, by omega, by omega, Nat.le_refl _, hs, I'.out.2.trans ⟨Stir.swp (by omega) (by omega) (by omega) (by omega) (by rw [HL.out]; omega), fun h => h.swp (by rw [HL.out]; omega) HLV.out⟩, ?_, ?_⟩
       ·have := R'.out.swp (i := jp + 1) (j := jp) (by rw [HL.out]; omega) (by rw [HL.out]; omega)
        rw [EX.out, EY.out] at this
        exact this
       ·exact ((K'.out.setCell (fun _ => rfl) _).setCell (fun _ => rfl) _).drew
     ·have hCn : ¬ cmpv (k (ln dj (jp + 1))) (k (ln dj jp)) < 0 := fun h => hlv ((cmpv_lt _ _).1 h)
      generalize cmpv (k (ln dj (jp + 1))) (k (ln dj jp)) = C at hc hCn
      generalize hX : ln dj (jp + 1) = X at c1 hc
      generalize hY : ln dj jp = Y at c0 hc
      have HLV := hide (Int.not_lt.1 hlv)
      clear hX hY hlv
      go_wp2_with fail
      go_quiet ((go_at_call 143; exact Calls.quiet_of (hc _)))
      go_wp2_with fail
      go_roundg (b - (i + 1))
      case measure => omega
      case rel =>
       obtain ⟨r1, r2, r3, r4⟩ := HJ.out
       exact ⟨i + 1, dj, by go_num, by omega, by omega, r1.done hji (.inr (by simp only [Nat.add_sub_cancel]; exact HLV.out)), by omega, r2, r3, r4.drewN _⟩
    ·obtain rfl : j = a := by omega
     go_wp2_with fail
     go_quiet (fail)
     go_wp2_with fail
     go_roundg (b - (i + 1))
     case measure => omega
     case rel =>
      obtain ⟨r1, r2, r3, r4⟩ := HJ.out
      exact ⟨i + 1, dj, by go_num, by omega, by omega, r1.done hji (.inl (Nat.le_refl _)), by omega, r2, r3, r4.drewN _⟩
  ·have hib' : ¬ (i : Int) < (b : Int) := by omega
   go_wp2_with fail
   go_end0
   obtain ⟨h1, h2, h3⟩ := HI.out
   exact ⟨rfl, dk, h1.part (Nat.le_refl _) (by omega), h3⟩
end Go.Proofs.YteknifnadbmfiaaGreatDoor.L

/- The library's merge of two runs, where the first has one place. -/
namespace Go.Proofs.YteknifnadbmfiaaGreatDoor.L
set_option maxRecDepth 100000
open Go Go.RowKit

def MgOk (g : Nat) (sp : Array Value) (k : Int -> Int) (a b : Nat) (d : List Int) (w w' : World) : Prop :=
 ∃ d', Srt k d' a b /\ Stirk k a b d d' /\ Ro g sp d' w' /\ Kept (fun i => i = g) w w'
set_option maxRecDepth 100000 in
theorem sym_left (g : Nat) (sp : Array Value) (cap a b : Nat) (d : List Int) (bp : Value) (w : World) (P : Int -> Prop) (k : Int -> Int) (hC : CmpOk w g P k bp) (hP : All P d) (h : Ro g sp d w) (hab : a + 1 < b) (hb : b <= d.length) (hl : d.length < 4611686018427387904) (hs : Srt k d (a + 1) b) (m : Nat) (hm : m = a + 1) :
  Calls Tryz.prog 150 #[.slice (some ⟨g, 0, none⟩) d.length cap, .int .i64 a, .int .i64 m, .int .i64 b, .func (.func 143) #[] #[bp]] w fun e w' =>
   e = .returned (.tuple #[]) /\ MgOk g sp k a b d w w' := by
 have HR : Hid (Ro g sp d w) := h
 have HP : Hid (All P d) := hP
 have HC : Hid (CmpOk w g P k bp) := hC
 have HS : Hid (Srt k d (a + 1) b) := hs
 clear h hP hC hs
 have hm1 : (m : Int) - (a : Int) = 1 := by omega
 have hma : m <= a + 1 := by omega
 have ham : a + 1 <= m := by omega
 clear hm
 go_enter Tryz.func150, Tryz.ntmps150
 go_wp2_with fail
 clear hm1
 go_loopg [10, 11] (b - m) (fun gk v10 v11 wx => ∃ (i j q : Nat), v10 = .int .i64 i /\ v11 = .int .i64 j /\ j - i <= gk /\ m <= i /\ i <= j /\ j <= b /\ Hid ((∀ x, m <= x -> x < i -> k (ln d x) < k (ln d a)) /\ (∀ x, j <= x -> x < b -> k (ln d a) <= k (ln d x)) /\ wx = w.drewN q))
 case atStart => exact ⟨m, b, 0, rfl, rfl, Nat.le_refl _, Nat.le_refl _, by omega, Nat.le_refl _, fun x h1 h2 => by omega, fun x h1 h2 => by omega, rfl⟩
 case round =>
  obtain ⟨i, j, q, rfl, rfl, hij, hmi, hle, hjb, HI⟩ := hrel
  by_cases hlt : i < j
  ·have hlt' : (i : Int) < (j : Int) := by omega
   obtain ⟨H, hH⟩ : ∃ H : Nat, ((i : Int) + (j : Int)) / 2 = (H : Int) := ⟨(i + j) / 2, by omega⟩
   have hiH : i <= H := by omega
   have hHj : H < j := by omega
   have hHd : (H : Int) < (d.length : Int) := by omega
   have had : (a : Int) < (d.length : Int) := by omega
   have cx : wr.cell? ⟨g, H, none⟩ = some (.int .i64 (ln d H)) := by rw [HI.out.2.2]; exact HR.out.cell (by omega)
   have cy : wr.cell? ⟨g, a, none⟩ = some (.int .i64 (ln d a)) := by rw [HI.out.2.2]; exact HR.out.cell (by omega)
   have hc := fun n => HC.out (wr.drewN n) (by rw [HI.out.2.2]; exact ((Kept.refl _ w).drewN q).drewN n) _ _ (HP.out.at (i := H) (by omega)) (HP.out.at (i := a) (by omega))
   by_cases hlv : k (ln d H) < k (ln d a)
   ·have hCn : cmpv (k (ln d H)) (k (ln d a)) < 0 := (cmpv_lt _ _).2 hlv
    generalize cmpv (k (ln d H)) (k (ln d a)) = C at hc hCn
    have HLV := hide hlv
    clear hlv
    generalize ln d H = X at cx hc
    generalize ln d a = Y at cy hc
    go_wp2_with fail
    go_quiet ((go_at_call 143; exact Calls.quiet_of (hc _)))
    go_wp2_with fail
    go_roundg (j - (H + 1))
    case measure => omega
    case rel =>
     obtain ⟨h1, h2, h3⟩ := HI.out
     refine ⟨H + 1, j, q + nq, by go_num, rfl, Nat.le_refl _, by omega, by omega, hjb, fun x x1 x2 => ?_, h2, by rw [h3, World.drewN_drewN]⟩
     exact Int.lt_of_le_of_lt (HS.out x H (by omega) (by omega) (by omega)) HLV.out
   ·have hCn : ¬ cmpv (k (ln d H)) (k (ln d a)) < 0 := fun h => hlv ((cmpv_lt _ _).1 h)
    generalize cmpv (k (ln d H)) (k (ln d a)) = C at hc hCn
    have HLV := hide (Int.not_lt.1 hlv)
    clear hlv
    generalize ln d H = X at cx hc
    generalize ln d a = Y at cy hc
    go_wp2_with fail
    go_quiet ((go_at_call 143; exact Calls.quiet_of (hc _)))
    go_wp2_with fail
    go_roundg (H - i)
    case measure => omega
    case rel =>
     obtain ⟨h1, h2, h3⟩ := HI.out
     refine ⟨i, H, q + nq, rfl, by go_num, Nat.le_refl _, hmi, hiH, by omega, h1, fun x x1 x2 => ?_, by rw [h3, World.drewN_drewN]⟩
     exact Int.le_trans HLV.out (HS.out H x (by omega) x1 x2)
  ·obtain rfl : i = j := by omega
   clear hij
   go_wp2_with fail
   go_loopg [13] (i - 1 - a) (fun gk v13 wx => ∃ (x : Nat) (dk : List Int), v13 = .int .i64 x /\ x + gk = i - 1 /\ a <= x /\ Hid (ShL d dk a x /\ Stir a b d dk /\ Ro g sp dk wx /\ Kept (fun k => k = g) w wx))
   case atStart => exact ⟨a, d, rfl, by omega, Nat.le_refl _, ShL.start d a, Stir.refl _ _ _, by rw [HI.out.2.2]; exact HR.out, by rw [HI.out.2.2]; exact (Kept.refl _ w).drewN q⟩
   case round =>
    obtain ⟨x, dk, rfl, hxg, hax, HJ⟩ := hrel
    cases gk with
    | zero =>
     have hge : ¬ (x : Int) < (i : Int) - 1 := by omega
     have hxi : x = i - 1 := by omega
     have HX := hide hxi
     clear hxi
     go_wp2_with fail
     refine bodyPost_ret (results_none rfl _ _ _) rfl ?_
     obtain ⟨s1, s2, s3, s4⟩ := HJ.out
     have e := HX.out
     rw [e] at s1
     exact ⟨rfl, dk, ShL.sorted s1 (by omega) hjb HS.out (fun y y1 y2 => HI.out.1 y (by omega) y2) HI.out.2.1, ⟨s2, fun h => h.shL s1 (by omega) (by omega) (fun y y1 y2 => HI.out.1 y (by omega) (by omega))⟩, s3, s4⟩
    | succ gk =>
     have hlt2 : (x : Int) < (i : Int) - 1 := by omega
     have HL : Hid (dk.length = d.length) := HJ.out.1.len
     have c0 := HJ.out.2.2.1.cell (i := x) (by rw [HL.out]; omega)
     have c1 := HJ.out.2.2.1.cell (i := x + 1) (by rw [HL.out]; omega)
     have f0 := HJ.out.2.2.1.free x
     have f1 := HJ.out.2.2.1.free (x + 1)
     have hx0 : (x : Int) < (d.length : Int) := by omega
     have hx1 : (x : Int) + 1 < (d.length : Int) := by omega
     have hx2 : (0 : Int) <= (x : Int) + 1 := by omega
     have hx3 : ((x : Int) + 1).toNat = x + 1 := by omega
     generalize hX : ln dk x = X at c0
     generalize hY : ln dk (x + 1) = Y at c1
     have EX := hide hX
     have EY := hide hY
     clear hX hY
     go_wp2_with fail
     go_region
     go_wp2_with fail
     go_roundg gk
     case measure => omega
     case rel =>
      obtain ⟨s1, s2, s3, s4⟩ := HJ.out
      refine ⟨x + 1, swp dk x (x + 1), by go_num, by omega, by omega, s1.step hax (by omega), s2.trans (Stir.swp (by omega) (by omega) (by omega) (by omega) (by rw [HL.out]; omega)), ?_, ?_⟩
      ·have := s3.swp (i := x) (j := x + 1) (by rw [HL.out]; omega) (by rw [HL.out]; omega)
       rw [EX.out, EY.out] at this
       exact this
      ·exact ((s4.setCell (fun _ => rfl) _).setCell (fun _ => rfl) _).drew
#print axioms sym_left
end Go.Proofs.YteknifnadbmfiaaGreatDoor.L

/- The library's merge of two runs, where the second has one place. -/
namespace Go.Proofs.YteknifnadbmfiaaGreatDoor.L
set_option maxRecDepth 100000
open Go Go.RowKit

set_option maxRecDepth 100000 in
theorem sym_right (g : Nat) (sp : Array Value) (cap a m b : Nat) (d : List Int) (bp : Value) (w : World) (P : Int -> Prop) (k : Int -> Int) (hC : CmpOk w g P k bp) (hP : All P d) (h : Ro g sp d w) (ham : a + 1 < m) (hm : b = m + 1) (hb : b <= d.length) (hl : d.length < 4611686018427387904) (hs : Srt k d a m) :
  Calls Tryz.prog 150 #[.slice (some ⟨g, 0, none⟩) d.length cap, .int .i64 a, .int .i64 m, .int .i64 b, .func (.func 143) #[] #[bp]] w fun e w' =>
   e = .returned (.tuple #[]) /\ MgOk g sp k a b d w w' := by
 have HR : Hid (Ro g sp d w) := h
 have HP : Hid (All P d) := hP
 have HC : Hid (CmpOk w g P k bp) := hC
 have HS : Hid (Srt k d a m) := hs
 have HM : Hid (b = m + 1) := hm
 clear h hP hC hs
 have hm0 : ¬ (m : Int) - (a : Int) = 1 := by omega
 have hm1 : (b : Int) - (m : Int) = 1 := by omega
 have hb0 : ((m : Int) - (a : Int) == 1) = false := by simp; omega
 have hb1 : ((b : Int) - (m : Int) == 1) = true := by simp; omega
 have hbm : b <= m + 1 := by omega
 have hmb : m + 1 <= b := by omega
 clear hm
 go_enter Tryz.func150, Tryz.ntmps150
 go_wp2_with fail
 clear hm1 hm0 hb0 hb1
 go_loopg [14, 15] (m - a) (fun gk v14 v15 wx => ∃ (i j q : Nat), v14 = .int .i64 i /\ v15 = .int .i64 j /\ j - i <= gk /\ a <= i /\ i <= j /\ j <= m /\ Hid ((∀ x, a <= x -> x < i -> k (ln d x) <= k (ln d m)) /\ (∀ x, j <= x -> x < m -> k (ln d m) < k (ln d x)) /\ wx = w.drewN q))
 case atStart => exact ⟨a, m, 0, rfl, rfl, Nat.le_refl _, Nat.le_refl _, by omega, Nat.le_refl _, fun x h1 h2 => by omega, fun x h1 h2 => by omega, rfl⟩
 case round =>
  obtain ⟨i, j, q, rfl, rfl, hij, hmi, hle, hjb, HI⟩ := hrel
  by_cases hlt : i < j
  ·have hlt' : (i : Int) < (j : Int) := by omega
   obtain ⟨H, hH⟩ : ∃ H : Nat, ((i : Int) + (j : Int)) / 2 = (H : Int) := ⟨(i + j) / 2, by omega⟩
   have hiH : i <= H := by omega
   have hHj : H < j := by omega
   have hHd : (H : Int) < (d.length : Int) := by omega
   have had : (m : Int) < (d.length : Int) := by omega
   have cx : wr.cell? ⟨g, H, none⟩ = some (.int .i64 (ln d H)) := by rw [HI.out.2.2]; exact HR.out.cell (by omega)
   have cy : wr.cell? ⟨g, m, none⟩ = some (.int .i64 (ln d m)) := by rw [HI.out.2.2]; exact HR.out.cell (by omega)
   have hc := fun n => HC.out (wr.drewN n) (by rw [HI.out.2.2]; exact ((Kept.refl _ w).drewN q).drewN n) _ _ (HP.out.at (i := m) (by omega)) (HP.out.at (i := H) (by omega))
   by_cases hlv : k (ln d m) < k (ln d H)
   ·have hCn : cmpv (k (ln d m)) (k (ln d H)) < 0 := (cmpv_lt _ _).2 hlv
    generalize cmpv (k (ln d m)) (k (ln d H)) = C at hc hCn
    have HLV := hide hlv
    clear hlv
    generalize ln d H = X at cx hc
    generalize ln d m = Y at cy hc
    go_wp2_with fail
    go_quiet ((go_at_call 143; exact Calls.quiet_of (hc _)))
    go_wp2_with fail
    go_roundg (H - i)
    case measure => omega
    case rel =>
     obtain ⟨h1, h2, h3⟩ := HI.out
     refine ⟨i, H, q + nq, rfl, by go_num, Nat.le_refl _, hmi, hiH, by omega, h1, fun x x1 x2 => ?_, by rw [h3, World.drewN_drewN]⟩
     exact Int.lt_of_lt_of_le HLV.out (HS.out H x (by omega) x1 x2)
   ·have hCn : ¬ cmpv (k (ln d m)) (k (ln d H)) < 0 := fun h => hlv ((cmpv_lt _ _).1 h)
    generalize cmpv (k (ln d m)) (k (ln d H)) = C at hc hCn
    have HLV := hide (Int.not_lt.1 hlv)
    clear hlv
    generalize ln d H = X at cx hc
    generalize ln d m = Y at cy hc
    have hC0 : 0 <= C := by omega
    have hC1 : decide (C < 0) = false := by simp; omega
    go_wp2_with fail
    go_quiet ((go_at_call 143; exact Calls.quiet_of (hc _)))
    go_wp2_with fail
    go_roundg (j - (H + 1))
    case measure => omega
    case rel =>
     obtain ⟨h1, h2, h3⟩ := HI.out
     refine ⟨H + 1, j, q + nq, by go_num, rfl, Nat.le_refl _, by omega, by omega, hjb, fun x x1 x2 => ?_, h2, by rw [h3, World.drewN_drewN]⟩
     exact Int.le_trans (HS.out x H (by omega) (by omega) (by omega)) HLV.out
  ·obtain rfl : i = j := by omega
   clear hij
   go_wp2_with fail
   go_loopg [17] (m - i) (fun gk v17 wx => ∃ (x : Nat) (dk : List Int), v17 = .int .i64 x /\ x = i + gk /\ x <= m /\ Hid (ShR d dk x m /\ Stir a b d dk /\ Ro g sp dk wx /\ Kept (fun k => k = g) w wx))
   case atStart => exact ⟨m, d, rfl, by omega, Nat.le_refl _, ShR.start d m, Stir.refl _ _ _, by rw [HI.out.2.2]; exact HR.out, by rw [HI.out.2.2]; exact (Kept.refl _ w).drewN q⟩
   case round =>
    obtain ⟨x, dk, rfl, hxg, hax, HJ⟩ := hrel
    cases gk with
    | zero =>
     have hge : ¬ (i : Int) < (x : Int) := by omega
     have HX : Hid (x = i) := (show x = i by omega)
     clear hxg
     go_wp2_with fail
     refine bodyPost_ret (results_none rfl _ _ _) rfl ?_
     obtain ⟨s1, s2, s3, s4⟩ := HJ.out
     have e := HX.out
     rw [e] at s1
     have hsr := ShR.sorted s1 hmi hjb HS.out HI.out.1 HI.out.2.1
     rw [<- HM.out] at hsr
     exact ⟨rfl, dk, hsr, ⟨s2, fun h => h.shR s1 hjb (by omega) HI.out.2.1⟩, s3, s4⟩
    | succ gk =>
     obtain ⟨y, rfl⟩ : ∃ y, x = y + 1 := ⟨x - 1, by omega⟩
     have hlt2 : (i : Int) < (y : Int) + 1 := by omega
     have HL : Hid (dk.length = d.length) := HJ.out.1.len
     have c0 := HJ.out.2.2.1.cell (i := y) (by rw [HL.out]; omega)
     have c1 := HJ.out.2.2.1.cell (i := y + 1) (by rw [HL.out]; omega)
     have f0 := HJ.out.2.2.1.free y
     have f1 := HJ.out.2.2.1.free (y + 1)
     have hx0 : (y : Int) < (d.length : Int) := by omega
     have hx1 : (y : Int) + 1 < (d.length : Int) := by omega
     have hx2 : (0 : Int) <= (y : Int) + 1 := by omega
     have hx3 : ((y : Int) + 1).toNat = y + 1 := by omega
     have hwp : IntKind.i64.wrap (y : Int) = (y : Int) := by rw [IntKind.wrap_i64]; omega
     have HXG := hide hxg
     clear hxg
     generalize hX : ln dk y = X at c0
     generalize hY : ln dk (y + 1) = Y at c1
     have EX := hide hX
     have EY := hide hY
     clear hX hY
     go_wp2_with fail
     go_region
     go_wp2_with fail
     go_roundg gk
     case measure => omega
     case rel =>
      have hxg := HXG.out
      obtain ⟨s1, s2, s3, s4⟩ := HJ.out
      have st := s1.step (by omega) hax (by omega)
      simp only [Nat.add_sub_cancel] at st
      refine ⟨y, swp dk (y + 1) y, by go_num, by omega, by omega, st, s2.trans (Stir.swp (by omega) (by omega) (by omega) (by omega) (by rw [HL.out]; omega)), ?_, ?_⟩
      ·have := s3.swp (i := y + 1) (j := y) (by rw [HL.out]; omega) (by rw [HL.out]; omega)
       rw [EX.out, EY.out] at this
       exact this
      ·exact ((s4.setCell (fun _ => rfl) _).setCell (fun _ => rfl) _).drew
#print axioms sym_right
end Go.Proofs.YteknifnadbmfiaaGreatDoor.L
