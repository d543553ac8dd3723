/- Several texts, laid together: LStable, LFirst, LRows, LLen. -/
import Derived.Test.YteknifnadbmfiaaGreatDoorpLSym
import Derived.Test.YteknifnadbmfiaaGreatDoorpLg00LPar
import Derived.Test.YteknifnadbmfiaaGreatDoorpLg01LSwap
/- The library's stable sort: blocks of twenty, merged. -/
namespace Go.Proofs.YteknifnadbmfiaaGreatDoor.L
set_option maxRecDepth 100000
open Go Go.RowKit

section
variable {k : Int -> Int}
def Inn (k : Int -> Int) (d : List Int) (bs n q : Nat) : Prop := (∀ r, r < q -> Srt k d (r * (2 * bs)) ((r + 1) * (2 * bs))) /\ (∀ r, 2 * q <= r -> Srt k d (r * bs) (min ((r + 1) * bs) n))
theorem two_mul_bs (q bs : Nat) : 2 * q * bs = q * (2 * bs) := by rw [Nat.mul_comm 2 q, Nat.mul_assoc]
theorem two_mul_bs1 (q bs : Nat) : (2 * q + 1) * bs = q * (2 * bs) + bs := by rw [Nat.succ_mul, two_mul_bs]
theorem two_mul_bs2 (q bs : Nat) : (2 * q + 1 + 1) * bs = q * (2 * bs) + 2 * bs := by rw [Nat.succ_mul, two_mul_bs1]; omega
theorem Inn.start {d : List Int} {bs n : Nat} (h : Blk k d bs n) : Inn k d bs n 0 := ⟨fun r hr => by omega, fun r _ => h r⟩
theorem Inn.halves {d : List Int} {bs n q : Nat} (h : Inn k d bs n q) (hn : q * (2 * bs) + 2 * bs <= n) : Srt k d (q * (2 * bs)) (q * (2 * bs) + bs) /\ Srt k d (q * (2 * bs) + bs) (q * (2 * bs) + 2 * bs) := by
 have h1 := h.2 (2 * q) (Nat.le_refl _)
 have h2 := h.2 (2 * q + 1) (by omega)
 rw [two_mul_bs, two_mul_bs1, Nat.min_eq_left (by omega)] at h1
 rw [two_mul_bs1, two_mul_bs2, Nat.min_eq_left (by omega)] at h2
 exact ⟨h1, h2⟩
theorem Inn.step {d e : List Int} {bs n q : Nat} (h : Inn k d bs n q) (s : Stir (q * (2 * bs)) (q * (2 * bs) + 2 * bs) d e) (hs : Srt k e (q * (2 * bs)) (q * (2 * bs) + 2 * bs)) : Inn k e bs n (q + 1) := by
 refine ⟨fun r hr => ?_, fun r hr => ?_⟩
 ·by_cases e' : r = q
  ·subst e'; rw [Nat.add_mul r 1, Nat.one_mul]; exact hs
  ·have : (r + 1) * (2 * bs) <= q * (2 * bs) := Nat.mul_le_mul_right _ (by omega)
   exact (h.1 r (by omega)).stirred s (.inl this)
 ·have : (2 * q + 1 + 1) * bs <= r * bs := Nat.mul_le_mul_right _ (by omega)
  rw [two_mul_bs2] at this
  exact (h.2 r (by omega)).stirred s (.inr this)
theorem Inn.last {d e : List Int} {bs n q : Nat} (h : Inn k d bs n q) (hn : n < q * (2 * bs) + 2 * bs) (s : Stir (q * (2 * bs)) n d e) (hs : Srt k e (q * (2 * bs)) n) : Blk k e (2 * bs) n := by
 intro r
 by_cases c : r < q
 ·have : (r + 1) * (2 * bs) <= q * (2 * bs) := Nat.mul_le_mul_right _ (by omega)
  exact ((h.1 r c).stirred s (.inl this)).part (Nat.le_refl _) (Nat.min_le_left _ _)
 ·by_cases c' : r = q
  ·subst c'
   rw [Nat.add_mul r 1, Nat.one_mul, Nat.min_eq_right (by omega)]; exact hs
  ·have : (q + 1) * (2 * bs) <= r * (2 * bs) := Nat.mul_le_mul_right _ (by omega)
   rw [Nat.add_mul q 1, Nat.one_mul] at this
   exact Srt.one _ _ _ (by have := Nat.min_le_right ((r + 1) * (2 * bs)) n; omega)
theorem Inn.odd {d : List Int} {bs n q : Nat} (h : Inn k d bs n q) (hn : n <= q * (2 * bs) + bs) : Srt k d (q * (2 * bs)) n := by
 have h1 := h.2 (2 * q) (Nat.le_refl _)
 rw [two_mul_bs, two_mul_bs1, Nat.min_eq_right (by omega)] at h1
 exact h1
theorem Inn.both {d : List Int} {bs n q : Nat} (h : Inn k d bs n q) (hn : q * (2 * bs) + bs < n) (hn2 : n < q * (2 * bs) + 2 * bs) : Srt k d (q * (2 * bs)) (q * (2 * bs) + bs) /\ Srt k d (q * (2 * bs) + bs) n := by
 have h1 := h.2 (2 * q) (Nat.le_refl _)
 have h2 := h.2 (2 * q + 1) (by omega)
 rw [two_mul_bs, two_mul_bs1, Nat.min_eq_left (by omega)] at h1
 rw [two_mul_bs1, two_mul_bs2, Nat.min_eq_right (by omega)] at h2
 exact ⟨h1, h2⟩
def Fst (k : Int -> Int) (d : List Int) (q : Nat) : Prop := ∀ r, r < q -> Srt k d (r * 20) ((r + 1) * 20)
theorem Fst.step {d e : List Int} {q : Nat} (h : Fst k d q) (s : Stir (q * 20) (q * 20 + 20) d e) (hs : Srt k e (q * 20) (q * 20 + 20)) : Fst k e (q + 1) := by
 intro r hr
 by_cases e' : r = q
 ·subst e'; rw [Nat.succ_mul]; exact hs
 ·exact (h r (by omega)).stirred s (.inl (by omega))
theorem Fst.last {d e : List Int} {q n : Nat} (h : Fst k d q) (hn : n < q * 20 + 20) (s : Stir (q * 20) n d e) (hs : Srt k e (q * 20) n) : Blk k e 20 n := by
 intro r
 by_cases c : r < q
 ·exact ((h r c).stirred s (.inl (by omega))).part (Nat.le_refl _) (Nat.min_le_left _ _)
 ·by_cases c' : r = q
  ·subst c'
   rw [Nat.min_eq_right (by omega)]; exact hs
  ·exact Srt.one _ _ _ (by have := Nat.min_le_right ((r + 1) * 20) n; omega)
end

def StOk (k : Int -> Int) (g : Nat) (sp : Array Value) (d dk : List Int) (w w' : World) : Prop := dk.length = d.length /\ Stirk k 0 d.length d dk /\ Ro g sp dk w' /\ Kept (fun i => i = g) w w'
theorem StOk.more {k : Int -> Int} {g : Nat} {sp : Array Value} {d dk e : List Int} {w w' w2 : World} {a b : Nat} (h : StOk k g sp d dk w w') (hb : b <= d.length) (s : Stirk k a b dk e) (r : Ro g sp e w2) (kp : Kept (fun i => i = g) w' w2) : StOk k g sp d e w w2 :=
 ⟨s.len.trans h.1, h.2.1.trans (s.wide (Nat.zero_le _) hb), r, h.2.2.2.trans kp (fun _ _ h => h)⟩

set_option maxHeartbeats 1000000 in
set_option maxRecDepth 100000 in
theorem stable_c (g : Nat) (sp : Array Value) (cap : Nat) (d : List Int) (bp : Value) (w : World) (P : Int -> Prop) (k : Int -> Int) (hC : CmpOk w g P k bp) (hP : All P d) (h : Ro g sp d w) (hl : d.length <= 320) :
  Calls Tryz.prog 147 #[.slice (some ⟨g, 0, none⟩) d.length cap, .int .i64 d.length, .func (.func 143) #[] #[bp]] w fun e w' =>
   e = .returned (.tuple #[]) /\ ∃ d', Srt k d' 0 d.length /\ StOk k g sp d d' w w' := by
 have HP : Hid (All P d) := hP
 have HC : Hid (CmpOk w g P k bp) := hC
 have HR : Hid (StOk k g sp d d w w) := ⟨rfl, Stirk.refl _ _ _ _, h, Kept.refl _ _⟩
 clear h hP hC
 go_enter Tryz.func147, Tryz.ntmps147
 go_wp2_with fail
 go_loopg [7, 8] d.length (fun gk v7 v8 wx => ∃ (q : Nat) (dk : List Int), v7 = .int .i64 ((q * 20 : Nat) : Int) /\ v8 = .int .i64 ((q * 20 + 20 : Nat) : Int) /\ d.length - q <= gk /\ q * 20 <= d.length /\ Hid (Fst k dk q /\ StOk k g sp d dk w wx))
 case atStart => exact ⟨0, d, rfl, rfl, by omega, by omega, fun r hr => by omega, HR.out⟩
 case round =>
  obtain ⟨q, dk, rfl, rfl, hg, hq, HI⟩ := hrel
  have HL : Hid (dk.length = d.length) := HI.out.2.1
  by_cases hlt : q * 20 + 20 <= d.length
  ·have hlt' : ((q * 20 + 20 : Nat) : Int) <= (d.length : Int) := by omega
   have hc := insertion_c g sp cap (q * 20) (q * 20 + 20) dk bp wr P k (HC.out.after HI.out.2.2.2.2) (HP.out.stir HI.out.2.2.1.st) HI.out.2.2.2.1 (by omega) (by rw [HL.out]; omega) (by rw [HL.out]; omega)
   rw [HL.out] at hc
   have HQ := hide hc
   clear hc
   obtain ⟨A, hA⟩ : ∃ A, q * 20 = A := ⟨_, rfl⟩
   obtain ⟨B, hB⟩ : ∃ B, q * 20 + 20 = B := ⟨_, rfl⟩
   have HAB : Hid (q * 20 = A /\ q * 20 + 20 = B) := ⟨hA, hB⟩
   rw [hB] at hlt' ⊢
   rw [hA] at ⊢
   rw [hB, hA] at HQ
   have hB0 : B <= 340 := by omega
   clear hA hB
   go_wp2_with (go_at_call 149; refine HQ.out.mono ?_; rintro e w1 ⟨rfl, K⟩; have HK := hide K; clear K)
   obtain ⟨hA, hB⟩ := HAB.out
   go_roundg (d.length - (q + 1))
   case measure => omega
   case rel =>
    obtain ⟨d', s1, s2, s3, s4⟩ := HK.out
    rw [<- hA, <- hB] at s1 s2
    exact ⟨q + 1, d', by congr 1; omega, by congr 1; omega, Nat.le_refl _, by omega, HI.out.1.step s2.st s1, HI.out.2.more (by omega) s2 s3 s4⟩
  ·have hlt' : ¬ ((q * 20 + 20 : Nat) : Int) <= (d.length : Int) := by omega
   have hc := insertion_c g sp cap (q * 20) d.length dk bp wr P k (HC.out.after HI.out.2.2.2.2) (HP.out.stir HI.out.2.2.1.st) HI.out.2.2.2.1 (by omega) (by rw [HL.out]; omega) (by rw [HL.out]; omega)
   rw [HL.out] at hc
   have HQ := hide hc
   clear hc
   obtain ⟨A, hA⟩ : ∃ A, q * 20 = A := ⟨_, rfl⟩
   obtain ⟨B, hB⟩ : ∃ B, q * 20 + 20 = B := ⟨_, rfl⟩
   have HAB : Hid (q * 20 = A /\ q * 20 + 20 = B) := ⟨hA, hB⟩
   rw [hB] at hlt' ⊢
   rw [hA] at ⊢
   rw [hA] at HQ
   clear hA hB
   go_wp2_with (go_at_call 149; refine HQ.out.mono ?_; rintro e w1 ⟨rfl, K⟩; have HK := hide K; clear K)
   have HS2 : Hid (∃ dk, Blk k dk 20 d.length /\ StOk k g sp d dk w w1) := by
    obtain ⟨d', s1, s2, s3, s4⟩ := HK.out
    have hA := HAB.out.1
    rw [<- hA] at s1 s2
    exact ⟨d', HI.out.1.last (by omega) s2.st s1, HI.out.2.more (Nat.le_refl _) s2 s3 s4⟩
   clear HK HI HQ
   go_loopg [6] d.length (fun gk v6 wx => ∃ (bs : Nat), v6 = .int .i64 bs /\ 0 < bs /\ bs <= 640 /\ d.length - bs <= gk /\ Hid (∃ dk, Blk k dk bs d.length /\ StOk k g sp d dk w wx))
   case atStart => exact ⟨20, rfl, by omega, by omega, by omega, HS2.out⟩
   case round =>
    obtain ⟨bs, rfl, hb0, hb1, hgb, HI⟩ := hrel
    by_cases hbn : bs < d.length
    ·have hbn' : (bs : Int) < (d.length : Int) := by omega
     go_wp2_with fail
     go_loopg [7, 8] d.length (fun g2 v7 v8 wx => ∃ (A B q : Nat), v7 = .int .i64 A /\ v8 = .int .i64 B /\ A + 2 * bs <= B /\ B <= A + 2 * bs /\ A <= d.length /\ d.length - A <= g2 /\ Hid (A = q * (2 * bs) /\ ∃ dk, Inn k dk bs d.length q /\ StOk k g sp d dk w wx))
     case atStart =>
      obtain ⟨dk, k1, k2⟩ := HI.out
      exact ⟨0, 2 * bs, 0, rfl, by go_num, by omega, by omega, by omega, by omega, by omega, dk, Inn.start k1, k2⟩
     case round =>
      obtain ⟨A, B, q, rfl, rfl, hAB1, hAB2, hAd, hg2, HJ⟩ := hrel
      by_cases hBn : B <= d.length
      ·have hBn' : (B : Int) <= (d.length : Int) := by omega
       obtain ⟨hA, dk, k1, k2⟩ := HJ.out
       have hh := k1.halves (by omega)
       rw [<- hA, show A + 2 * bs = B by omega] at hh
       have hc := sym_any g sp cap bp P k (B - A) A (A + bs) B dk wr (Nat.le_refl _) (HC.out.after k2.2.2.2) (HP.out.stir k2.2.1.st) k2.2.2.1 (by omega) (by omega) (by rw [k2.1]; exact hBn) (by rw [k2.1]; omega) hh.1 hh.2
       rw [k2.1] at hc
       obtain ⟨m, hm⟩ : ∃ m, A + bs = m := ⟨_, rfl⟩
       have hm' : (A : Int) + (bs : Int) = (m : Int) := by omega
       rw [hm] at hc
       have HQ := hide hc
       have HA := hide hA
       have H1 := hide k1
       have H2 := hide k2
       clear hc hA k1 k2 hh hm
       go_wp2_with (go_at_call 150; refine HQ.out.mono ?_; rintro e w1 ⟨rfl, K⟩; have HK := hide K; clear K)
       go_roundg (d.length - B)
       case measure => omega
       case rel =>
        obtain ⟨d', s1, s2, s3, s4⟩ := HK.out
        have hB : B = q * (2 * bs) + 2 * bs := by have := HA.out; omega
        rw [HA.out, hB] at s1 s2
        refine ⟨B, B + 2 * bs, q + 1, rfl, by go_num, by omega, by omega, hBn, Nat.le_refl _, ?_, d', H1.out.step s2.st s1, H2.out.more (by omega) s2 s3 s4⟩
        rw [hB, Nat.add_mul q 1, Nat.one_mul]
      ·have hBn' : ¬ (B : Int) <= (d.length : Int) := by omega
       obtain ⟨m, hm⟩ : ∃ m, A + bs = m := ⟨_, rfl⟩
       have hm' : (A : Int) + (bs : Int) = (m : Int) := by omega
       have hm1 : m <= A + bs := by omega
       have hm2 : A + bs <= m := by omega
       clear hm
       by_cases hmn : m < d.length
       ·have hmn' : (m : Int) < (d.length : Int) := by omega
        obtain ⟨hA, dk, k1, k2⟩ := HJ.out
        have hh := k1.both (by omega) (by omega)
        rw [<- hA, show A + bs = m by omega] at hh
        have hc := sym_any g sp cap bp P k (d.length - A) A m d.length dk wr (Nat.le_refl _) (HC.out.after k2.2.2.2) (HP.out.stir k2.2.1.st) k2.2.2.1 (by omega) (by omega) (by rw [k2.1]; omega) (by rw [k2.1]; omega) hh.1 hh.2
        rw [k2.1] at hc
        have HQ := hide hc
        have HA := hide hA
        have H1 := hide k1
        have H2 := hide k2
        clear hc hA k1 k2 hh
        go_wp2_with (go_at_call 150; refine HQ.out.mono ?_; rintro e w1 ⟨rfl, K⟩; have HK := hide K; clear K)
        go_roundg (d.length - 2 * bs)
        case measure => omega
        case rel =>
         obtain ⟨d', s1, s2, s3, s4⟩ := HK.out
         rw [HA.out] at s1 s2
         exact ⟨2 * bs, by go_num, by omega, by omega, Nat.le_refl _, d', H1.out.last (by have := HA.out; omega) s2.st s1, H2.out.more (Nat.le_refl _) s2 s3 s4⟩
       ·have hmn' : ¬ (m : Int) < (d.length : Int) := by omega
        go_wp2_with fail
        go_roundg (d.length - 2 * bs)
        case measure => omega
        case rel =>
         obtain ⟨hA, dk, k1, k2⟩ := HJ.out
         exact ⟨2 * bs, by go_num, by omega, by omega, Nat.le_refl _, dk, k1.last (by omega) (Stir.refl _ _ _) (k1.odd (by omega)), k2⟩
    ·have hbn' : ¬ (bs : Int) < (d.length : Int) := by omega
     go_wp2_with fail
     go_end0
     obtain ⟨dk, k1, k2⟩ := HI.out
     exact ⟨rfl, dk, k1.all (by omega), k2⟩
#print axioms stable_c

set_option maxRecDepth 100000 in
theorem sortStable_c (g : Nat) (sp : Array Value) (cap : Nat) (d : List Int) (bp : Value) (w : World) (P : Int -> Prop) (k : Int -> Int) (hC : CmpOk w g P k bp) (hP : All P d) (h : Ro g sp d w) (hl : d.length <= 320) :
  Calls Tryz.prog 142 #[.slice (some ⟨g, 0, none⟩) d.length cap, .func (.func 143) #[] #[bp]] w fun e w' =>
   e = .returned (.tuple #[]) /\ ∃ d', Srt k d' 0 d.length /\ StOk k g sp d d' w w' := by
 have HQ := hide (stable_c g sp cap d bp w P k hC hP h hl)
 clear h hP hC
 go_enter Tryz.func142, Tryz.ntmps142
 go_wp2_with (go_at_call 147; refine HQ.out.mono ?_; rintro e w1 ⟨rfl, K⟩; have HK := hide K; clear K)
 go_end0
 exact ⟨rfl, HK.out⟩
end Go.Proofs.YteknifnadbmfiaaGreatDoor.L

/- Which arguments are allowed; the symbols that occur, the rarest first. -/
namespace Go.Proofs.YteknifnadbmfiaaGreatDoor.L
set_option maxRecDepth 100000
open Go Go.RowKit

def AlwTo (ls : List Int) (n : Nat) : Prop := ∀ i, i < n -> 0 <= ln ls i /\ ln ls i <= 1073741824
def Alw (ls : List Int) (most : Int) : Prop := ls.length <= 320 /\ 1 <= most /\ most <= 15 /\ AlwTo ls ls.length

def TellsB (p : Prop) (w : World) (e : Ending) (w' : World) : Prop := ∃ b : Bool, e = .returned (.bool b) /\ (b = true ↔ p) /\ w' = w
theorem TellsB.yes {p : Prop} {w : World} (h : p) : TellsB p w (.returned (.bool true)) w := ⟨true, rfl, ⟨fun _ => h, fun _ => rfl⟩, rfl⟩
theorem TellsB.no {p : Prop} {w : World} (h : ¬ p) : TellsB p w (.returned (.bool false)) w := ⟨false, rfl, ⟨fun h' => (by cases h'), fun h' => absurd h' h⟩, rfl⟩

set_option maxRecDepth 100000 in
theorem allowed_c (lo hi : Nat) (a : Option Addr) (cap : Nat) (ls : List Int) (most : Int) (w : World) (hI : Ints lo hi w a ls) :
  Calls Tryz.prog 132 #[.slice a ls.length cap, .int .i64 most] w (TellsB (Alw ls most) w) := by
 have HI := hide hI
 clear hI
 by_cases h0 : ls.length <= 320 /\ 1 <= most /\ most <= 15
 ·obtain ⟨h1, h2, h3⟩ := h0
  have b1 : ¬ (320 : Int) < (ls.length : Int) := by omega
  have b2 : ¬ most < 1 := by omega
  have b3 : ¬ (15 : Int) < most := by omega
  go_enter Tryz.func132, Tryz.ntmps132
  go_wp2_with fail
  go_loopg [20] ls.length (fun gk v20 wx => ∃ i : Nat, i + gk = ls.length /\ v20 = .int .i64 i /\ Hid (AlwTo ls i) /\ w = wx)
  case atStart => exact ⟨0, by omega, rfl, fun i hi => by omega, rfl⟩
  case round =>
   obtain ⟨i, hig, rfl, HA, rfl⟩ := hrel
   cases gk with
   | zero =>
    obtain rfl : i = ls.length := by omega
    go_wp2_with fail
    go_ret
    exact TellsB.yes ⟨h1, h2, h3, HA.out⟩
   | succ g =>
    obtain ⟨b, off, _, _, hb, rfl, hcell⟩ := HI.out.resolve_left (by omega)
    have hlt : (i : Int) < (ls.length : Int) := by omega
    have hc := hcell i (by omega)
    have HC := hide hcell
    clear hcell
    obtain ⟨X, hX⟩ : ∃ X, ln ls i = X := ⟨_, rfl⟩
    have HX := hide hX
    rw [hX] at hc
    clear hX
    by_cases hn : X < 0
    ·go_wp2_with fail
     go_ret
     refine TellsB.no fun h => ?_
     have := (h.2.2.2 i (by omega)).1
     rw [HX.out] at this
     omega
    ·by_cases hm : 1073741824 < X
     ·go_wp2_with fail
      go_ret
      refine TellsB.no fun h => ?_
      have := (h.2.2.2 i (by omega)).2
      rw [HX.out] at this
      omega
     ·go_wp2_with fail
      go_roundg g
      case measure => omega
      case rel =>
       refine ⟨i + 1, by omega, by go_num, fun j hj => ?_, rfl⟩
       by_cases e : j = i
       ·rw [e, HX.out]; omega
       ·exact HA.out j (by omega)
 ·have HNO : Hid (Alw ls most -> False) := fun h => absurd ⟨h.1, h.2.1, h.2.2.1⟩ h0
  by_cases b1 : (320 : Int) < (ls.length : Int)
  ·go_enter Tryz.func132, Tryz.ntmps132
   go_wp2_with fail
   go_ret
   exact TellsB.no HNO.out
  ·by_cases b2 : most < 1
   ·go_enter Tryz.func132, Tryz.ntmps132
    go_wp2_with fail
    go_ret
    exact TellsB.no HNO.out
   ·have b3 : (15 : Int) < most := by omega
    go_enter Tryz.func132, Tryz.ntmps132
    go_wp2_with fail
    go_ret
    exact TellsB.no HNO.out

def occ (ls : List Int) : Nat -> List Int
 | 0 => []
 | n + 1 => if 0 < ln ls n then occ ls n ++ [(n : Int)] else occ ls n
theorem occ_mem (ls : List Int) (n : Nat) (x : Int) : x ∈ occ ls n ↔ ∃ i : Nat, x = i /\ i < n /\ 0 < ln ls i := by
 induction n with
 | zero => simp [occ]
 | succ n ih =>
  rw [occ]
  by_cases h : 0 < ln ls n
  ·rw [if_pos h, List.mem_append, ih, List.mem_singleton]
   constructor
   ·rintro (⟨i, a, b, c⟩ | e)
    ·exact ⟨i, a, by omega, c⟩
    ·exact ⟨n, e, by omega, h⟩
   ·rintro ⟨i, a, b, c⟩
    by_cases e : i = n
    ·exact .inr (by rw [a, e])
    ·exact .inl ⟨i, a, by omega, c⟩
  ·rw [if_neg h, ih]
   constructor
   ·rintro ⟨i, a, b, c⟩; exact ⟨i, a, by omega, c⟩
   ·rintro ⟨i, a, b, c⟩
    have : i ≠ n := fun e => h (e ▸ c)
    exact ⟨i, a, by omega, c⟩
theorem occ_length (ls : List Int) (n : Nat) : (occ ls n).length <= n := by
 induction n with
 | zero => simp [occ]
 | succ n ih =>
  rw [occ]
  split
  ·simp; omega
  ·omega
theorem occ_rise (ls : List Int) (n : Nat) : (occ ls n).Pairwise (· < ·) := by
 induction n with
 | zero => simp [occ]
 | succ n ih =>
  rw [occ]
  split
  ·rw [List.pairwise_append]
   refine ⟨ih, by simp, fun x hx y hy => ?_⟩
   obtain ⟨i, rfl, hi, _⟩ := (occ_mem ls n x).1 hx
   rw [List.mem_singleton.1 hy]
   omega
  ·exact ih
theorem occ_st {k : Int -> Int} (ls : List Int) (n : Nat) : St k (occ ls n) := by
 intro i j h1 h2 _
 rw [ln_in (show i < (occ ls n).length by omega), ln_in h2]
 exact List.pairwise_iff_getElem.1 (occ_rise ls n) i j (by omega) h2 h1
def keyOf (ls : List Int) (x : Int) : Int := ln ls x.toNat
def IsSym (ls : List Int) (x : Int) : Prop := ∃ i : Nat, x = i /\ i < ls.length

theorem insertion_none (a : Option Addr) (cap : Nat) (fv : Value) (w : World) :
  Calls Tryz.prog 149 #[.slice a 0 cap, .int .i64 0, .int .i64 0, fv] w fun e w' => e = .returned (.tuple #[]) /\ w' = w := by
 go_enter Tryz.func149, Tryz.ntmps149
 go_wp2_with fail
 go_loopg [8] 0 (fun gk v8 wx => v8 = .int .i64 1 /\ w = wx)
 case atStart => exact ⟨rfl, rfl⟩
 case round =>
  obtain ⟨rfl, rfl⟩ := hrel
  go_wp2_with fail
  go_end0
  exact ⟨rfl, rfl⟩
set_option maxRecDepth 100000 in
theorem stable_none (a : Option Addr) (cap : Nat) (fv : Value) (w : World) :
  Calls Tryz.prog 147 #[.slice a 0 cap, .int .i64 0, fv] w fun e w' => e = .returned (.tuple #[]) /\ w' = w := by
 have HQ := hide (insertion_none a cap fv)
 go_enter Tryz.func147, Tryz.ntmps147
 go_wp2_with fail
 go_loopg [7, 8] 0 (fun gk v7 v8 wx => v7 = .int .i64 0 /\ v8 = .int .i64 20 /\ w = wx)
 case atStart => exact ⟨rfl, rfl, rfl⟩
 case round =>
  obtain ⟨rfl, rfl, rfl⟩ := hrel
  go_wp2_with (go_at_call 149; refine (HQ.out _).mono ?_; rintro e w1 ⟨rfl, rfl⟩)
  go_loopg [6] 0 (fun gk v6 wx => v6 = .int .i64 20 /\ w1 = wx)
  case atStart => exact ⟨rfl, rfl⟩
  case round =>
   obtain ⟨rfl, rfl⟩ := hrel
   go_wp2_with fail
   go_end0
   exact ⟨rfl, rfl⟩
theorem sortStable_none (a : Option Addr) (cap : Nat) (fv : Value) (w : World) :
  Calls Tryz.prog 142 #[.slice a 0 cap, fv] w fun e w' => e = .returned (.tuple #[]) /\ w' = w := by
 have HQ := hide (stable_none a cap fv w)
 go_enter Tryz.func142, Tryz.ntmps142
 go_wp2_with (go_at_call 147; refine HQ.out.mono ?_; rintro e w1 ⟨rfl, rfl⟩)
 go_end0
 exact ⟨rfl, rfl⟩

def FirstOk (ls : List Int) (w : World) (e : Ending) (w' : World) : Prop := ∃ v d, e = .returned v /\ Owns w' w.heap.size v d /\ d.Perm (occ ls ls.length) /\ (Srt (keyOf ls) d 0 d.length /\ St (keyOf ls) d) /\ Below w.heap.size w w'
abbrev boxO (a : Option Addr) (n cap : Nat) : Obj := .cells #[.slice a n cap] 97

theorem cmpOk_first (B g : Nat) (a : Option Addr) (cap : Nat) (ls : List Int) (w w1 : World) (hI : Ints 0 B w a ls) (hg : w.heap.size + 1 <= g) (hb : Below (w.heap.size + 1) (w.alloc (boxO a ls.length cap)) w1) :
  CmpOk w1 g (IsSym ls) (keyOf ls) (.pointer (some ⟨w.heap.size, 0, none⟩)) := by
 intro W hW x y hx hy
 obtain ⟨i, rfl, hi⟩ := hx
 obtain ⟨j, rfl, hj⟩ := hy
 obtain ⟨b, off, _, hb2, hb3, rfl, hcell⟩ := hI.resolve_left (by omega)
 have hs := hb.size
 simp at hs
 have hbox : W.cell? ⟨w.heap.size, 0, none⟩ = some (.slice (some ⟨b, off, none⟩) ls.length cap) := by
  rw [hW.cell (p := ⟨w.heap.size, 0, none⟩) (show w.heap.size < w1.heap.size by omega) (show ¬ w.heap.size = g by omega), hb.cell (p := ⟨w.heap.size, 0, none⟩) (show w.heap.size < w.heap.size + 1 by omega)]
  rw [cells_of (heap_new w _)]
  rfl
 have hce : ∀ n, n < ls.length -> W.cell? ⟨b, off + n, none⟩ = some (.int .i64 (ln ls n)) := by
  intro n hn
  rw [hW.cell (p := ⟨b, off + n, none⟩) (show b < w1.heap.size by omega) (show ¬ b = g by omega), hb.cell (p := ⟨b, off + n, none⟩) (show b < w.heap.size + 1 by omega)]
  rw [World.cell?_of_block (w := w) (show (w.alloc (boxO (some ⟨b, off, none⟩) ls.length cap)).heap[b]? = w.heap[b]? from Below.heap_alloc _ _ _ hb3)]
  exact hcell n hn
 have := closure_c w.heap.size b off ls.length cap i j (ln ls i) (ln ls j) W hbox hi hj (hce i hi) (hce j hj)
 simpa [keyOf] using this

set_option maxHeartbeats 1000000 in
set_option maxRecDepth 100000 in
theorem rarest_c (B : Nat) (a : Option Addr) (cap : Nat) (ls : List Int) (w : World) (hl : ls.length <= 320) (hI : Ints 0 B w a ls) :
  Calls Tryz.prog 133 #[.slice a ls.length cap] w (FirstOk ls w) := by
 obtain ⟨i0, hi0, hz0, hz1', hz2'⟩ := info_parts Tryz.info3
 have HI := hide hI
 clear hI
 go_enter Tryz.func133, Tryz.ntmps133
 go_wp2_with fail
 go_loopg [3, 8] ls.length (fun gk v3 v8 wx => ∃ k : Nat, k + gk = ls.length /\ v8 = .int .i64 k /\ Hid (Owns wx (w.heap.size + 1) v3 (occ ls k)) /\ Hid (Below (w.heap.size + 1) (w.alloc (boxO a ls.length cap)) wx))
 case atStart => exact ⟨0, by omega, rfl, Owns.nil _ _, Below.refl _ _⟩
 case round =>
  obtain ⟨i, hig, rfl, HO, HB⟩ := hrel
  obtain ⟨a3, c3, rfl⟩ := own_form HO.out
  have hol := occ_length ls i
  have hsz : w.heap.size + 1 <= wr.heap.size := by have := HB.out.size; simpa using this
  cases gk with
  | zero =>
   obtain rfl : i = ls.length := by omega
   by_cases h0 : occ ls ls.length = []
   ·have hn0 : (occ ls ls.length).length = 0 := by rw [h0]; rfl
    have HN := hide (sortStable_none a3 c3)
    rw [hn0]
    have HO2 : Hid (Owns wr (w.heap.size + 1) (.slice a3 0 c3) []) := by have := HO.out; rw [h0] at this; exact this
    have H0 := hide h0
    clear HO hn0 h0 hol
    go_wp2_with (go_at_call 142; refine (HN.out _ _).mono ?_; rintro e w1 ⟨rfl, rfl⟩)
    go_ret
    refine ⟨_, [], rfl, HO2.out.low (by omega), by rw [H0.out], ⟨fun i j _ _ h => by simp at h, fun i j _ h => by simp at h⟩, ?_⟩
    exact ((Below.refl w.heap.size w).alloc (Nat.le_refl _) _).trans (HB.out.mono (by omega))
   ·obtain ⟨g, sp, cp, hv, hg, hcp, hcm, hsp, hro⟩ := HO.out.ro h0
    simp only [Value.slice.injEq] at hv
    obtain ⟨rfl, _, rfl⟩ := hv
    have hck := cmpOk_first B g a cap ls w wr HI.out hg HB.out
    have hall : All (IsSym ls) (occ ls ls.length) := fun x hx => by
     obtain ⟨i, e1, e2, _⟩ := (occ_mem ls ls.length x).1 hx
     exact ⟨i, e1, e2⟩
    have HQ := hide (sortStable_c g sp c3 (occ ls ls.length) (.pointer (some ⟨w.heap.size, 0, none⟩)) wr (IsSym ls) (keyOf ls) hck hall hro (by omega))
    have HC := hide (show (occ ls ls.length).length <= c3 /\ c3 <= maxLen /\ sp.size = c3 - (occ ls ls.length).length from ⟨hcp, hcm, hsp⟩)
    clear hck hall hro hcp hcm hsp h0
    obtain ⟨D, hD⟩ : ∃ D, occ ls ls.length = D := ⟨_, rfl⟩
    have HD := hide hD
    rw [hD] at HQ HC HO hol ⊢
    clear hD
    go_wp2_with (go_at_call 142; refine HQ.out.mono ?_; rintro e w1 ⟨rfl, K⟩; have HK := hide K; clear K)
    go_ret
    obtain ⟨d', s1, s2, s3, s4, s5⟩ := HK.out
    obtain ⟨q1, q2, q3⟩ := HC.out
    rw [<- s2] at q1 q3 s1
    refine ⟨_, d', rfl, ?_, by rw [HD.out]; exact s3.perm, ⟨s1, s3.up (by rw [<- HD.out]; exact occ_st ls _)⟩, ?_⟩
    ·rw [<- s2]; exact Owns.of_ro s4 (by omega) q1 q2 q3
    ·exact ((Below.refl w.heap.size w).alloc (Nat.le_refl _) _).trans ((HB.out.mono (by omega)).trans (s5.below (by omega) (fun i hi e => by omega)))
  | succ gk =>
   obtain ⟨b, off, _, hb2, hb3, rfl, hcell⟩ := HI.out.resolve_left (by omega)
   have hlt : (i : Int) < (ls.length : Int) := by omega
   have hc : wr.cell? ⟨b, off + i, none⟩ = some (.int .i64 (ln ls i)) := by
    rw [HB.out.cell (p := ⟨b, off + i, none⟩) (show b < w.heap.size + 1 by omega)]
    rw [World.cell?_of_block (w := w) (show (w.alloc (boxO (some ⟨b, off, none⟩) ls.length cap)).heap[b]? = w.heap[b]? from Below.heap_alloc _ _ _ hb3)]
    exact hcell i (by omega)
   clear hcell
   obtain ⟨X, hX⟩ : ∃ X, ln ls i = X := ⟨_, rfl⟩
   have HX := hide hX
   rw [hX] at hc
   clear hX
   by_cases hpos : 0 < X
   ·obtain ⟨O, hO⟩ : ∃ O, occ ls i = O := ⟨_, rfl⟩
    have HOE := hide hO
    rw [hO] at HO hol ⊢
    clear hO
    go_wp2_with (at_builtin; refine wpList_append_own _ rfl _ _ 97 rfl (w.heap.size + 1) 3 i0 (.int .i64 0) 1 8 Tryz.underlying97 hi0 hz0 hz1' hz2' rfl (by decide) _ _ _ rfl (World.ownsRow.alloc HO.out _) ⟨_, 0, none⟩ 1 1 [.int .i64 (i : Int)] rfl rfl (one_int' _ _ _ (by simp)) (by intro u hu; simp at hu; subst hu; rfl) (by unfold maxLen; omega) (by omega) (by simp; omega) ?_; intro v' w4 hown' hgrow hnil; have HOW := hide hown'; have HGR := hide hgrow; clear hown' hgrow hnil)
    go_roundg gk
    case measure => omega
    case rel =>
     refine ⟨i + 1, by omega, by go_num, ?_, ?_⟩
     ·rw [occ, HX.out, if_pos hpos, HOE.out]; exact Owns.push HOW.out
     ·exact (HB.out.alloc (by simpa using hsz) _).grown HGR.out (by simp; omega) (fun g e => (ownsRow_lt HO.out e).1)
   ·have hno : ¬ 0 < ln ls i := by rw [HX.out]; exact hpos
    have HNO := hide (Int.not_lt.1 hno)
    clear hno
    go_wp2_with fail
    go_roundg gk
    case measure => omega
    case rel =>
     refine ⟨i + 1, by omega, by go_num, ?_, HB.out⟩
     rw [occ, if_neg (Int.not_lt.2 HNO.out)]; exact HO.out
#print axioms rarest_c
end Go.Proofs.YteknifnadbmfiaaGreatDoor.L

/- One row of parcels for each bit that a code may have. -/
namespace Go.Proofs.YteknifnadbmfiaaGreatDoor.L
set_option maxRecDepth 100000
open Go Go.RowKit

def rowsP (S : List (Int × Bool)) : Nat -> List (Int × Bool)
 | 0 => S
 | d + 1 => mrgP S (prsP (rowsP S d))
theorem rowsP_length (S : List (Int × Bool)) (d : Nat) : (rowsP S d).length <= 2 * S.length := by
 induction d with
 | zero => rw [rowsP]; omega
 | succ d ih => rw [rowsP, mrgP_length, prsP_length]; omega
theorem mrgP_small {A B : List (Int × Bool)} {W : Int} (hA : Small A W) (hB : Small B W) : Small (mrgP A B) W := by
 have key : ∀ (A B : List (Int × Bool)), (∀ p ∈ A, 0 <= p.1 /\ p.1 <= W) -> (∀ p ∈ B, 0 <= p.1 /\ p.1 <= W) -> ∀ p ∈ mrgP A B, 0 <= p.1 /\ p.1 <= W := by
  intro A
  induction A with
  | nil => intro B _ h; simpa [mrgP] using h
  | cons x A ihA =>
   intro B
   induction B with
   | nil => intro h _; simpa [mrgP] using h
   | cons y B ihB =>
    intro h1 h2 p hp
    rw [mrgP] at hp
    split at hp
    ·rcases List.mem_cons.1 hp with rfl | hp
     ·exact h1 _ (by simp)
     ·exact ihA (y :: B) (fun q hq => h1 q (by simp [hq])) h2 p hp
    ·rcases List.mem_cons.1 hp with rfl | hp
     ·exact h2 _ (by simp)
     ·exact ihB h1 (fun q hq => h2 q (by simp [hq])) p hp
 have mem : ∀ (A : List (Int × Bool)), Small A W -> ∀ p ∈ A, 0 <= p.1 /\ p.1 <= W := by
  intro A h p hp
  obtain ⟨i, hi, rfl⟩ := List.getElem_of_mem hp
  have := h i hi
  rwa [px_in hi] at this
 intro i hi
 rw [px_in hi]
 exact key A B (mem A hA) (mem B hB) _ (List.getElem_mem hi)
theorem prsP_small {A : List (Int × Bool)} {W : Int} (h : Small A W) : Small (prsP A) (2 * W) := by
 intro i hi
 rw [prsP_length] at hi
 rw [prsP_at A hi]
 have h1 := h (2 * i) (by omega)
 have h2 := h (2 * i + 1) (by omega)
 simp only
 omega
theorem Small.mono {A : List (Int × Bool)} {W V : Int} (h : Small A W) (hv : W <= V) : Small A V := fun i hi => by have := h i hi; omega
theorem rowsP_small {S : List (Int × Bool)} (h : Small S 1073741824) (d : Nat) : Small (rowsP S d) (1073741824 * 2 ^ d) := by
 induction d with
 | zero => rw [rowsP]; exact h.mono (by omega)
 | succ d ih =>
  rw [rowsP]
  have e : (1073741824 : Int) * 2 ^ (d + 1) = 2 * (1073741824 * 2 ^ d) := by rw [Int.pow_succ]; omega
  rw [e]
  have hp := pow_pos' d
  exact mrgP_small (h.mono (by omega)) (prsP_small ih)
theorem rowsP_small15 {S : List (Int × Bool)} (h : Small S 1073741824) {d : Nat} (hd : d <= 15) : Small (rowsP S d) 1152921504606846976 := by
 refine (rowsP_small h d).mono ?_
 have : (2 : Nat) ^ d <= 2 ^ 15 := Nat.pow_le_pow_right (by decide) hd
 have h2 : ((2 ^ d : Nat) : Int) <= ((2 ^ 15 : Nat) : Int) := by exact_mod_cast this
 have e1 : ((2 ^ d : Nat) : Int) = (2 : Int) ^ d := by simp
 have e2 : ((2 ^ 15 : Nat) : Int) = 32768 := by decide
 rw [e1, e2] at h2
 omega

def rowV (S : List (Int × Bool)) (gs : List Nat) (i : Nat) : Value := .slice (some ⟨gs.getD i 0, 0, none⟩) (rowsP S i).length (rowsP S i).length
def rowVs (S : List (Int × Bool)) (gs : List Nat) : List Value := (List.range gs.length).map (rowV S gs)
theorem rowVs_at (S : List (Int × Bool)) (gs : List Nat) {k : Nat} (h : k < gs.length) : (rowVs S gs)[k]? = some (rowV S gs k) := by simp [rowVs, h]
theorem rowVs_push (S : List (Int × Bool)) (gs : List Nat) (g : Nat) : rowVs S (gs ++ [g]) = rowVs S gs ++ [.slice (some ⟨g, 0, none⟩) (rowsP S gs.length).length (rowsP S gs.length).length] := by
 unfold rowVs
 rw [List.length_append, List.length_singleton, List.range_succ, List.map_append]
 congr 1
 ·apply List.map_congr_left
  intro i hi
  have : i < gs.length := by simpa using hi
  unfold rowV
  simp [List.getD, List.getElem?_append_left this]
 ·simp [rowV, List.getD]
structure RowsAt (lo : Nat) (S : List (Int × Bool)) (w : World) (v : Value) (gs : List Nat) : Prop where
 owns : w.ownsRow lo 218 1 v gs.length (rowVs S gs)
 rows : ∀ i, i < gs.length -> lo <= gs.getD i 0 /\ PRo (gs.getD i 0) (rowsP S i) w
theorem Tryz.infoPars : (Tryz.prog.info? 218).map (fun i => (i.zero, i.size, i.bytes)) = some (some (.slice none 0 0), 1, 24) := by kernel_rfl

def symP (ls d : List Int) : List (Int × Bool) := d.map fun x => (keyOf ls x, false)
theorem symP_length (ls d : List Int) : (symP ls d).length = d.length := by simp [symP]
theorem symP_at (ls d : List Int) {i : Nat} (h : i < d.length) : px (symP ls d) i = (keyOf ls (ln d i), false) := by
 rw [px_in (by rw [symP_length]; exact h)]; simp [symP, ln_in h]

theorem getD_app_left {gs : List Nat} {g i : Nat} (h : i < gs.length) : (gs ++ [g]).getD i 0 = gs.getD i 0 := by simp only [List.getD, List.getElem?_append_left h]
theorem getD_app_right (gs : List Nat) (g : Nat) : (gs ++ [g]).getD gs.length 0 = g := by simp [List.getD]
theorem own_some {w : World} {base e : Nat} {v : Value} {n : Nat} {xs : List Value} (h : w.ownsRow base e 1 v n xs) (h0 : 0 < n) : ∃ g cap, v = .slice (some ⟨g, 0, none⟩) n cap /\ base <= g := by
 rcases h.2 with ⟨_, h2⟩ | ⟨g, cap, cur, hv, hg, _⟩
 ·omega
 ·exact ⟨g, cap, hv, hg⟩
def RowsOk (S : List (Int × Bool)) (L : Nat) (w : World) (e : Ending) (w' : World) : Prop := ∃ v gs, e = .returned v /\ gs.length = L /\ RowsAt w.heap.size S w' v gs /\ Below w.heap.size w w'
theorem one_par (w : World) (x : Value) (n : Nat) (h : w.heap.size = n) : ∀ j u, [x][j]? = some u -> (w.alloc (.cells #[x] 218)).cell? ((⟨n, 0, none⟩ : Addr).add j) = some u := by
 subst h; exact World.news_of_block (heap_new w (.cells #[x] 218))

set_option maxHeartbeats 2000000 in
set_option maxRecDepth 100000 in
theorem rows_c (lo hi lo2 hi2 : Nat) (a a2 : Option Addr) (cap cap2 : Nat) (ls d : List Int) (L : Nat) (w : World) (h0 : 0 < d.length) (hd : d.length <= 320) (hL1 : 1 <= L) (hL : L <= 15) (hall : All (IsSym ls) d) (hsm : Small (symP ls d) 1073741824) (hI : Ints lo hi w a ls) (hI2 : Ints lo2 hi2 w a2 d) :
  Calls Tryz.prog 135 #[.slice a ls.length cap, .slice a2 d.length cap2, .int .i64 L] w (RowsOk (symP ls d) L w) := by
 obtain ⟨i0, hi0, hz0, hz1', hz2'⟩ := info_parts Tryz.infoPar
 obtain ⟨i1, hi1, hy0, hy1', hy2'⟩ := info_parts Tryz.infoPars
 have hmk := made_pars d.length i0 hi0 hz0 hz1' hz2' (by omega)
 have HI := hide hI
 have HI2 := hide hI2
 have HALL := hide hall
 have HSM := hide hsm
 clear hI hI2 hall hsm
 obtain ⟨b2, off2, _, hb2, hb2w, rfl, hcell2⟩ := HI2.out.resolve_left (by omega)
 have HC2 := hide hcell2
 clear hcell2
 go_enter Tryz.func135, Tryz.ntmps135
 go_wp2_with fail
 go_loopg [16] d.length (fun gk v16 wx => ∃ i : Nat, i + gk = d.length /\ v16 = .int .i64 i /\ Hid (PRo w.heap.size (filP (symP ls d) i) wx /\ Below w.heap.size w wx))
 case atStart =>
  refine ⟨0, by omega, rfl, ?_, (Below.refl _ w).alloc (Nat.le_refl _) _⟩
  rw [filP_zero, symP_length]
  exact heap_new w _
 case round =>
  obtain ⟨i, hig, rfl, HR⟩ := hrel
  cases gk with
  | zero =>
   obtain rfl : i = d.length := by omega
   go_wp2_with fail
   have HRA : Hid (RowsAt w.heap.size (symP ls d) (wr.alloc (.cells #[.slice (some ⟨w.heap.size, 0, none⟩) d.length d.length] 218)) (.slice (some ⟨wr.heap.size, 0, none⟩) 1 1) [w.heap.size]) := by
    have hro : PRo w.heap.size (symP ls d) wr := by
     have := HR.out.1
     rw [<- symP_length ls d, filP_all] at this
     exact this
    refine ⟨⟨by simp [rowVs], .inr ⟨wr.heap.size, 1, #[.slice (some ⟨w.heap.size, 0, none⟩) d.length d.length], rfl, HR.out.2.size, heap_new wr _, Nat.le_refl _, by unfold maxLen; omega, rfl, ?_⟩⟩, fun i hi => ?_⟩
    ·simp [rowVs, rowV, rowsP, symP_length]
    ·have : i = 0 := by simpa using hi
     subst this
     exact ⟨Nat.le_refl _, heap_old hro⟩
   have HBA : Hid (Below w.heap.size w (wr.alloc (.cells #[.slice (some ⟨w.heap.size, 0, none⟩) d.length d.length] 218))) := HR.out.2.alloc HR.out.2.size _
   have hwr : w.heap.size + 1 <= wr.heap.size := by have := HR.out.1.lt; omega
   clear HR HI HC2 HI2 HALL
   go_loopg [10] (L - 1) (fun gk v10 wx => ∃ (gs : List Nat) (g10 c10 : Nat), v10 = .slice (some ⟨g10, 0, none⟩) gs.length c10 /\ w.heap.size <= g10 /\ gs.length + gk = L /\ 1 <= gs.length /\ Hid (gs.getD 0 0 = w.heap.size) /\ Hid (RowsAt w.heap.size (symP ls d) wx (.slice (some ⟨g10, 0, none⟩) gs.length c10) gs /\ Below w.heap.size w wx))
   case atStart => exact ⟨[w.heap.size], wr.heap.size, 1, rfl, by omega, by simp; omega, by simp, rfl, HRA.out, HBA.out⟩
   case round =>
    obtain ⟨gs, g10, c10, rfl, hg10, hgL, hg1, HG0, HG⟩ := hrel
    cases gk with
    | zero =>
     have hge : ¬ (gs.length : Int) < (L : Int) := by omega
     have HGL := hide (show gs.length = L by omega)
     go_wp2_with fail
     go_ret
     exact ⟨_, gs, rfl, HGL.out, HG.out⟩
    | succ g1 =>
     obtain ⟨kp, hkp⟩ : ∃ kp, gs.length = kp + 1 := ⟨gs.length - 1, by omega⟩
     have hltL : (kp : Int) + 1 < (L : Int) := by omega
     have HKP := hide hkp
     have hcell : wr.cell? ⟨g10, kp, none⟩ = some (rowV (symP ls d) gs kp) := by
      rw [World.ownsRow.cellAt HG.out.1.owns kp (by omega)]
      simp [rowVs, hkp]
     obtain ⟨gk0, hgk0⟩ : ∃ gk0, gs.getD kp 0 = gk0 := ⟨_, rfl⟩
     unfold rowV at hcell
     rw [hgk0] at hcell
     have hrow := HG.out.1.rows kp (by omega)
     rw [hgk0] at hrow
     have hsing := HG.out.1.rows 0 (by omega)
     rw [HG0.out] at hsing
     have hlen := rowsP_length (symP ls d) kp
     rw [symP_length] at hlen
     have hpk := pack_c w.heap.size wr.heap.size (some ⟨gk0, 0, none⟩) (rowsP (symP ls d) kp).length (rowsP (symP ls d) kp) wr (by omega) (rowsP_small15 HSM.out (by omega)) (Nat.le_refl _) (Par.of_ro hrow.2 hrow.1 hrow.2.lt)
     have HPK := hide hpk
     have hmg : ∀ w1, PRo wr.heap.size (prsP (rowsP (symP ls d) kp)) w1 -> Below wr.heap.size wr w1 -> Calls Tryz.prog 145 #[.slice (some ⟨w.heap.size, 0, none⟩) d.length d.length, .slice (some ⟨wr.heap.size, 0, none⟩) ((rowsP (symP ls d) kp).length / 2) ((rowsP (symP ls d) kp).length / 2)] w1 fun e w' => e = .returned (.slice (some ⟨w1.heap.size, 0, none⟩) (rowsP (symP ls d) (kp + 1)).length (rowsP (symP ls d) (kp + 1)).length) /\ PRo w1.heap.size (rowsP (symP ls d) (kp + 1)) w' /\ Below w1.heap.size w1 w' := by
      intro w1 k1 k2
      have := merge_c w.heap.size wr.heap.size (symP ls d) (prsP (rowsP (symP ls d) kp)) w1 (hsing.2.kept (Kept.of_below k2) (by have := hsing.2.lt; omega)) k1 (by rw [symP_length]; omega) (by rw [prsP_length]; omega)
      rw [symP_length, prsP_length] at this
      have e : d.length + (rowsP (symP ls d) kp).length / 2 = (rowsP (symP ls d) (kp + 1)).length := by rw [rowsP, mrgP_length, symP_length, prsP_length]
      rw [e] at this
      exact this
     have HMG := hide hmg
     clear hpk hmg hrow hsing hgk0
     obtain ⟨RL, hRL⟩ : ∃ RL, (rowsP (symP ls d) kp).length = RL := ⟨_, rfl⟩
     obtain ⟨RN, hRN⟩ : ∃ RN, (rowsP (symP ls d) (kp + 1)).length = RN := ⟨_, rfl⟩
     have HRN := hide hRN
     rw [hRL] at hcell HPK HMG
     rw [hRN] at HMG
     clear hRL hRN hlen
     rw [hkp]
     have hsz0 : w.heap.size <= wr.heap.size := HG.out.2.size
     clear hkp hg1
     go_wp2_with (first
      | (go_at_call 146; refine HPK.out.mono ?_; rintro e w1 ⟨rfl, k1, k2⟩; have HP1 := hide k1; have HP2 := hide k2; clear k1 k2)
      | (go_at_call 145; refine (HMG.out _ HP1.out HP2.out).mono ?_; rintro e w2 ⟨rfl, k1, k2⟩; have HM1 := hide k1; have HM2 := hide k2; have HBB := hide (HP2.out.trans (k2.mono HP2.out.size)); have HOW := hide (ownsRow_kept HG.out.1.owns (Kept.of_below HBB.out) (fun g hg e => by have := (ownsRow_lt HG.out.1.owns hg).2; omega)); have hsz2 := HBB.out.size; rw [HKP.out] at HOW; clear k1 k2)
      | (at_builtin; refine wpList_append_own _ rfl _ _ 212 rfl w.heap.size 218 i1 (.slice none 0 0) 1 24 Tryz.underlying212 hi1 hy0 hy1' hy2' rfl (by decide) _ _ _ rfl (World.ownsRow.alloc HOW.out _) ⟨_, 0, none⟩ 1 1 [.slice (some ⟨w1.heap.size, 0, none⟩) RN RN] rfl rfl (one_par _ _ _ (by simp)) (by intro u hu; simp at hu; subst hu; rfl) (by unfold maxLen; omega) (by omega) (by simp; omega) ?_; intro v' w4 hown' hgrow hnil; have HO4 := hide hown'; have HGR : Hid (World.grownBy _ w4 (some g10)) := hgrow; clear hown' hgrow hnil; obtain ⟨g4, c4, rfl, hg4⟩ := own_some HO4.out (by omega)))
     go_roundg g1
     case measure => omega
     case rel =>
      have hkp := HKP.out
      have hg10lt : g10 < wr.heap.size := (ownsRow_lt HG.out.1.owns rfl).2
      have hKG := Kept.of_grown HGR.out
      have hsz1 : wr.heap.size <= w1.heap.size := HP2.out.size
      have keep : ∀ g xs, PRo g xs w2 -> g ≠ g10 -> PRo g xs w4 := fun g xs hp hne =>
       PRo.kept (heap_old hp : PRo g xs (w2.alloc _)) hKG (fun e => hne (by simpa using e))
      refine ⟨gs ++ [w1.heap.size], g4, c4, by simp [hkp], hg4, by simp; omega, by simp, ?_, ⟨?_, fun i hi => ?_⟩, ?_⟩
      ·have := HG0.out
       show (gs ++ [w1.heap.size]).getD 0 0 = w.heap.size
       rw [<- this]
       exact getD_app_left (show 0 < gs.length by omega)
      ·have := HO4.out
       rw [rowVs_push, hkp, HRN.out, List.length_append, hkp]
       exact this
      ·rw [List.length_append, List.length_singleton] at hi
       by_cases c : i < gs.length
       ·have e : (gs ++ [w1.heap.size]).getD i 0 = gs.getD i 0 := getD_app_left c
        rw [e]
        obtain ⟨q1, q2⟩ := HG.out.1.rows i c
        refine ⟨q1, keep _ _ (q2.kept (Kept.of_below HBB.out) (by have := q2.lt; omega)) ?_⟩
        intro e2
        exact ownsRow_apart HG.out.1.owns q2 (by decide) (by rw [e2]; rfl)
       ·have ei : i = gs.length := by omega
        have e : (gs ++ [w1.heap.size]).getD i 0 = w1.heap.size := by rw [ei]; exact getD_app_right _ _
        rw [e, ei, hkp]
        exact ⟨by omega, keep _ _ HM1.out (by omega)⟩
      ·exact ((HG.out.2.trans (HBB.out.mono hsz0)).alloc (by omega) _).grown HGR.out (by simp; omega) (fun g e => by have := (ownsRow_lt HG.out.1.owns e).1; omega)
  | succ g1 =>
   have hlt : (i : Int) < (d.length : Int) := by omega
   obtain ⟨x, hx, hxl⟩ := HALL.out.at (i := i) (by omega)
   obtain ⟨b, off, _, hb, hbw, rfl, hcell⟩ := HI.out.resolve_left (by omega)
   have c2 : wr.cell? ⟨b2, off2 + i, none⟩ = some (.int .i64 (x : Int)) := by
    rw [HR.out.2.cell (p := ⟨b2, off2 + i, none⟩) (show b2 < w.heap.size by omega), HC2.out i (by omega), hx]
   have c1 : wr.cell? ⟨b, off + x, none⟩ = some (.int .i64 (ln ls x)) := by
    rw [HR.out.2.cell (p := ⟨b, off + x, none⟩) (show b < w.heap.size by omega), hcell x hxl]
   have hxl' : (x : Int) < (ls.length : Int) := by omega
   have t0 := HR.out.1.c0 (i := i) (by rw [filP_length, symP_length]; omega)
   have f0 := HR.out.1.free (2 * i)
   have hset := HR.out.1.set0 (i := i) (by rw [filP_length, symP_length]; omega) (ln ls x)
   have hpz : px (filP (symP ls d) i) i = (0, false) := by rw [filP_at _ i (by rw [symP_length]; omega), if_neg (by omega)]
   have hkey : ((ln ls x, false) : Int × Bool) = px (symP ls d) i := by rw [symP_at ls d (by omega)]; unfold keyOf; rw [hx]; simp
   rw [hpz] at t0 hset
   simp only at t0 hset
   rw [hkey, filP_set _ i (by rw [symP_length]; omega)] at hset
   rw [show 2 * i = i * 2 by omega] at t0 f0 hset
   have HSET := hide hset
   clear hset hcell hkey hpz hx
   generalize ln ls x = X at c1 HSET
   go_wp2_with fail
   go_roundg g1
   case measure => omega
   case rel => exact ⟨i + 1, by omega, by go_num, HSET.out, HR.out.2.setCell (Nat.le_refl _) _⟩
#print axioms rows_c
end Go.Proofs.YteknifnadbmfiaaGreatDoor.L

/- Symbols are given lengths: row by row, the last one first. -/
namespace Go.Proofs.YteknifnadbmfiaaGreatDoor.L
set_option maxRecDepth 100000
open Go Go.RowKit

def cnt (R : List (Int × Bool)) : Nat -> Nat
 | 0 => 0
 | j + 1 => cnt R j + if (px R j).2 then 0 else 1
theorem cnt_le (R : List (Int × Bool)) (j : Nat) : cnt R j <= j := by
 induction j with
 | zero => simp [cnt]
 | succ j ih => rw [cnt]; split <;> omega
theorem cnt_mono (R : List (Int × Bool)) {i j : Nat} (h : i <= j) : cnt R i <= cnt R j := by
 induction j with
 | zero => have : i = 0 := by omega
           subst this; exact Nat.le_refl _
 | succ j ih =>
  by_cases e : i = j + 1
  ·subst e; exact Nat.le_refl _
  ·have := ih (by omega)
   rw [cnt]; omega
theorem cnt_cons (x : Int × Bool) (R : List (Int × Bool)) (j : Nat) : cnt (x :: R) (j + 1) = (if x.2 then 0 else 1) + cnt R j := by
 induction j with
 | zero => simp [cnt, px]
 | succ j ih =>
  rw [cnt, ih, cnt]
  have : px (x :: R) (j + 1) = px R j := by simp [px]
  rw [this]; omega
def incD (E d : List Int) : Nat -> List Int
 | 0 => E
 | m + 1 => (incD E d m).set (ln d m).toNat (ln (incD E d m) (ln d m).toNat + 1)
theorem incD_length (E d : List Int) (m : Nat) : (incD E d m).length = E.length := by
 induction m with
 | zero => rfl
 | succ m ih => rw [incD, List.length_set, ih]
def lenGo (S : List (Int × Bool)) (d : List Int) : Nat -> Nat -> List Int -> List Int
 | 0, _, E => E
 | k + 1, T, E => lenGo S d k (2 * (T - cnt (rowsP S k) T)) (incD E d (cnt (rowsP S k) T))
def TakeOk (S : List (Int × Bool)) (n : Nat) : Nat -> Nat -> Prop
 | 0, _ => True
 | k + 1, T => T <= (rowsP S k).length /\ cnt (rowsP S k) T <= n /\ TakeOk S n k (2 * (T - cnt (rowsP S k) T))
def Bd (E : List Int) (b : Int) : Prop := ∀ i, 0 <= ln E i /\ ln E i <= b
theorem Bd.inc {E d : List Int} {b : Int} {m : Nat} (h : Bd (incD E d m) b) (hx : (ln d m).toNat < E.length) : Bd (incD E d (m + 1)) (b + 1) := by
 intro i
 rw [incD, ln_set _ _ _ (by rw [incD_length]; exact hx)]
 have h1 := h i
 have h2 := h (ln d m).toNat
 split <;> omega
def LenOk (gl : Nat) (sp : Array Value) (F : List Int) (w : World) (e : Ending) (w' : World) : Prop := e = .returned (.tuple #[]) /\ Ro gl sp F w' /\ Kept (fun i => i = gl) w w'

set_option maxHeartbeats 2000000 in
set_option maxRecDepth 100000 in
theorem lengthen_c (gl : Nat) (sp : Array Value) (capl lo2 hi2 : Nat) (a2 : Option Addr) (cap2 lo g10 c10 : Nat) (S : List (Int × Bool)) (ls d E0 : List Int) (gs : List Nat) (L : Nat) (w : World) (h2 : 2 <= d.length) (hd : d.length <= 320) (hL : L <= 15) (hgs : gs.length = L) (hS : S.length = d.length)
  (hall : All (IsSym ls) d) (hE : E0.length = ls.length) (hl : Ro gl sp E0 w) (hB : Bd E0 0) (hI2 : Ints lo2 hi2 w a2 d) (hlo2 : hi2 <= gl) (hR : RowsAt lo S w (.slice (some ⟨g10, 0, none⟩) L c10) gs) (hlo : gl < lo) (hT : TakeOk S d.length L (2 * d.length - 2)) :
  Calls Tryz.prog 134 #[.slice (some ⟨gl, 0, none⟩) ls.length capl, .slice a2 d.length cap2, .slice (some ⟨g10, 0, none⟩) L c10] w (LenOk gl sp (lenGo S d L (2 * d.length - 2) E0) w) := by
 have HL := hide hl
 have HR := hide hR
 have HALL := hide hall
 have HE := hide hE
 have HGS := hide hgs
 have HT0 := hide hT
 have HBD := hide hB
 obtain ⟨b2, off2, _, hb2, hb2w, rfl, hcell2⟩ := hI2.resolve_left (by omega)
 have HC2 := hide hcell2
 have hg10 : lo <= g10 := by
  rcases hR.owns.2 with ⟨h, _⟩ | ⟨g, cap, cur, hv, hg, _⟩
  ·simp at h
  ·simp only [Value.slice.injEq, Option.some.injEq, Addr.mk.injEq] at hv
   omega
 obtain ⟨T0, hT0⟩ : ∃ T0, 2 * d.length - 2 = T0 := ⟨_, rfl⟩
 have hT0' : 2 * (d.length : Int) - 2 = (T0 : Int) := by omega
 have hT0b : T0 <= 640 := by omega
 rw [hT0] at HT0 ⊢
 clear hl hR hall hE hgs hT hB hI2 hcell2 hT0
 go_enter Tryz.func134, Tryz.ntmps134
 go_wp2_with fail
 go_loopg [6, 7] L (fun k v6 v7 wx => ∃ (T : Nat) (E : List Int), v6 = .int .i64 T /\ v7 = .int .i64 ((k : Int) - 1) /\ k <= L /\ T <= 1280 /\ Hid (TakeOk S d.length k T /\ lenGo S d k T E = lenGo S d L T0 E0 /\ E.length = ls.length /\ Bd E (((L - k : Nat) : Int) * 1000) /\ Ro gl sp E wx /\ Kept (fun i => i = gl) w wx))
 case atStart => exact ⟨T0, E0, rfl, rfl, Nat.le_refl _, by omega, HT0.out, rfl, HE.out, by simpa using HBD.out, HL.out, Kept.refl _ _⟩
 case round =>
  obtain ⟨T, E, rfl, rfl, hkL, hT, HI⟩ := hrel
  cases gk with
  | zero =>
   go_wp2_with fail
   go_end0
   obtain ⟨q1, q2, q3, q4, q5, q6⟩ := HI.out
   refine ⟨rfl, ?_, q6⟩
   rw [<- q2]; exact q5
  | succ k =>
   have hk0 : (0 : Int) <= ((k + 1 : Nat) : Int) - 1 := by omega
   have hkk : ((k + 1 : Nat) : Int) - 1 = (k : Int) := by omega
   have hkl : (k : Int) < (L : Int) := by omega
   rw [hkk]
   have hrow := HR.out.rows k (by rw [HGS.out]; omega)
   obtain ⟨gr, hgr⟩ : ∃ gr, gs.getD k 0 = gr := ⟨_, rfl⟩
   rw [hgr] at hrow
   have crow : wr.cell? ⟨g10, k, none⟩ = some (.slice (some ⟨gr, 0, none⟩) (rowsP S k).length (rowsP S k).length) := by
    have hlt : g10 < w.heap.size := (ownsRow_lt HR.out.owns rfl).2
    rw [HI.out.2.2.2.2.2.cell (p := ⟨g10, k, none⟩) hlt (show ¬ g10 = gl by omega)]
    have ho := HR.out.owns
    rw [HGS.out] at ho
    rw [World.ownsRow.cellAt ho k (by omega)]
    rw [rowVs_at S gs (by rw [HGS.out]; omega)]
    unfold rowV
    rw [hgr]
   have HROW := hide hrow
   obtain ⟨R, hRk⟩ : ∃ R, rowsP S k = R := ⟨_, rfl⟩
   have HRK := hide hRk
   have hTl : T <= (rowsP S k).length := HI.out.1.1
   have hRl := rowsP_length S k
   rw [hRk] at HROW crow hTl hRl
   clear hrow hgr hRk hkk hk0
   have hTl' : (T : Int) <= (R.length : Int) := by omega
   go_wp2_with fail
   clear crow
   go_loopg [8, 29] T (fun gj v8 v29 wx => ∃ j : Nat, v8 = .int .i64 (cnt R j : Int) /\ v29 = .int .i64 j /\ j + gj = T /\ Hid (Ro gl sp (incD E d (cnt R j)) wx /\ Bd (incD E d (cnt R j)) (((L - (k + 1) : Nat) : Int) * 1000 + cnt R j) /\ Kept (fun i => i = gl) w wx))
   case atStart => exact ⟨0, rfl, rfl, by omega, HI.out.2.2.2.2.1, by simpa [cnt, incD] using HI.out.2.2.2.1, HI.out.2.2.2.2.2⟩
   case round =>
    obtain ⟨j, rfl, rfl, hjT, HJ⟩ := hrel
    cases gk with
    | zero =>
     obtain rfl : j = T := by omega
     have hcl := cnt_le R j
     obtain ⟨C, hC⟩ : ∃ C, cnt R j = C := ⟨_, rfl⟩
     have HCC := hide hC
     rw [hC] at HJ hcl ⊢
     clear hC
     go_wp2_with fail
     go_roundg k
     case measure => omega
     case rel =>
      obtain ⟨q1, q2, q3, q4, q5, q6⟩ := HI.out
      obtain ⟨r1, r2, r3⟩ := HJ.out
      obtain ⟨t1, t2, t3⟩ := q1
      rw [lenGo] at q2
      rw [HRK.out, HCC.out] at q2 t2 t3
      refine ⟨2 * (j - C), incD E d C, by go_num, rfl, by omega, by omega, t3, q2, by rw [incD_length]; exact q3, ?_, r1, r3⟩
      intro i
      have := r2 i
      omega
    | succ gj =>
     have hlt : (j : Int) < (T : Int) := by omega
     have hro : PRo gr R wr := HROW.out.2.kept HJ.out.2.2 (by have := HROW.out.1; omega)
     have c0 := hro.c0 (i := j) (by omega)
     have c1 := hro.c1 (i := j) (by omega)
     rw [show 2 * j = j * 2 by omega] at c0 c1
     have hgrw := hro.lt
     obtain ⟨y, hy⟩ : ∃ y, px R j = y := ⟨_, rfl⟩
     have HY := hide hy
     rw [hy] at c0 c1
     clear hy hro
     obtain ⟨Y, YB⟩ := y
     simp only at c0 c1
     have hcj : cnt R j <= j := cnt_le R j
     cases YB with
     | true =>
      go_wp2_with fail
      go_roundg gj
      case measure => omega
      case rel =>
       have e : cnt R (j + 1) = cnt R j := by rw [cnt, HY.out]; simp
       refine ⟨j + 1, by rw [e], by go_num, by omega, ?_⟩
       rw [e]
       exact ⟨heap_old HJ.out.1, HJ.out.2.1, Kept.alloc _ HJ.out.2.2 _⟩
     | false =>
      have e : cnt R (j + 1) = cnt R j + 1 := by rw [cnt, HY.out]; simp
      have hcm : cnt R (j + 1) <= cnt R T := cnt_mono R (by omega)
      have hcd : cnt R T <= d.length := by rw [<- HRK.out]; exact HI.out.1.2.1
      have EE := hide e
      obtain ⟨C, hC⟩ : ∃ C, cnt R j = C := ⟨_, rfl⟩
      have HCC := hide hC
      rw [hC] at HJ hcj ⊢
      have hCd : C < d.length := by omega
      have hCd' : (C : Int) < (d.length : Int) := by omega
      clear hC e hcm hcd
      obtain ⟨x, hx, hxl⟩ := HALL.out.at (i := C) hCd
      have hxl' : (x : Int) < (ls.length : Int) := by omega
      have cd : wr.cell? ⟨b2, off2 + C, none⟩ = some (.int .i64 (x : Int)) := by
       rw [HJ.out.2.2.cell (p := ⟨b2, off2 + C, none⟩) hb2w (show ¬ b2 = gl by omega), HC2.out C hCd, hx]
      have hel : (incD E d C).length = ls.length := by rw [incD_length]; exact HI.out.2.2.1
      have cl := HJ.out.1.cell (i := x) (by rw [hel]; exact hxl)
      have fl := HJ.out.1.free x
      have hset := HJ.out.1.set (i := x) (by rw [hel]; exact hxl) (ln (incD E d C) x + 1)
      have bl := HJ.out.2.1 x
      have hinc : (incD E d C).set x (ln (incD E d C) x + 1) = incD E d (C + 1) := by rw [incD, hx]; simp
      rw [hinc] at hset
      have hbd : Bd (incD E d (C + 1)) (((L - (k + 1) : Nat) : Int) * 1000 + ((C + 1 : Nat) : Int)) := by
       have := HJ.out.2.1.inc (by rw [hx, HI.out.2.2.1]; simpa using hxl)
       intro i
       have := this i
       omega
      have HSET := hide hset
      have HBD2 := hide hbd
      have hglw : gl < wr.heap.size := HJ.out.1.lt
      have hb2r : b2 < wr.heap.size := lt_of_cell cd
      clear hset hinc hbd hx hel
      generalize ln (incD E d C) x = V at cl bl HSET
      have bl2 : V <= 100000 := by omega
      have bl1 := bl.1
      clear bl
      go_wp2_with fail
      go_roundg gj
      case measure => omega
      case rel =>
       refine ⟨j + 1, by rw [EE.out, HCC.out]; go_num, by go_num, by omega, ?_⟩
       rw [EE.out, HCC.out]
       exact ⟨heap_old HSET.out, HBD2.out, Kept.alloc _ (HJ.out.2.2.setCell (fun _ => rfl) _) _⟩
#print axioms lengthen_c
end Go.Proofs.YteknifnadbmfiaaGreatDoor.L
