/- The finder's run: contract. -/
import Derived.Test.YteknifnadbmfiaaGreatDoorpMg01MRun
import Derived.WalkMore
namespace Go.Proofs.YteknifnadbmfiaaGreatDoor.M
set_option maxRecDepth 100000
open Go Go.RowKit
section
variable {B : Nat} {w w' : World} {bf bb : Nat} {a : Option Addr} {cap : Nat} {zs : List Int} {tr n : Nat} {la be : Nat -> Nat}

def RunGot (B : Nat) (bf bb : Nat) (a : Option Addr) (cap : Nat) (zs : List Int) (tr : Nat) (p : Nat) (w : World) (e : Ending) (w' : World) : Prop :=
 ∃ L Bk : Nat, e = .returned (.agg #[.int .u8 0, .int .i64 (L : Int), .int .i64 (Bk : Int)]) /\ RunOk zs p L Bk /\ RunIs zs p tr L Bk /\ ∃ m, m <= p /\ NSt B bf bb a cap zs tr w w' m
theorem NSt.alloc {B : Nat} {bf bb : Nat} {a : Option Addr} {cap : Nat} {zs : List Int} {tr : Nat} {w wx : World} {m : Nat} {o : Obj} (h : NSt B bf bb a cap zs tr (w.alloc o) wx m) : NSt B bf bb a cap zs tr w wx m := by
 obtain ⟨la, be, h1, h2, h3⟩ := h
 exact ⟨la, be, h1, h2, Kept.trans (Kept.alloc _ (Kept.refl _ _) _) h3 (fun _ _ e => e)⟩
theorem NSt.tok {B : Nat} {bf bb : Nat} {a : Option Addr} {cap : Nat} {zs : List Int} {tr : Nat} {w wx : World} {m : Nat} (h : NSt B bf bb a cap zs tr w wx m) {rb : Nat} (h1 : w.heap.size <= rb) (h2 : B <= rb) (h3 : rb ≠ bf) (h4 : rb ≠ bb) (i : Nat) (v : Value) : NSt B bf bb a cap zs tr w (wx.setCell ⟨rb, i, none⟩ v) m := by
 obtain ⟨la, be, k1, k2, k3⟩ := h
 have hk : Kept (fun b => b = rb) wx (wx.setCell ⟨rb, i, none⟩ v) := Kept.setCell (M := fun b => b = rb) (Kept.refl _ wx) (fun _ => rfl) _
 exact ⟨la, be, k1.kept hk (fun e => h3 e.symm) (fun e => h4 e.symm) (fun b hb e => by omega), k2, Kept.trans k3 hk (fun i hi e => by omega)⟩

set_option maxHeartbeats 4000000 in
theorem run_c (h : FinAt B w bf bb a cap zs tr n la be) (hch : Chain (sl zs) n la be) (p : Nat) (hn : n <= p) (hp : p <= zs.length) (hl : zs.length <= 1000000000) (hcap : cap <= 9223372036854775807) (htr : 64 <= tr) (htr2 : tr <= 1000) :
  Calls Tryz.prog 54 #[.pointer (some ⟨bf, 0, none⟩), .int .i64 (p : Int)] w (RunGot B bf bb a cap zs tr p w) := by
 have hBw : B <= w.heap.size := by have := h.inb; have := h.flt; omega
 have hbf := h.flt
 have hbb := h.blt
 have c0 := h.c0
 obtain ⟨most, hmost⟩ : ∃ most, min (zs.length - p) 258 = most := ⟨_, rfl⟩
 have hmin : (if 258 < (zs.length : Int) - (p : Int) then (258 : Int) else (zs.length : Int) - (p : Int)) = (most : Int) := by omega
 have hm258 : most <= 258 := by omega
 by_cases h3 : most < 3
 case pos =>
  have HOK : Hid (RunGot B bf bb a cap zs tr p w (.returned (.agg #[.int .u8 0, .int .i64 0, .int .i64 0])) (w.alloc (tO (0, 0, 0)))) := by
   refine ⟨0, 0, rfl, ⟨.inl ⟨rfl, rfl⟩, fun b n b1 b2 b3 n1 n2 _ => by omega⟩, .inl ⟨by omega, rfl, rfl⟩, n, hn, ?_⟩
   exact ⟨la, be, h.stay ((Below.refl _ w).alloc (Nat.le_refl _) _), hch, Kept.alloc _ (Kept.refl _ _) _⟩
  clear h hch hmost
  go_enter Tryz.func54, Tryz.ntmps54
  go_wp2_with fail
  go_step3
  go_wp2_with fail
  rw [Exit.noGoto_ret]
  exact bodyPost_ret (v := .agg #[.int .u8 0, .int .i64 0, .int .i64 0]) (by simp [results, Tryz.results54, go_sem]) rfl HOK.out
 have h3' : ¬ (most : Int) < 3 := by omega
 have HM := hide hmost
 have hnote := hide (note_c (h.stay ((Below.refl _ w).alloc (Nat.le_refl _) (tO (0, 0, 0)))) hch p hn (by omega) hl hcap)
 clear h hch hmost
 go_enter Tryz.func54, Tryz.ntmps54
 go_wp2_with fail
 go_step3
 go_upto_region 5 with (go_at_call 72; refine hnote.out.mono ?_; rintro e w1 ⟨rfl, hN⟩; have HN := hide hN; clear hN)
 obtain ⟨la', be', hF, hC, hK⟩ := HN.out
 have HF := hide hF
 have HC := hide hC
 have hs := sl_lt zs p
 have HS0 := hide (Srch.start hC (most := most) (by omega))
 have hla := hC.la_le (sl zs p)
 obtain ⟨s, hsd⟩ : ∃ s, sl zs p = s := ⟨_, rfl⟩
 have hres : w1.heap[w.heap.size]? = some (tO (0, 0, 0)) := hK.heap (tok_new w (0, 0, 0)) (by omega)
 have hrl := lt_of_block hres
 have hslot : ∀ q, Calls Tryz.prog 73 #[.pointer (some ⟨bf, 0, none⟩), .int .i64 (p : Int)] (w1.drewN q) fun e w' => e = .returned (.int .i64 (s : Int)) /\ ∃ m, w' = (w1.drewN q).drewN m := fun q => by
  have := slot_c (hF.drewN q) p (by omega) hl hcap
  rw [hsd] at this
  exact this
 rw [hsd] at HS0 hla hs
 have HSL := hide hslot
 have c3 := hF.c3 hs
 have c1 := hF.c1
 have c4 := hF.c4
 have c0 := hF.c0
 have i3 : (0 : Int) <= (s : Int) := by omega
 have i4 : (s : Int) < 16384 := by omega
 obtain ⟨A, hA⟩ : ∃ A, la' s = A := ⟨_, rfl⟩
 rw [hA] at c3 HS0 hla
 have hw1 : IntKind.i64.wrap (A : Int) = (A : Int) := by simp only [IntKind.wrap_i64]; omega
 have hw2 : IntKind.i64.wrap ((A : Int) - 1) = (A : Int) - 1 := by simp only [IntKind.wrap_i64]; omega
 clear hF hC hslot hA hnote
 go_quiet ((go_at_call 73; exact Calls.quiet_of (HSL.out _)))
 go_wp2_with fail
 go_step3
 go_wp2_with fail
 have r0 := cells_of hres 0
 have r1 := cells_of hres 1
 have r2 := cells_of hres 2
 have f0 := free_of hres 0
 have f1 := free_of hres 1
 have f2 := free_of hres 2
 simp at r0 r1 r2
 have HFIN : Hid (∀ q L Bk : Nat, RunOk zs p L Bk /\ RunIs zs p tr L Bk -> RunGot B bf bb a cap zs tr p w (.returned (.agg #[.int .u8 0, .int .i64 (L : Int), .int .i64 (Bk : Int)])) ((((w1.drewN q).setCell ⟨w.heap.size, 0, none⟩ (.int .u8 0)).setCell ⟨w.heap.size, 1, none⟩ (.int .i64 (L : Int))).setCell ⟨w.heap.size, 2, none⟩ (.int .i64 (Bk : Int)))) := by
  intro q L Bk hok
  have h0 : NSt B bf bb a cap zs tr w (w1.drewN q) p := NSt.alloc (o := tO (0, 0, 0)) ⟨la', be', HF.out.drewN q, HC.out, hK.drewN q⟩
  exact ⟨L, Bk, rfl, hok.1, hok.2, p, Nat.le_refl _, ((h0.tok (Nat.le_refl _) hBw (by omega) (by omega) _ _).tok (Nat.le_refl _) hBw (by omega) (by omega) _ _).tok (Nat.le_refl _) hBw (by omega) (by omega) _ _⟩
 clear hres hK HN c3 hw1 hw2 HSL
 go_loopg [6, 7, 8, 38] tr (fun gk v6 v7 v8 v38 wx => ∃ k A L Bk q : Nat, k + gk = tr /\ v6 = .int .i64 ((A : Int) - 1) /\ v7 = .int .i64 L /\ v8 = .int .i64 Bk /\ v38 = .int .i64 k /\ Hid (Srch zs p most k A L Bk) /\ wx = w1.drewN q)
 case atStart => exact ⟨0, A, 2, 0, nq, by omega, rfl, rfl, rfl, rfl, HS0.out, rfl⟩
 case round =>
  clear HS0 hla
  obtain ⟨k, A, L, Bk, q, hkg, rfl, rfl, rfl, rfl, HS, rfl⟩ := hrel
  have HE : Hid (A = 0 \/ 32768 < p - (A - 1) \/ L = most \/ k = tr -> RunOk zs p (if Bk = 0 then 0 else L) Bk /\ RunIs zs p tr (if Bk = 0 then 0 else L) Bk) := fun he => ⟨HS.out.done HM.out.symm (by omega) (by omega), HS.out.runIs HM.out.symm (by omega) (by omega) he⟩
  have hle := HS.out.le
  have hlm := HS.out.lm
  have hL2 : 2 <= L := by
   rcases HS.out.is with h' | h'
   ·omega
   ·have := h'.l3; omega
  have r0' : (w1.drewN q).cell? ⟨w.heap.size, 0, none⟩ = some (.int .u8 0) := r0
  have r1' : (w1.drewN q).cell? ⟨w.heap.size, 1, none⟩ = some (.int .i64 0) := r1
  have r2' : (w1.drewN q).cell? ⟨w.heap.size, 2, none⟩ = some (.int .i64 0) := r2
  have f0' : (w1.drewN q).frozen? ⟨w.heap.size, 0, none⟩ = false := f0
  have f1' : (w1.drewN q).frozen? ⟨w.heap.size, 1, none⟩ = false := f1
  have f2' : (w1.drewN q).frozen? ⟨w.heap.size, 2, none⟩ = false := f2
  have hrl' : w.heap.size < (w1.drewN q).heap.size := hrl
  have HFQ := hide (HFIN.out q)
  by_cases e1 : k = tr
  ·have hok := HE.out (by omega)
   have hge : ¬ (k : Int) < (tr : Int) := by omega
   clear HE HS HFIN
   by_cases hB0 : Bk = 0
   ·subst hB0
    rw [if_pos rfl] at hok
    have HG := hide (HFQ.out 0 0 hok)
    clear hok HFQ
    generalize w1.drewN q = w2 at r0' r1' r2' f0' f1' f2' hrl' HG ⊢
    go_wp2_with fail
    refine bodyPost_ret (v := .agg #[.int .u8 0, .int .i64 0, .int .i64 0]) ?_ rfl HG.out
    simp [results, Tryz.results54, go_sem, r0', r1', r2']
   ·rw [if_neg hB0] at hok
    have HG := hide (HFQ.out L Bk hok)
    have hB1 : ¬ (Bk : Int) = 0 := by omega
    clear hok HFQ hB0
    generalize w1.drewN q = w2 at r0' r1' r2' f0' f1' f2' hrl' HG ⊢
    go_wp2_with fail
    refine bodyPost_ret (v := .agg #[.int .u8 0, .int .i64 (L : Int), .int .i64 (Bk : Int)]) ?_ rfl HG.out
    simp [results, Tryz.results54, go_sem, r0', r1', r2']
  have hlt : (k : Int) < (tr : Int) := by omega
  by_cases e2 : A = 0
  ·have hok := HE.out (by omega)
   subst e2
   clear HE HS HFIN
   by_cases hB0 : Bk = 0
   ·subst hB0
    rw [if_pos rfl] at hok
    have HG := hide (HFQ.out 0 0 hok)
    clear hok HFQ
    generalize w1.drewN q = w2 at r0' r1' r2' f0' f1' f2' hrl' HG ⊢
    go_wp2_with fail
    refine bodyPost_ret (v := .agg #[.int .u8 0, .int .i64 0, .int .i64 0]) ?_ rfl HG.out
    simp [results, Tryz.results54, go_sem, r0', r1', r2']
   ·rw [if_neg hB0] at hok
    have HG := hide (HFQ.out L Bk hok)
    have hB1 : ¬ (Bk : Int) = 0 := by omega
    clear hok HFQ hB0
    generalize w1.drewN q = w2 at r0' r1' r2' f0' f1' f2' hrl' HG ⊢
    go_wp2_with fail
    refine bodyPost_ret (v := .agg #[.int .u8 0, .int .i64 (L : Int), .int .i64 (Bk : Int)]) ?_ rfl HG.out
    simp [results, Tryz.results54, go_sem, r0', r1', r2']
  obtain ⟨A, rfl⟩ : ∃ A', A = A' + 1 := ⟨A - 1, by omega⟩
  have hv : ((A + 1 : Nat) : Int) - 1 = (A : Int) := by omega
  rw [hv]
  rw [show A + 1 - 1 = A by omega] at HE
  clear hv e2
  have hA0 : ¬ (A : Int) < 0 := by omega
  by_cases e3 : 32768 < p - A
  ·have hok := HE.out (by omega)
   have hfar : 32768 < (p : Int) - (A : Int) := by omega
   clear HE HS HFIN
   by_cases hB0 : Bk = 0
   ·subst hB0
    rw [if_pos rfl] at hok
    have HG := hide (HFQ.out 0 0 hok)
    clear hok HFQ
    generalize w1.drewN q = w2 at r0' r1' r2' f0' f1' f2' hrl' HG ⊢
    go_wp2_with fail
    refine bodyPost_ret (v := .agg #[.int .u8 0, .int .i64 0, .int .i64 0]) ?_ rfl HG.out
    simp [results, Tryz.results54, go_sem, r0', r1', r2']
   ·rw [if_neg hB0] at hok
    have HG := hide (HFQ.out L Bk hok)
    have hB1 : ¬ (Bk : Int) = 0 := by omega
    clear hok HFQ hB0
    generalize w1.drewN q = w2 at r0' r1' r2' f0' f1' f2' hrl' HG ⊢
    go_wp2_with fail
    refine bodyPost_ret (v := .agg #[.int .u8 0, .int .i64 (L : Int), .int .i64 (Bk : Int)]) ?_ rfl HG.out
    simp [results, Tryz.results54, go_sem, r0', r1', r2']
  have hfar : ¬ 32768 < (p : Int) - (A : Int) := by omega
  by_cases e4 : L = most
  ·have hok := HE.out (by omega)
   subst e4
   clear HE HS HFIN
   by_cases hB0 : Bk = 0
   ·subst hB0
    rw [if_pos rfl] at hok
    have HG := hide (HFQ.out 0 0 hok)
    clear hok HFQ
    generalize w1.drewN q = w2 at r0' r1' r2' f0' f1' f2' hrl' HG ⊢
    go_wp2_with fail
    refine bodyPost_ret (v := .agg #[.int .u8 0, .int .i64 0, .int .i64 0]) ?_ rfl HG.out
    simp [results, Tryz.results54, go_sem, r0', r1', r2']
   ·rw [if_neg hB0] at hok
    have HG := hide (HFQ.out L Bk hok)
    have hB1 : ¬ (Bk : Int) = 0 := by omega
    clear hok HFQ hB0
    generalize w1.drewN q = w2 at r0' r1' r2' f0' f1' f2' hrl' HG ⊢
    go_wp2_with fail
    refine bodyPost_ret (v := .agg #[.int .u8 0, .int .i64 (L : Int), .int .i64 (Bk : Int)]) ?_ rfl HG.out
    simp [results, Tryz.results54, go_sem, r0', r1', r2']
  have hLm : ¬ (L : Int) = (most : Int) := by omega
  clear HE HFQ r0' r1' r2' f0' f1' f2' hrl'
  obtain ⟨b, off, rfl, hbl, hct⟩ := HF.out.text (by omega)
  have d0 : (w1.drewN q).cell? ⟨bf, 0, none⟩ = some (.slice (some ⟨b, off, none⟩) zs.length cap) := c0
  have d1 : (w1.drewN q).cell? ⟨b, off + (A + L), none⟩ = some (.int .u8 (ln zs (A + L))) := hct (A + L) (by omega)
  have d2 : (w1.drewN q).cell? ⟨b, off + (p + L), none⟩ = some (.int .u8 (ln zs (p + L))) := hct (p + L) (by omega)
  obtain ⟨X, hX⟩ : ∃ X, ln zs (A + L) = X := ⟨_, rfl⟩
  obtain ⟨Y, hY⟩ : ∃ Y, ln zs (p + L) = Y := ⟨_, rfl⟩
  rw [hX] at d1
  rw [hY] at d2
  have EX := hide hX
  have EY := hide hY
  obtain ⟨I, hI⟩ : ∃ I, A + L = I := ⟨_, rfl⟩
  obtain ⟨J, hJ⟩ : ∃ J, p + L = J := ⟨_, rfl⟩
  rw [hI] at d1
  rw [hJ] at d2
  have hI1 : (A : Int) + (L : Int) = (I : Int) := by omega
  have hJ1 : (p : Int) + (L : Int) = (J : Int) := by omega
  have hI2 : (I : Int) < (zs.length : Int) := by omega
  have hJ2 : (J : Int) < (zs.length : Int) := by omega
  obtain ⟨x, hx⟩ : ∃ x, A % 32768 = x := ⟨_, rfl⟩
  have hxl : x < min zs.length 32768 := by omega
  have hxm : (A : Int) % 32768 = (x : Int) := by omega
  have hbx := HF.out.b0 hxl
  have hbe := HC.out.be_le A (by omega) (by omega)
  rw [hx] at hbe
  have HNX : Hid (∀ L2 B2, L <= L2 -> L2 <= most -> ((L2 = 2 /\ B2 = 0) \/ Run zs p L2 B2) -> (∀ n, n <= most -> (∀ y, y < n -> ln zs (A + y) = ln zs (p + y)) -> n <= L2) -> upd zs p most A L Bk = (L2, B2) -> Srch zs p most (k + 1) (be' x) L2 B2) := fun L2 B2 g1 g2 g3 g4 g5 => by
   have := HS.out.next HC.out (by omega) (by rw [show A + 1 - 1 = A by omega]; omega) g1 g2 g3 (by rw [show A + 1 - 1 = A by omega]; exact g4) e4 (by rw [show A + 1 - 1 = A by omega]; exact g5)
   rw [show A + 1 - 1 = A by omega, hx] at this
   exact this
  obtain ⟨E, hE⟩ : ∃ E, be' x = E := ⟨_, rfl⟩
  rw [hE] at hbx hbe HNX
  obtain ⟨N, hN⟩ : ∃ N, min zs.length 32768 = N := ⟨_, rfl⟩
  rw [hN] at hxl c4
  have hxN : (x : Int) < (N : Int) := by omega
  cases gk with
  | zero => omega
  | succ g1 =>
  clear hX hY hI hJ hx hE hN hct HFIN
  have HQ : Hid (∀ nq, (w1.drewN q).drewN nq = w1.drewN (q + nq)) := fun nq => World.drewN_drewN _ _ _
  go_upto_region 10 with fail
  generalize hw2 : w1.drewN q = w2 at d0 d1 d2 HQ ⊢
  clear hw2
  by_cases hXY : X = Y
  ·subst hXY
   go_quiet (fail)
   rw [HQ.out nq]
   have HCM := hide (common_c (HF.out.drewN (q + nq)) A p most (by omega) (by omega) (by omega) hl)
   clear d0 d1 d2 hI1 hJ1 hI2 hJ2
   have k4 : (w1.drewN (q + nq)).cell? ⟨bf, 16387, none⟩ = some (.slice (some ⟨bb, 0, none⟩) N N) := c4
   have k5 : (w1.drewN (q + nq)).cell? ⟨bb, x, none⟩ = some (.int .i32 (E : Int)) := hbx
   go_upto_region 12 with (go_at_call 74; refine HCM.out.mono ?_; rintro e w3 ⟨⟨m, rfl, hcom⟩, q3, rfl⟩; have HCO := hide hcom; clear hcom HCM k4 k5)
   have k4 : ((w1.drewN (q + nq)).drewN q3).cell? ⟨bf, 16387, none⟩ = some (.slice (some ⟨bb, 0, none⟩) N N) := c4
   have k5 : ((w1.drewN (q + nq)).drewN q3).cell? ⟨bb, x, none⟩ = some (.int .i32 (E : Int)) := hbx
   have HQ3 : Hid ((w1.drewN (q + nq)).drewN q3 = w1.drewN (q + nq + q3)) := World.drewN_drewN _ _ _
   generalize (w1.drewN (q + nq)).drewN q3 = w3 at k4 k5 HQ3 ⊢
   have hm := HCO.out.1
   by_cases hml : L < m
   ·have hml' : (L : Int) < (m : Int) := by omega
    have HR : Hid (Run zs p m (p - A)) := by
     have := HS.out.found (n := m) (by omega) (by rw [show A + 1 - 1 = A by omega]; omega) HM.out.symm hp hm (by rw [show A + 1 - 1 = A by omega]; exact HCO.out.2.1) hml
     rw [show A + 1 - 1 = A by omega] at this
     exact this
    go_wp2_with fail
    go_roundg g1
    case measure => omega
    case rel => exact ⟨k + 1, E, m, p - A, q + nq + q3, by omega, by go_num, rfl, by congr 1; omega, by go_num, HNX.out m (p - A) (by omega) hm (.inr HR.out) (fun n h1 h2 => HCO.out.le h1 h2) (upd_more (EX.out.trans EY.out.symm) hm HCO.out.2.1 HCO.out.2.2 hml), (by first | exact HQ3.out | rfl)⟩
   ·have hml' : ¬ (L : Int) < (m : Int) := by omega
    go_wp2_with fail
    go_roundg g1
    case measure => omega
    case rel => exact ⟨k + 1, E, L, Bk, q + nq + q3, by omega, by go_num, rfl, rfl, by go_num, HNX.out L Bk (Nat.le_refl _) hlm HS.out.is (fun n h1 h2 => by have := HCO.out.le h1 h2; omega) (upd_less hm HCO.out.2.1 HCO.out.2.2 hml), (by first | exact HQ3.out | rfl)⟩
  ·have hne : (X == Y) = false := by simpa using hXY
   go_quiet (fail)
   rw [HQ.out nq]
   clear d0 d1 d2 hI1 hJ1 hI2 hJ2
   have k4 : (w1.drewN (q + nq)).cell? ⟨bf, 16387, none⟩ = some (.slice (some ⟨bb, 0, none⟩) N N) := c4
   have k5 : (w1.drewN (q + nq)).cell? ⟨bb, x, none⟩ = some (.int .i32 (E : Int)) := hbx
   generalize hw3 : w1.drewN (q + nq) = w3 at k4 k5 ⊢
   have HQ3 := hide hw3
   clear hw3
   go_wp2_with fail
   go_roundg g1
   case measure => omega
   case rel =>
    refine ⟨k + 1, E, L, Bk, q + nq, by omega, by go_num, rfl, rfl, by go_num, HNX.out L Bk (Nat.le_refl _) hlm HS.out.is (fun n h1 h2 => ?_) (upd_else (by rw [EX.out, EY.out]; exact hXY)), (by first | exact HQ3.out.symm | rfl)⟩
    rcases Nat.lt_or_ge L n with h' | h'
    ·exact absurd (h2 L h') (by rw [EX.out, EY.out]; exact hXY)
    ·exact h'
end
end Go.Proofs.YteknifnadbmfiaaGreatDoor.M
