/- Several texts, laid together: MNote, MRun. -/
import Derived.Test.YtlakgbckopjelabDoorG23MSlot
/- The finder's note: contract. -/
namespace Go.Proofs.YtlakgbckopjelabDoor.M
set_option maxRecDepth 100000
open Go Go.RowKit

/-- The finder on its way. -/
def NSt (B : Nat) (bf bb : Nat) (a : Option Addr) (cap : Nat) (zs : List Int) (tr : Nat) (w wx : World) (m : Nat) : Prop :=
  ∃ la be, FinAt B wx bf bb a cap zs tr m la be ∧ Chain (sl zs) m la be ∧ Kept (fun b => b = bf ∨ b = bb) w wx
section
variable {B : Nat} {w w' : World} {bf bb : Nat} {a : Option Addr} {cap : Nat} {zs : List Int} {tr n : Nat} {la be : Nat → Nat}
/-- What is ahead of a place is kept. -/
theorem FinAt.setB (h : FinAt B w bf bb a cap zs tr n la be) {x : Nat} (hx : x < min zs.length 32768) (v : Nat) : FinAt B (w.setCell ⟨bb, x, none⟩ (.int .i32 (v : Int))) bf bb a cap zs tr n la (up be x v) := by
  obtain ⟨cs, hb, hr⟩ := h.fb
  obtain ⟨ds, hd, hs⟩ := h.bk
  have hk : Kept (fun b => b = bb) w (w.setCell ⟨bb, x, none⟩ (.int .i32 (v : Int))) := Kept.setCell (M := fun b => b = bb) (Kept.refl _ w) (fun _ => rfl) _
  refine ⟨⟨cs, Kept.heap hk hb h.ne, hr⟩, ⟨_, set_of hd x _, fun y hy => ?_⟩, h.tx.kept hk (fun h0 b off e => by have := h.hB h0 b off e; have := h.inb; omega), h.hB, h.inb, h.cp⟩
  rw [Array.getElem?_setIfInBounds]
  by_cases e : x = y
  · subst e
    have : x < ds.size := by
      have := hs x hx
      rcases Nat.lt_or_ge x ds.size with h' | h'
      · exact h'
      · rw [Array.getElem?_eq_none h'] at this; cases this
    rw [if_pos rfl, if_pos this, up_same]
  · rw [if_neg e, up_other _ _ (fun e' => e e'.symm)]; exact hs y hy
/-- The last place of a slot is kept. -/
theorem FinAt.setL (h : FinAt B w bf bb a cap zs tr n la be) {s : Nat} (hs : s < 16384) (v : Nat) : FinAt B (w.setCell ⟨bf, 3 + s, none⟩ (.int .i32 (v : Int))) bf bb a cap zs tr n (up la s v) be := by
  obtain ⟨cs, hb, h0, h1, h2, h3, h4⟩ := h.fb
  obtain ⟨ds, hd, hr⟩ := h.bk
  have hk : Kept (fun b => b = bf) w (w.setCell ⟨bf, 3 + s, none⟩ (.int .i32 (v : Int))) := Kept.setCell (M := fun b => b = bf) (Kept.refl _ w) (fun _ => rfl) _
  refine ⟨⟨_, set_of hb (3 + s) _, ?_, ?_, ?_, fun y hy => ?_, ?_⟩, ⟨ds, Kept.heap hk hd (fun e => h.ne e.symm), hr⟩, h.tx.kept hk (fun h0 b off e => by have := h.hB h0 b off e; have := h.inb; omega), h.hB, h.inb, h.cp⟩
  · rw [Array.getElem?_setIfInBounds, if_neg (by omega)]; exact h0
  · rw [Array.getElem?_setIfInBounds, if_neg (by omega)]; exact h1
  · rw [Array.getElem?_setIfInBounds, if_neg (by omega)]; exact h2
  · rw [Array.getElem?_setIfInBounds]
    by_cases e : s = y
    · subst e
      have : 3 + s < cs.size := by
        have := h3 s hs
        rcases Nat.lt_or_ge (3 + s) cs.size with h' | h'
        · exact h'
        · rw [Array.getElem?_eq_none h'] at this; cases this
      rw [if_pos rfl, if_pos this, up_same]
    · rw [if_neg (by omega), up_other _ _ (fun e' => e e'.symm)]; exact h3 y hy
  · rw [Array.getElem?_setIfInBounds, if_neg (by omega)]; exact h4
theorem FinAt.setN (h : FinAt B w bf bb a cap zs tr n la be) (v : Nat) : FinAt B (w.setCell ⟨bf, 2, none⟩ (.int .i64 (v : Int))) bf bb a cap zs tr v la be := by
  obtain ⟨cs, hb, h0, h1, h2, h3, h4⟩ := h.fb
  obtain ⟨ds, hd, hr⟩ := h.bk
  have hk : Kept (fun b => b = bf) w (w.setCell ⟨bf, 2, none⟩ (.int .i64 (v : Int))) := Kept.setCell (M := fun b => b = bf) (Kept.refl _ w) (fun _ => rfl) _
  have hsz : 2 < cs.size := by
    rcases Nat.lt_or_ge 2 cs.size with h' | h'
    · exact h'
    · rw [Array.getElem?_eq_none h'] at h2; cases h2
  refine ⟨⟨_, set_of hb 2 _, ?_, ?_, ?_, fun y hy => ?_, ?_⟩, ⟨ds, Kept.heap hk hd (fun e => h.ne e.symm), hr⟩, h.tx.kept hk (fun h0 b off e => by have := h.hB h0 b off e; have := h.inb; omega), h.hB, h.inb, h.cp⟩
  · rw [Array.getElem?_setIfInBounds, if_neg (by omega)]; exact h0
  · rw [Array.getElem?_setIfInBounds, if_neg (by omega)]; exact h1
  · rw [Array.getElem?_setIfInBounds, if_pos rfl, if_pos hsz]
  · rw [Array.getElem?_setIfInBounds, if_neg (by omega)]; exact h3 y hy
  · rw [Array.getElem?_setIfInBounds, if_neg (by omega)]; exact h4

set_option maxHeartbeats 4000000 in
theorem note_c (h : FinAt B w bf bb a cap zs tr n la be) (hch : Chain (sl zs) n la be) (p : Nat) (hn : n ≤ p) (hp : p + 2 ≤ zs.length) (hl : zs.length ≤ 1000000000) (hcap : cap ≤ 9223372036854775807) :
    Calls Tryd.prog 44 #[.pointer (some ⟨bf, 0, none⟩), .int .i64 (p : Int)] w fun e w' => e = .returned (.tuple #[]) ∧ NSt B bf bb a cap zs tr w w' p := by
  have HS0 : Hid (NSt B bf bb a cap zs tr w w n) := ⟨la, be, h, hch, Kept.refl _ _⟩
  clear h hch
  go_enter Tryd.func44, Tryd.ntmps44
  go_wp2_with fail
  go_loopg [4] (p - n) (fun gk v4 wx => ∃ m : Nat, m + gk = p ∧ Hid (NSt B bf bb a cap zs tr w wx m))
  case atStart => exact ⟨n, by omega, HS0.out⟩
  case round =>
    obtain ⟨m, hmg, HS⟩ := hrel
    cases gk with
    | zero =>
      obtain rfl : m = p := by omega
      obtain ⟨la', be', hF, hC, hK⟩ := HS.out
      have c2 := hF.c2
      clear hF hC hK
      go_wp2_with fail
      go_end0
      exact ⟨rfl, HS.out⟩
    | succ g1 =>
      have hlt : (m : Int) < (p : Int) := by omega
      obtain ⟨la', be', hF, hC, hK⟩ := HS.out
      have HF := hide hF
      have HC := hide hC
      have HK := hide hK
      have c2 := hF.c2
      have hslot := hide (slot_c hF m (by omega) hl hcap)
      clear hF hC hK
      go_upto_region 3 with (go_at_call 45; refine hslot.out.mono ?_; rintro e w1 ⟨rfl, q, rfl⟩)
      clear hslot c2
      have HF1 := hide (HF.out.drewN q)
      have HK1 := hide (HK.out.drewN q)
      generalize wr.drewN q = w1 at HF1 HK1 ⊢
      clear HF HK
      have hs := sl_lt zs m
      obtain ⟨s, hsd⟩ : ∃ s, sl zs m = s := ⟨_, rfl⟩
      obtain ⟨x, hx⟩ : ∃ x, m % 32768 = x := ⟨_, rfl⟩
      have hxl : x < min zs.length 32768 := by omega
      have hxm : (m : Int).tmod 32768 = (x : Int) := by rw [Int.tmod_eq_emod_of_nonneg (by omega)]; omega
      have hxm2 : (m : Int) % 32768 = (x : Int) := by omega
      rw [hsd] at hs ⊢
      have c2 := HF1.out.c2
      have c3 := HF1.out.c3 hs
      have c4 := HF1.out.c4
      have b0 := HF1.out.b0 hxl
      have fb := HF1.out.bfree x
      have HSD := hide hsd
      have HX := hide hx
      have HXL := hide hxl
      obtain ⟨N, hN⟩ : ∃ N, min zs.length 32768 = N := ⟨_, rfl⟩
      rw [hN] at hxl c4
      have HN := hide hN
      clear hN hsd hx
      have i1 : (0 : Int) ≤ (x : Int) := by omega
      have i2 : (x : Int) < (N : Int) := by omega
      have i3 : (0 : Int) ≤ (s : Int) := by omega
      have i4 : (s : Int) < 16384 := by omega
      have c3' : w1.cell? ⟨bf, 3 + s * 1, none⟩ = some (.int .i32 (la' s : Int)) := by rw [Nat.mul_one]; exact c3
      have hv := HC.out.la_le s
      generalize hV : la' s = V at c3 c3' hv
      generalize hE : be' x = E at b0
      have HV := hide hV
      clear hV hE
      go_region
      go_upto_region 4 with fail
      have HF2 : Hid (FinAt B (w1.setCell ⟨bb, x, none⟩ (.int .i32 (V : Int))).drew bf bb a cap zs tr m la' (up be' x V)) := (HF1.out.setB HXL.out V).drew
      have HK2 : Hid (Kept (fun b => b = bf ∨ b = bb) w (w1.setCell ⟨bb, x, none⟩ (.int .i32 (V : Int))).drew) := (HK1.out.setCell (fun _ => .inr rfl) _).drew
      generalize (w1.setCell ⟨bb, x, none⟩ (.int .i32 (V : Int))).drew = w2 at HF2 HK2 ⊢
      clear HF1 HK1 c2 c3 c3' c4 b0 fb hxm hxm2
      have c2 := HF2.out.c2
      have c3 := HF2.out.c3 hs
      have f3 := HF2.out.ffree (3 + s)
      have hw : IntKind.i32.wrap ((m : Int) + 1) = (m : Int) + 1 := by simp only [IntKind.wrap_i32]; omega
      generalize hE : la' s = E2 at c3
      clear hE
      go_region
      go_upto_region 1 with fail
      have HF3 : Hid (FinAt B (w2.setCell ⟨bf, 3 + s, none⟩ (.int .i32 ((m : Int) + 1))).drew bf bb a cap zs tr m (up la' s (m + 1)) (up be' x V)) := (HF2.out.setL hs (m + 1)).drew
      have HK3 : Hid (Kept (fun b => b = bf ∨ b = bb) w (w2.setCell ⟨bf, 3 + s, none⟩ (.int .i32 ((m : Int) + 1))).drew) := (HK2.out.setCell (fun _ => .inl rfl) _).drew
      generalize (w2.setCell ⟨bf, 3 + s, none⟩ (.int .i32 ((m : Int) + 1))).drew = w3 at HF3 HK3 ⊢
      clear HF2 HK2 c2 c3 f3 hw
      have c2 := HF3.out.c2
      have f2 := HF3.out.ffree 2
      go_wp2_with fail
      go_roundg g1
      case measure => omega
      case rel =>
        refine ⟨m + 1, by omega, _, _, HF3.out.setN (m + 1), ?_, HK3.out.setCell (fun _ => .inl rfl) _⟩
        have := HC.out.step
        rw [HSD.out, HX.out, HV.out] at this
        exact this
end
end Go.Proofs.YtlakgbckopjelabDoor.M

/- The finder's common and run: contracts. -/
namespace Go.Proofs.YtlakgbckopjelabDoor.M
set_option maxRecDepth 100000
open Go Go.RowKit
section
variable {B : Nat} {w w' : World} {bf bb : Nat} {a : Option Addr} {cap : Nat} {zs : List Int} {tr n : Nat} {la be : Nat → Nat}

/-- How many bytes are the same at two places. -/
def Com (zs : List Int) (i p most m : Nat) : Prop := m ≤ most ∧ (∀ x, x < m → ln zs (i + x) = ln zs (p + x)) ∧ (m < most → ln zs (i + m) ≠ ln zs (p + m))
theorem Com.le {zs : List Int} {i p most m : Nat} (h : Com zs i p most m) {k : Nat} (hk : k ≤ most) (hs : ∀ x, x < k → ln zs (i + x) = ln zs (p + x)) : k ≤ m := by
  rcases Nat.lt_or_ge m k with h' | h'
  · exact absurd (hs m h') (h.2.2 (by omega))
  · exact h'

set_option maxHeartbeats 2000000 in
theorem common_c (h : FinAt B w bf bb a cap zs tr n la be) (i p most : Nat) (hi : i + most ≤ zs.length) (hp : p + most ≤ zs.length) (h0 : 0 < most) (hl : zs.length ≤ 1000000000) :
    Calls Tryd.prog 46 #[.pointer (some ⟨bf, 0, none⟩), .int .i64 (i : Int), .int .i64 (p : Int), .int .i64 (most : Int)] w fun e w' => (∃ m : Nat, e = .returned (.int .i64 (m : Int)) ∧ Com zs i p most m) ∧ ∃ q, w' = w.drewN q := by
  obtain ⟨b, off, rfl, hbl, hc⟩ := h.text (by omega)
  have c0 := h.c0
  have HC := hide hc
  clear hc h
  go_enter Tryd.func46, Tryd.ntmps46
  go_wp2_with fail
  go_loopg [9] most (fun gk v9 wx => ∃ m q : Nat, m + gk = most ∧ v9 = .int .i64 m ∧ Hid (∀ x, x < m → ln zs (i + x) = ln zs (p + x)) ∧ wx = w.drewN q)
  case atStart => exact ⟨0, 0, by omega, rfl, fun x hx => by omega, rfl⟩
  case round =>
    obtain ⟨m, q, hmg, rfl, HS, rfl⟩ := hrel
    cases gk with
    | zero =>
      have hge : ¬ (m : Int) < (most : Int) := by omega
      have hd : decide ((m : Int) < (most : Int)) = false := by simpa using hge
      generalize hW : w.drewN q = w1 at *
      have HW := hide hW
      clear hW c0
      go_upto_region 2 with fail
      go_quiet (fail)
      go_wp2_with fail
      go_ret
      exact ⟨⟨m, rfl, by omega, HS.out, fun h => by omega⟩, q + nq, by rw [← HW.out, World.drewN_drewN]⟩
    | succ g1 =>
      have hlt : (m : Int) < (most : Int) := by omega
      have hd : decide ((m : Int) < (most : Int)) = true := by simpa using hlt
      have c1 : (w.drewN q).cell? ⟨bf, 0, none⟩ = some (.slice (some ⟨b, off, none⟩) zs.length cap) := c0
      have d1 : (w.drewN q).cell? ⟨b, off + (i + m), none⟩ = some (.int .u8 (ln zs (i + m))) := HC.out (i + m) (by omega)
      have d2 : (w.drewN q).cell? ⟨b, off + (p + m), none⟩ = some (.int .u8 (ln zs (p + m))) := HC.out (p + m) (by omega)
      have HX : Hid (ln zs (i + m) = ln zs (i + m) ∧ ln zs (p + m) = ln zs (p + m)) := ⟨rfl, rfl⟩
      obtain ⟨X, hX⟩ : ∃ X, ln zs (i + m) = X := ⟨_, rfl⟩
      obtain ⟨Y, hY⟩ : ∃ Y, ln zs (p + m) = Y := ⟨_, rfl⟩
      rw [hX] at d1
      rw [hY] at d2
      have EX := hide hX
      have EY := hide hY
      have HQ : Hid (∀ nq, (w.drewN q).drewN nq = w.drewN (q + nq)) := fun nq => World.drewN_drewN _ _ _
      generalize w.drewN q = w1 at c1 d1 d2 HQ ⊢
      clear c0 hX hY HX
      obtain ⟨I, hI⟩ : ∃ I, i + m = I := ⟨_, rfl⟩
      obtain ⟨J, hJ⟩ : ∃ J, p + m = J := ⟨_, rfl⟩
      rw [hI] at d1 EX
      rw [hJ] at d2 EY
      have hI1 : (i : Int) + (m : Int) = (I : Int) := by omega
      have hJ1 : (p : Int) + (m : Int) = (J : Int) := by omega
      have hI2 : (I : Int) < (zs.length : Int) := by omega
      have hJ2 : (J : Int) < (zs.length : Int) := by omega
      have HI := hide hI
      have HJ := hide hJ
      clear hI hJ
      by_cases hXY : X = Y
      · subst hXY
        go_upto_region 2 with fail
        go_quiet (fail)
        go_wp2_with fail
        go_roundg g1
        case measure => omega
        case rel =>
          refine ⟨m + 1, q + nq, by omega, by go_num, fun x hx => ?_, HQ.out nq⟩
          by_cases e : x = m
          · subst e; rw [HI.out, HJ.out, EX.out, EY.out]
          · exact HS.out x (by omega)
      · have hne : (X == Y) = false := by simpa using hXY
        go_upto_region 2 with fail
        go_quiet (fail)
        go_wp2_with fail
        go_ret
        exact ⟨⟨m, rfl, by omega, HS.out, fun _ => by rw [HI.out, HJ.out, EX.out, EY.out]; exact hXY⟩, q + nq, HQ.out nq⟩
end
end Go.Proofs.YtlakgbckopjelabDoor.M
