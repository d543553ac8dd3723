/- The reference's Next: contract. -/
import Derived.Test.YtoeebdjmedkldaaHBits
namespace Go.Proofs.Ytoeebdjmedkldaa
open Go Go.RowKit

theorem match_row (lo hi : Nat) (a : Option Addr) (cap : Nat) (L : List Int) (p c n : Nat) (g : Nat) (w : World) (hL : L.length ≤ 1000000) (hn : n ≤ 15) (hp : p ≤ L.length) (h : Ints lo hi w a L) (h' : w.heap[g]? = some (.cells (valA (rowL c n)) 3 (0, 0))) :
    Calls Try.prog 37 #[.slice a L.length cap, .int .i64 (p : Int), .slice (some ⟨g, 0, none⟩) n n] w fun e w' => e = .returned (.tuple #[.bool (agB L p (rowL c n)), .bool (alB L p (rowL c n))]) ∧ ∃ k, w' = w.drewN k := by
  have := match_c lo hi g (g + 1) a (some ⟨g, 0, none⟩) cap n L (rowL c n) p w hL (by rw [rowL_length]; omega) hp h (ints_of h')
  rw [rowL_length] at this
  exact this

theorem below_drewN {B : Nat} {w w' : World} (h : Below B w w') (n : Nat) : Below B w (w'.drewN n) := ⟨h.os, h.tape, h.output, h.size, h.block⟩

/-- What is known ahead of symbol s. -/
structure Rn (ls L : List Int) (p s : Nat) (so : Bool) : Prop where
  some_ : so = true ↔ ∃ t, t < s ∧ ln ls t ≠ 0 ∧ agB L p (rowL (cd ls t) (ln ls t).toNat) = true
  none_ : ∀ t, t < s → ln ls t ≠ 0 → alB L p (rowL (cd ls t) (ln ls t).toNat) = false
theorem Rn.zero (ls L : List Int) (p : Nat) : Rn ls L p 0 false := ⟨by simp, fun t h => absurd h (by omega)⟩
theorem Rn.skip {ls L : List Int} {p s : Nat} {so : Bool} (h : Rn ls L p s so) (h0 : ln ls s = 0) : Rn ls L p (s + 1) so := by
  refine ⟨h.some_.trans ⟨fun ⟨t, h1, h2⟩ => ⟨t, by omega, h2⟩, fun ⟨t, h1, h2, h3⟩ => ⟨t, ?_, h2, h3⟩⟩, fun t h1 h2 => h.none_ t ?_ h2⟩
  · by_cases e : t = s
    · subst e; exact absurd h0 h2
    · omega
  · by_cases e : t = s
    · subst e; exact absurd h0 h2
    · omega
theorem Rn.step {ls L : List Int} {p s : Nat} {so ag : Bool} (h : Rn ls L p s so) (h0 : ln ls s ≠ 0) (ha : agB L p (rowL (cd ls s) (ln ls s).toNat) = ag) (hl : alB L p (rowL (cd ls s) (ln ls s).toNat) = false) : Rn ls L p (s + 1) (so || ag) := by
  refine ⟨?_, fun t h1 h2 => ?_⟩
  · rw [Bool.or_eq_true, h.some_]
    constructor
    · rintro (⟨t, h1, h2⟩ | h1)
      · exact ⟨t, by omega, h2⟩
      · exact ⟨s, by omega, h0, by rw [ha]; exact h1⟩
    · rintro ⟨t, h1, h2, h3⟩
      by_cases e : t = s
      · subst e; right; rw [← ha]; exact h3
      · left; exact ⟨t, by omega, h2, h3⟩
  · by_cases e : t = s
    · subst e; exact hl
    · exact h.none_ t (by omega) h2
theorem Rn.end_ {ls L : List Int} {p : Nat} {so : Bool} (h : Rn ls L p ls.length so) (hg : Good ls) {N : Nat} (hN : Longest ls N) (hb : Bin L) (hp : p ≤ L.length) : NextIs ls (bn L p) (L.length - p) N 0 0 (if so then 42 else 43) := by
  have hno : ∀ m, m ≤ L.length - p → ¬ Hit ls (bn L p) m := by
    intro m hm hh
    obtain ⟨t, ht, hl, hc⟩ := hit_sym hh
    have h1 := hit_pos hh
    have hn := h.none_ t ht (by omega)
    have hlt := (cd_lt hg.le hg.fit ht (by omega)).2
    rw [hl, Int.toNat_natCast] at hn hlt
    have := (alB_iff hb p (cd ls t) m hp hlt).2 ⟨hm, hc.symm⟩
    rw [this] at hn
    simp at hn
  have hs := h.some_.trans (some_iff hg hN hb p hp hno)
  refine .inr ⟨rfl, rfl, hno, ?_⟩
  cases so with
  | true => exact .inl ⟨hs.1 rfl, rfl⟩
  | false =>
    refine .inr ⟨?_, rfl⟩
    rcases Nat.lt_or_ge (L.length - p) N with h' | h'
    · have := hs.2 h'; simp at this
    · exact h'

set_option maxHeartbeats 2000000 in
set_option maxRecDepth 100000 in
theorem refNext_c (B lo hi : Nat) (a al : Option Addr) (cap capl : Nat) (ls L : List Int) (p N : Nat) (w : World) (h3 : ls.length ≤ 320) (hg : Good ls) (hN : Longest ls N) (hL : L.length ≤ 1000000) (hb : Bin L) (hp : p ≤ L.length) (hi_ : Ints 0 B w a ls) (hl : Ints lo hi w al L) :
    Calls Try.prog 31 #[.slice a ls.length cap, .slice al L.length capl, .int .i64 (p : Int)] w fun e w' => ∃ s n err, NextIs ls (bn L p) (L.length - p) N s n err ∧ e = .returned (.tuple #[.int .i64 (s : Int), .int .i64 ((p + n : Nat) : Int), .int .i64 err]) ∧ Below w.heap.size w w' := by
  have HG : Hid (Good ls) := hg
  have HN : Hid (Longest ls N) := hN
  have HB : Hid (Bin L) := hb
  have HI : Hid (Ints 0 B w a ls) := hi_
  have HL : Hid (Ints lo hi w al L) := hl
  have HB0 : Hid (Below w.heap.size w (w.alloc (.cells (valA (codesL ls)) 3))) := (Below.refl _ w).alloc (Nat.le_refl _) _
  have HC0 : Hid ((w.alloc (.cells (valA (codesL ls)) 3)).heap[w.heap.size]? = some (.cells (valA (codesL ls)) 3 (0, 0))) := heap_new _ _
  have HSZ : Hid ((w.alloc (.cells (valA (codesL ls)) 3)).heap.size = w.heap.size + 1) := by show _ = _; simp
  clear hg hN hb hi_ hl
  go_enter Try.func31, Try.ntmps31
  go_wp2_with (go_at_call 14; refine (refCodes_c B a cap ls _ h3 HG.out.fit HG.out.le HI.out).mono ?_; rintro e w1 ⟨rfl, rfl⟩)
  generalize w.alloc (.cells (valA (codesL ls)) 3) = w1 at HB0 HC0 HSZ ⊢
  go_loopw [10, 11] (fun v10 v11 wr => ∃ (s : Nat) (so : Bool), s ≤ ls.length ∧ v11 = .int .i64 s ∧ v10 = .bool so ∧ Rn ls L p s so ∧ Below w1.heap.size w1 wr) (fun _ v11 _ => ls.length - (intOf v11).toNat)
  case atStart => exact ⟨0, false, by omega, rfl, rfl, Rn.zero _ _ _, Below.refl _ _⟩
  case round =>
    obtain ⟨s, so, hs, rfl, rfl, hrn, hbel⟩ := hrel
    have HR : Hid (Rn ls L p s so) := hrn
    have BR : Hid (Below w1.heap.size w1 wr) := hbel
    have BW : Hid (Below w.heap.size w wr) := HB0.out.trans (hbel.mono HB0.out.size)
    clear hrn hbel
    by_cases hlt : s < ls.length
    · obtain ⟨b, off, _, _, hbw, rfl, hcell⟩ := (HI.out.stay BW.out).resolve_left (by omega)
      have hcs := hcell s hlt
      clear hcell
      by_cases h0 : ln ls s = 0
      · have HR' : Hid (Rn ls L p (s + 1) so) := HR.out.skip h0
        rw [h0] at hcs
        clear h0
        go_wp2
        go_roundw
        case rel => exact ⟨s + 1, so, by omega, by go_num, rfl, HR'.out, BR.out⟩
        case measure => simp [intOf]; omega
      · have hfit := ln_fit HG.out.fit s
        obtain ⟨n, hn⟩ := Int.eq_ofNat_of_zero_le hfit.1
        have hn1 : 1 ≤ n := by omega
        have hn15 : n ≤ 15 := by omega
        have hcd := (cd_lt HG.out.le HG.out.fit hlt (by omega)).2
        have hco : wr.cell? ⟨w.heap.size, s, none⟩ = some (.int .i64 (cd ls s : Int)) := by
          rw [cells_of ((BR.out.block w.heap.size (by have := HSZ.out; omega)).trans HC0.out) s, valA_at _ (by rw [codesL_length]; exact hlt), codesL_at ls hlt, if_pos (by omega)]
        have AG : Hid (agB L p (rowL (cd ls s) (ln ls s).toNat) = agB L p (rowL (cd ls s) n)) := by rw [hn, Int.toNat_natCast]; exact rfl
        have AL : Hid (alB L p (rowL (cd ls s) (ln ls s).toNat) = alB L p (rowL (cd ls s) n)) := by rw [hn, Int.toNat_natCast]; exact rfl
        have HLN : Hid (ln ls s = (n : Int)) := hn
        have H0 : Hid (¬ ln ls s = 0) := h0
        have hcb : cd ls s ≤ 32768 := by
          have p15 : 2 ^ n ≤ 2 ^ 15 := Nat.pow_le_pow_right (by decide) hn15
          rw [hn, Int.toNat_natCast] at hcd; omega
        have HCD : Hid (cd ls s < 2 ^ n) := by rw [hn, Int.toNat_natCast] at hcd; exact hcd
        rw [hn] at hcs
        have hwl : w.heap.size < wr.heap.size := by have := BR.out.size; have := HSZ.out; omega
        have IL : Hid (Ints lo hi wr al L) := HL.out.stay BW.out
        clear h0 hfit hn hcd
        go_upto_region 7 with fail
        go_cut [12, 13] (fun v12 v13 wx => v12 = .bool (agB L p (rowL (cd ls s) n)) ∧ v13 = .bool (alB L p (rowL (cd ls s) n)) ∧ Below wr.heap.size wr wx)
        case first =>
          have i1 : (0 : Int) ≤ (s : Int) := by omega
          have i2 : (s : Int) < (ls.length : Int) := by omega
          generalize hag : agB L p (rowL (cd ls s) n) = ag
          generalize hal : alB L p (rowL (cd ls s) n) = al_
          have HAG : Hid (agB L p (rowL (cd ls s) n) = ag) := hag
          have HAL : Hid (alB L p (rowL (cd ls s) n) = al_) := hal
          clear hag hal
          go_region_held3 (fun w' => w'.cell? ⟨w.heap.size, s, none⟩ = some (.int .i64 (cd ls s : Int)) ∧ w'.cell? ⟨b, off + s, none⟩ = some (.int .i64 (n : Int))) (first | go_keep | assumption) (first
            | (go_at_call 23; refine (refRow_c (cd ls s) n _ hn15 (by omega)).mono ?_; rintro e w2 ⟨rfl, rfl⟩)
            | (go_at_call 37; refine (match_row lo hi al capl L p (cd ls s) n wr.heap.size _ hL hn15 hp (IL.out.stay (((Below.refl _ wr).drew).alloc (Nat.le_refl _) _)) (heap_new _ _)).mono ?_; rintro e w3 ⟨rfl, k3, rfl⟩))
          all_goals (go_wp2_with fail)
          all_goals go_meet
          all_goals exact ⟨by rw [HAG.out], by rw [HAL.out], below_drewN ((Below.refl _ wr).alloc (Nat.le_refl _) _) _⟩
        case rest =>
          obtain ⟨rfl, rfl, hbx⟩ := hcut
          have hcs2 : wc.cell? ⟨b, off + s, none⟩ = some (.int .i64 (n : Int)) := (hbx.cell (p := ⟨b, off + s, none⟩) hbw).trans hcs
          have BX : Hid (Below w1.heap.size w1 wc) := BR.out.trans (hbx.mono BR.out.size)
          have BXW : Hid (Below w.heap.size w wc) := BW.out.trans (hbx.mono BW.out.size)
          have HALI := alB_iff HB.out p (cd ls s) n hp HCD.out
          generalize hag : agB L p (rowL (cd ls s) n) = ag at AG
          generalize hal : alB L p (rowL (cd ls s) n) = al_ at AL HALI
          clear hag hal hbx hcs hco
          cases al_ with
          | true =>
            obtain ⟨q1, q2⟩ := HALI.1 rfl
            have HNX : Hid (NextIs ls (bn L p) (L.length - p) N s n 0) := .inl ⟨rfl, q1, hlt, hn1, HLN.out, q2.symm⟩
            clear HALI q2
            go_wp2
            go_quiet (fail)
            go_wp2
            go_ret3
            exact ⟨s, n, 0, HNX.out, rfl, below_drewN BXW.out _⟩
          | false =>
            have HR' : Hid (Rn ls L p (s + 1) (so || ag)) := HR.out.step H0.out AG.out AL.out
            clear HALI
            cases ag with
            | true =>
              have HR2 : Hid (Rn ls L p (s + 1) true) := by have := HR'.out; simp at this; exact this
              go_wp2
              go_roundw
              case rel => exact ⟨s + 1, true, by omega, by go_num, rfl, HR2.out, BX.out⟩
              case measure => simp [intOf]; omega
            | false =>
              have HR2 : Hid (Rn ls L p (s + 1) so) := by have := HR'.out; simp at this; exact this
              go_wp2
              go_roundw
              case rel => exact ⟨s + 1, so, by omega, by go_num, rfl, HR2.out, BX.out⟩
              case measure => simp [intOf]; omega
    · obtain rfl : s = ls.length := by omega
      have HNX : Hid (NextIs ls (bn L p) (L.length - p) N 0 0 (if so then 42 else 43)) := HR.out.end_ HG.out HN.out HB.out hp
      cases so with
      | true =>
        go_wp2
        go_ret3
        exact ⟨0, 0, 42, HNX.out, rfl, BW.out⟩
      | false =>
        go_wp2
        go_ret3
        exact ⟨0, 0, 43, HNX.out, rfl, BW.out⟩
end Go.Proofs.Ytoeebdjmedkldaa
