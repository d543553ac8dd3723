/- Several texts, laid together: HRefNext, RNext, RFix, RRows, RSmall. -/
import Derived.Test.YtlakgbckopjelabGreatDoorG06HPut
import Derived.Test.YtlakgbckopjelabGreatDoorG23RState
import Derived.Test.YtlakgbckopjelabGreatDoorPMake
/- The reference's Next: contract. -/
namespace Go.Proofs.YtlakgbckopjelabGreatDoor
set_option maxRecDepth 100000
open Go Go.RowKit

theorem match_row (lo hi : Nat) (a : Option Addr) (cap : Nat) (L : List Int) (p c n : Nat) (g : Nat) (w : World) (hL : L.length ≤ 1000000) (hn : n ≤ 15) (hp : p ≤ L.length) (h : Ints lo hi w a L) (h' : w.heap[g]? = some (.cells (valA (rowL c n)) 3 (0, 0))) :
    Calls Tryz.prog 76 #[.slice a L.length cap, .int .i64 (p : Int), .slice (some ⟨g, 0, none⟩) n n] w fun e w' => e = .returned (.tuple #[.bool (agB L p (rowL c n)), .bool (alB L p (rowL c n))]) ∧ ∃ k, w' = w.drewN k := by
  have := match_c lo hi g (g + 1) a (some ⟨g, 0, none⟩) cap n L (rowL c n) p w hL (by rw [rowL_length]; omega) hp h (ints_of h')
  rw [rowL_length] at this
  exact this

theorem below_drewN {B : Nat} {w w' : World} (h : Below B w w') (n : Nat) : Below B w (w'.drewN n) := ⟨h.os, h.tape, h.output, h.size, h.block⟩

/-- What is known ahead of symbol s. -/
structure Rn (ls L : List Int) (p s : Nat) (so : Bool) : Prop where
  some_ : so = true ↔ ∃ t, t < s ∧ ln ls t ≠ 0 ∧ agB L p (rowL (cd ls t) (ln ls t).toNat) = true
  none_ : ∀ t, t < s → ln ls t ≠ 0 → alB L p (rowL (cd ls t) (ln ls t).toNat) = false
theorem Rn.zero (ls L : List Int) (p : Nat) : Rn ls L p 0 false := ⟨by simp, fun t h => absurd h (by omega)⟩
theorem Rn.skip {ls L : List Int} {p s : Nat} {so : Bool} (h : Rn ls L p s so) (h0 : ln ls s = 0) : Rn ls L p (s + 1) so := by
  refine ⟨h.some_.trans ⟨fun ⟨t, h1, h2⟩ => ⟨t, by omega, h2⟩, fun ⟨t, h1, h2, h3⟩ => ⟨t, ?_, h2, h3⟩⟩, fun t h1 h2 => h.none_ t ?_ h2⟩
  · by_cases e : t = s
    · subst e; exact absurd h0 h2
    · omega
  · by_cases e : t = s
    · subst e; exact absurd h0 h2
    · omega
theorem Rn.step {ls L : List Int} {p s : Nat} {so ag : Bool} (h : Rn ls L p s so) (h0 : ln ls s ≠ 0) (ha : agB L p (rowL (cd ls s) (ln ls s).toNat) = ag) (hl : alB L p (rowL (cd ls s) (ln ls s).toNat) = false) : Rn ls L p (s + 1) (so || ag) := by
  refine ⟨?_, fun t h1 h2 => ?_⟩
  · rw [Bool.or_eq_true, h.some_]
    constructor
    · rintro (⟨t, h1, h2⟩ | h1)
      · exact ⟨t, by omega, h2⟩
      · exact ⟨s, by omega, h0, by rw [ha]; exact h1⟩
    · rintro ⟨t, h1, h2, h3⟩
      by_cases e : t = s
      · subst e; right; rw [← ha]; exact h3
      · left; exact ⟨t, by omega, h2, h3⟩
  · by_cases e : t = s
    · subst e; exact hl
    · exact h.none_ t (by omega) h2
theorem Rn.end_ {ls L : List Int} {p : Nat} {so : Bool} (h : Rn ls L p ls.length so) (hg : Good ls) {N : Nat} (hN : Longest ls N) (hb : Bin L) (hp : p ≤ L.length) : NextIs ls (bn L p) (L.length - p) N 0 0 (if so then 42 else 43) := by
  have hno : ∀ m, m ≤ L.length - p → ¬ Hit ls (bn L p) m := by
    intro m hm hh
    obtain ⟨t, ht, hl, hc⟩ := hit_sym hh
    have h1 := hit_pos hh
    have hn := h.none_ t ht (by omega)
    have hlt := (cd_lt hg.le hg.fit ht (by omega)).2
    rw [hl, Int.toNat_natCast] at hn hlt
    have := (alB_iff hb p (cd ls t) m hp hlt).2 ⟨hm, hc.symm⟩
    rw [this] at hn
    simp at hn
  have hs := h.some_.trans (some_iff hg hN hb p hp hno)
  refine .inr ⟨rfl, rfl, hno, ?_⟩
  cases so with
  | true => exact .inl ⟨hs.1 rfl, rfl⟩
  | false =>
    refine .inr ⟨?_, rfl⟩
    rcases Nat.lt_or_ge (L.length - p) N with h' | h'
    · have := hs.2 h'; simp at this
    · exact h'

end Go.Proofs.YtlakgbckopjelabGreatDoor

/- The reference's next: contract. -/
namespace Go.Proofs.YtlakgbckopjelabGreatDoor
set_option maxRecDepth 100000
open Go Go.RowKit

/-- The codes of ls as rows of bits, in memory. -/
def RAt (B : Nat) (w : World) (ra : Option Addr) (ls : List Int) : Prop :=
  ls.length = 0 ∨ ∃ b off, b < B ∧ ra = some ⟨b, off, none⟩ ∧ ∀ s, s < ls.length → ∃ g, g < B ∧ w.cell? ⟨b, off + s, none⟩ = some (.slice (some ⟨g, 0, none⟩) (ln ls s).toNat (ln ls s).toNat) ∧ w.heap[g]? = some (.cells (valA (rowL (cd ls s) (ln ls s).toNat)) 3 (0, 0))
theorem RAt.below {B : Nat} {w w' : World} {ra : Option Addr} {ls : List Int} (h : RAt B w ra ls) (k : Below B w w') : RAt B w' ra ls := by
  rcases h with h | ⟨b, off, h1, h2, h3⟩
  · exact .inl h
  · refine .inr ⟨b, off, h1, h2, fun s hs => ?_⟩
    obtain ⟨g, g1, g2, g3⟩ := h3 s hs
    exact ⟨g, g1, (k.cell (p := ⟨b, off + s, none⟩) h1).trans g2, (k.block g g1).trans g3⟩

/-- Huff's errors as inflate tells them. -/
def e6 (err : Int) : Int := if err = 0 then 0 else if err = 42 then 60 else 63

/-- A call's own state at the first block that it makes, its result at the second. -/
structure Two (w wr : World) (u v : Array Value) : Prop where
  below : Below w.heap.size w wr
  s0 : wr.heap[w.heap.size]? = some (.cells u 63 (0, 0))
  s1 : wr.heap[w.heap.size + 1]? = some (.cells v 63 (0, 0))
theorem Two.new (w : World) (u v : Array Value) : Two w ((w.alloc (.cells u 63)).alloc (.cells v 63)) u v := ⟨((Below.refl _ w).alloc (Nat.le_refl _) _).alloc (by simp) _, heap_new1 w _ _, heap_new2 w _ _⟩
theorem Two.drewN {w wr : World} {u v : Array Value} (h : Two w wr u v) (k : Nat) : Two w (wr.drewN k) u v := ⟨below_drewN h.below k, h.s0, h.s1⟩
theorem Two.drew {w wr : World} {u v : Array Value} (h : Two w wr u v) : Two w wr.drew u v := ⟨h.below.drew, h.s0, h.s1⟩
theorem Two.size {w wr : World} {u v : Array Value} (h : Two w wr u v) : w.heap.size + 1 < wr.heap.size := lt_of_block h.s1
theorem Two.stay {w wr w2 : World} {u v : Array Value} (h : Two w wr u v) (k : Below wr.heap.size wr w2) : Two w w2 u v := by
  have := h.size
  exact ⟨h.below.trans (k.mono (by omega)), (k.block _ (by omega)).trans h.s0, (k.block _ (by omega)).trans h.s1⟩
/-- The result is stored. -/
theorem Two.res {w wr w2 : World} {u v v2 : Array Value} (h : Two w wr u v) (h2 : w2.heap[w.heap.size + 1]? = some (.cells v2 63 (0, 0))) (k : Kept (fun i => i = w.heap.size + 1) wr w2) : Two w w2 u v2 := by
  have := h.size
  exact ⟨h.below.trans (k.below (by omega) (fun i hi e => by omega)), (k.block _ (by omega) (by omega)).trans h.s0, h2⟩
/-- The state is stored. -/
theorem Two.own {w wr w2 : World} {u v u2 : Array Value} (h : Two w wr u v) (h2 : w2.heap[w.heap.size]? = some (.cells u2 63 (0, 0))) (k : Kept (fun i => i = w.heap.size) wr w2) : Two w w2 u2 v := by
  have := h.size
  exact ⟨h.below.trans (k.below (by omega) (fun i hi e => by omega)), h2, (k.block _ (by omega) (by omega)).trans h.s1⟩

theorem Two.at_ {w wr : World} {v : Array Value} {a o : Option Addr} {al ac ol oc : Nat} {p m e : Int} (h : Two w wr (sA a al ac p o ol oc m e) v) (q : Int) : Two w (wr.setCell ⟨w.heap.size, 1, none⟩ (.int .i64 q)) (sA a al ac q o ol oc m e) v := by
  have hs := set_of h.s0 1 (.int .i64 q)
  have hsz := h.size
  refine h.own ?_ ((Kept.refl (fun i => i = w.heap.size) wr).setCell (fun _ => rfl) _)
  rw [hs]
  simp [sA]

set_option maxHeartbeats 4000000 in
set_option maxRecDepth 100000 in
theorem rnext_is (lo hi B : Nat) (a o ra : Option Addr) (ac ol oc rc : Nat) (ls L : List Int) (p N : Nat) (m : Int) (w : World) (h3 : ls.length ≤ 320) (hg : Good ls) (hN : Longest ls N) (hL : L.length ≤ 1000000) (hb : Bin L) (hp : p ≤ L.length) (hl : Ints lo hi w a L) (hr : RAt B w ra ls) (hBw : B ≤ w.heap.size) :
    Calls Tryz.prog 58 #[.agg (sA a L.length ac p o ol oc m 0), .slice ra ls.length rc] w fun x w' => ∃ s n err, NextIs ls (bn L p) (L.length - p) N s n err ∧ x = .returned (.tuple #[.agg (sA a L.length ac ((p + n : Nat) : Int) o ol oc m (e6 err)), .int .i64 (s : Int)]) ∧ Below w.heap.size w w' := by
  have HG : Hid (Good ls) := hg
  have HN : Hid (Longest ls N) := hN
  have HB : Hid (Bin L) := hb
  have HL : Hid (Ints lo hi w a L) := hl
  have HR0 : Hid (RAt B w ra ls) := hr
  have HT : ∀ u v : Array Value, Hid (Two w ((w.alloc (.cells u 63)).alloc (.cells v 63)) u v) := fun u v => Two.new w u v
  clear hg hN hb hl hr
  show Calls Tryz.prog 58 #[.agg #[.slice a L.length ac, .int .i64 (p : Int), .slice o ol oc, .int .i64 m, .int .i64 0], .slice ra ls.length rc] w _
  go_enter Tryz.func58, Tryz.ntmps58
  go_wp2
  replace HT : Hid (Two w _ (sA a L.length ac p o ol oc m 0) #[.slice none 0 0, .int .i64 0, .slice none 0 0, .int .i64 0, .int .i64 0]) := HT #[.slice a L.length ac, .int .i64 (p : Int), .slice o ol oc, .int .i64 m, .int .i64 0] #[.slice none 0 0, .int .i64 0, .slice none 0 0, .int .i64 0, .int .i64 0]
  generalize ((w.alloc (.cells #[.slice a L.length ac, .int .i64 (p : Int), .slice o ol oc, .int .i64 m, .int .i64 0] 63)).alloc (.cells #[.slice none 0 0, .int .i64 0, .slice none 0 0, .int .i64 0, .int .i64 0] 63)) = w0 at HT ⊢
  go_loopw [6, 7] (fun v6 v7 wr => ∃ (s : Nat) (so : Bool), s ≤ ls.length ∧ v7 = .int .i64 s ∧ v6 = .bool so ∧ Rn ls L p s so ∧ Two w wr (sA a L.length ac p o ol oc m 0) #[.slice none 0 0, .int .i64 0, .slice none 0 0, .int .i64 0, .int .i64 0]) (fun _ v7 _ => ls.length - (intOf v7).toNat)
  case atStart => exact ⟨0, false, by omega, rfl, rfl, Rn.zero _ _ _, HT.out⟩
  case round =>
    obtain ⟨s, so, hs, rfl, rfl, hrn, htw⟩ := hrel
    have HR : Hid (Rn ls L p s so) := hrn
    have TW := hide htw
    have hsz : w.heap.size + 1 < wr.heap.size := htw.size
    have hsz0 : w.heap.size < wr.heap.size := by omega
    have RW : Hid (RAt B wr ra ls) := HR0.out.below (htw.below.mono hBw)
    have LW : Hid (Ints lo hi wr a L) := HL.out.stay htw.below
    clear HR0 HL HT hrn htw
    by_cases hlt : s < ls.length
    · obtain ⟨b, off, hbB, rfl, hrow⟩ := RW.out.resolve_left (by omega)
      obtain ⟨g, hgB, hcs, hgr⟩ := hrow s hlt
      have hfit := ln_fit HG.out.fit s
      obtain ⟨n, hn⟩ := Int.eq_ofNat_of_zero_le hfit.1
      have hn15 : n ≤ 15 := by omega
      have AG : Hid (agB L p (rowL (cd ls s) (ln ls s).toNat) = agB L p (rowL (cd ls s) n)) := by rw [hn, Int.toNat_natCast]; exact rfl
      have AL : Hid (alB L p (rowL (cd ls s) (ln ls s).toNat) = alB L p (rowL (cd ls s) n)) := by rw [hn, Int.toNat_natCast]; exact rfl
      have HLN : Hid (ln ls s = (n : Int)) := hn
      rw [hn, Int.toNat_natCast] at hcs hgr
      have HGR := hide hgr
      have hbw : b < wr.heap.size := by omega
      clear hrow RW hgr hfit hn
      by_cases h0 : n = 0
      · subst h0
        have HR' : Hid (Rn ls L p (s + 1) so) := HR.out.skip HLN.out
        go_wp2
        go_roundw
        case rel => exact ⟨s + 1, so, by omega, by go_num, rfl, HR'.out, TW.out⟩
        case measure => simp [intOf]; omega
      · have H0 : Hid (¬ ln ls s = 0) := by have := HLN.out; show ¬ _; omega
        have HCD : Hid (cd ls s < 2 ^ n) := by
          have := (cd_lt HG.out.le HG.out.fit hlt (by have := HLN.out; omega)).2
          rw [HLN.out, Int.toNat_natCast] at this
          exact this
        have c0 := cells_of TW.out.s0 0
        have c1 := cells_of TW.out.s0 1
        simp [sA] at c0 c1
        have hn0 : ¬ (n : Int) = 0 := by omega
        go_upto_region 8 with fail
        go_cut [8, 9] (fun v8 v9 wx => v8 = .bool (agB L p (rowL (cd ls s) n)) ∧ v9 = .bool (alB L p (rowL (cd ls s) n)) ∧ ∃ k, wx = wr.drewN k)
        case first =>
          have i1 : (0 : Int) ≤ (s : Int) := by omega
          have i2 : (s : Int) < (ls.length : Int) := by omega
          generalize hag : agB L p (rowL (cd ls s) n) = ag
          generalize hal : alB L p (rowL (cd ls s) n) = al_
          have HAG : Hid (agB L p (rowL (cd ls s) n) = ag) := hag
          have HAL : Hid (alB L p (rowL (cd ls s) n) = al_) := hal
          clear hag hal
          go_quiet ((go_at_call 76; exact Calls.quiet_of (match_row lo hi a ac L p (cd ls s) n g _ hL hn15 hp LW.out HGR.out)))
          all_goals (go_wp2_with fail)
          all_goals go_meet
          all_goals exact ⟨by rw [HAG.out], by rw [HAL.out], _, rfl⟩
        case rest =>
          obtain ⟨rfl, rfl, kx, rfl⟩ := hcut
          have TX := hide (TW.out.drewN kx)
          have hcs2 : (wr.drewN kx).cell? ⟨b, off + s, none⟩ = some (.slice (some ⟨g, 0, none⟩) n n) := hcs
          have HALI := alB_iff HB.out p (cd ls s) n hp HCD.out
          generalize hag : agB L p (rowL (cd ls s) n) = ag at AG
          generalize hal : alB L p (rowL (cd ls s) n) = al_ at AL HALI
          have hbx : b < (wr.drewN kx).heap.size := hbw
          clear hag hal hcs c0 c1 TW LW hsz hsz0 hbw HGR
          generalize wr.drewN kx = wx at TX hcs2 hbx ⊢
          have hsz : w.heap.size + 1 < wx.heap.size := TX.out.size
          have hsz0 : w.heap.size < wx.heap.size := by omega
          cases al_ with
          | true =>
            obtain ⟨q1, q2⟩ := HALI.1 rfl
            have HNX : Hid (NextIs ls (bn L p) (L.length - p) N s n 0) := .inl ⟨rfl, q1, hlt, by omega, HLN.out, q2.symm⟩
            clear HALI q2
            have c1 := cells_of TX.out.s0 1
            simp [sA] at c1
            have f1 := free_of TX.out.s0 1
            go_upto_region 10 with fail
            go_cut [] (fun wy => Two w wy (sA a L.length ac ((p + n : Nat) : Int) o ol oc m 0) #[.slice none 0 0, .int .i64 0, .slice none 0 0, .int .i64 0, .int .i64 0])
            case first =>
              have i1 : (0 : Int) ≤ (s : Int) := by omega
              have i2 : (s : Int) < (ls.length : Int) := by omega
              have hwr : Hid (IntKind.i64.wrap ((p : Int) + n) = ((p + n : Nat) : Int)) := by show _ = _; simp only [IntKind.wrap_i64]; omega
              go_region_with (fail)
              all_goals (go_wp2_with fail)
              all_goals go_meet
              all_goals (rw [hwr.out]; exact (TX.out.at_ _).drew)
            case rest =>
              have TY := hide hcut
              clear hcut TX c1 f1 hcs2
              go_wp2_with (first
                | (refine st_load rfl (.tmp 2) rfl w.heap.size (by rfl) a o L.length ac ol oc _ m 0 (0, 0) TY.out.s0 ?_)
                | (refine st_store rfl (.tmp 4) (.tmp 48) rfl (w.heap.size + 1) (by rfl) a o L.length ac ol oc _ m 0 (by rfl) _ (by rfl) TY.out.s1 ?_; intro w2 hg2 hk2; have T2 := hide (TY.out.res hg2 hk2); clear hg2 hk2))
              refine bodyPost_ret (v := .tuple #[.agg (sA a L.length ac ((p + n : Nat) : Int) o ol oc m 0), .int .i64 (s : Int)]) ?_ rfl ⟨s, n, 0, HNX.out, rfl, T2.out.below⟩
              have hld := st_run T2.out.s1
              simp [results, asAddr, hld]
          | false =>
            have HR' : Hid (Rn ls L p (s + 1) (so || ag)) := HR.out.step H0.out AG.out AL.out
            clear HALI
            cases ag with
            | true =>
              have HR2 : Hid (Rn ls L p (s + 1) true) := by have := HR'.out; simp at this; exact this
              go_wp2
              go_roundw
              case rel => exact ⟨s + 1, true, by omega, by go_num, rfl, HR2.out, TX.out⟩
              case measure => simp [intOf]; omega
            | false =>
              have HR2 : Hid (Rn ls L p (s + 1) so) := by have := HR'.out; simp at this; exact this
              go_wp2
              go_roundw
              case rel => exact ⟨s + 1, so, by omega, by go_num, rfl, HR2.out, TX.out⟩
              case measure => simp [intOf]; omega
    · obtain rfl : s = ls.length := by omega
      have HNX : Hid (NextIs ls (bn L p) (L.length - p) N 0 0 (if so then 42 else 43)) := HR.out.end_ HG.out HN.out HB.out hp
      have HF := fun f w' => hide (rfails_c a o L.length ac ol oc p m 0 f w')
      cases so with
      | true =>
        go_wp2_with (first
          | (refine st_load rfl (.tmp 2) rfl w.heap.size (by rfl) a o L.length ac ol oc p m 0 (0, 0) TW.out.s0 ?_)
          | (go_at_call 36; refine (HF 60 _).out.mono ?_; rintro x w1 ⟨rfl, hb⟩; have T1 := hide (TW.out.stay hb))
          | (refine st_store rfl (.tmp 4) (.tmp 53) rfl (w.heap.size + 1) (by rfl) a o L.length ac ol oc p m 60 (by rfl) _ (by rfl) T1.out.s1 ?_; intro w2 hg2 hk2; have T2 := hide (T1.out.res hg2 hk2); clear hg2 hk2))
        refine bodyPost_ret (v := .tuple #[.agg (sA a L.length ac p o ol oc m 60), .int .i64 0]) ?_ rfl ⟨0, 0, 42, HNX.out, rfl, T2.out.below⟩
        have hld := st_run T2.out.s1
        simp [results, asAddr, hld]
      | false =>
        go_wp2_with (first
          | (refine st_load rfl (.tmp 2) rfl w.heap.size (by rfl) a o L.length ac ol oc p m 0 (0, 0) TW.out.s0 ?_)
          | (go_at_call 36; refine (HF 63 _).out.mono ?_; rintro x w1 ⟨rfl, hb⟩; have T1 := hide (TW.out.stay hb))
          | (refine st_store rfl (.tmp 4) (.tmp 55) rfl (w.heap.size + 1) (by rfl) a o L.length ac ol oc p m 63 (by rfl) _ (by rfl) T1.out.s1 ?_; intro w2 hg2 hk2; have T2 := hide (T1.out.res hg2 hk2); clear hg2 hk2))
        refine bodyPost_ret (v := .tuple #[.agg (sA a L.length ac p o ol oc m 63), .int .i64 0]) ?_ rfl ⟨0, 0, 43, HNX.out, rfl, T2.out.below⟩
        have hld := st_run T2.out.s1
        simp [results, asAddr, hld]
end Go.Proofs.YtlakgbckopjelabGreatDoor

/- The reference's Fixed and five: contracts. -/
namespace Go.Proofs.YtlakgbckopjelabGreatDoor
set_option maxRecDepth 100000
open Go Go.RowKit

theorem take_ln (L : List Int) {k : Nat} (h : k < L.length) : L.take (k + 1) = L.take k ++ [ln L k] := by
  rw [List.take_succ_eq_append_getElem h]
  simp [ln, List.getD, h]
theorem iFix_lnR {k : Nat} (h : k < 288) : ln iFix k = if 144 ≤ k ∧ k < 256 then 9 else if 256 ≤ k ∧ k < 280 then 7 else 8 := by
  unfold ln iFix List.getD
  simp only [List.getElem?_append, List.length_append, List.length_replicate, List.getElem?_replicate]
  rcases (show k < 144 ∨ (144 ≤ k ∧ k < 256) ∨ (256 ≤ k ∧ k < 280) ∨ (280 ≤ k ∧ k < 288) by omega) with h1 | h1 | h1 | h1
  all_goals
    repeat (first | rw [if_pos (by omega)] | rw [if_neg (by omega)])
    try rfl


set_option maxHeartbeats 1000000 in
set_option maxRecDepth 100000 in
theorem rfive_c (w : World) : Calls Tryz.prog 34 #[] w fun e w' => ∃ v, e = .returned v ∧ Owns w' w.heap.size v iFive ∧ Below w.heap.size w w' := by
  obtain ⟨i0, hi, hz0, hz1', hz2'⟩ := info_parts Tryz.info3
  have hlen : Hid (iFive.length = 32) := iFive_length
  have HV : ∀ k, k < 32 → Hid (iFive.take (k + 1) = iFive.take k ++ [5]) := fun k hk => by show _ = _; rw [take_ln _ (by rw [iFive_length]; exact hk), iFive_ln hk]
  have HL : ∀ k, k ≤ 32 → (iFive.take k).length ≤ 32 := fun k hk => by rw [List.length_take]; omega
  have HE : Hid (iFive.take 32 = iFive) := by show _ = _; rw [List.take_of_length_le]; rw [iFive_length]; omega
  generalize iFive = F at hlen HV HL HE ⊢
  go_enter Tryz.func34, Tryz.ntmps34
  go_wp2
  go_loopw [1, 2] (fun v i wr => ∃ k : Nat, k ≤ 32 ∧ i = .int .i64 k ∧ Owns wr w.heap.size v (F.take k) ∧ Below w.heap.size w wr) (fun _ i _ => 32 - (intOf i).toNat)
  case atStart => exact ⟨0, Nat.zero_le _, rfl, Owns.nil _ _, Below.refl _ _⟩
  case round =>
    obtain ⟨k, hk, rfl, hown, hbel⟩ := hrel
    have HR := hide hown
    have HB := hide hbel
    have hsz := hbel.size
    have hLl := HL k hk
    clear hown hbel
    by_cases hlt : k < 32
    · have HVk := HV k hlt
      clear HV HL
      generalize F.take k = L at HR hLl HVk
      go_wp2_with (at_builtin; refine wpList_append_own _ rfl _ _ 45 rfl w.heap.size 3 i0 (.int .i64 0) 1 8 Tryz.underlying45 hi hz0 hz1' hz2' rfl (by decide) _ _ _ rfl (World.ownsRow.alloc HR.out _) ⟨wr.heap.size, 0, none⟩ 1 1 [.int .i64 5] rfl rfl (one_int wr _) (by intro u hu; simp at hu; subst hu; rfl) (by unfold maxLen; omega) (by omega) (by simp; omega) ?_; intro v' w1 hown' hgrow hnil)
      go_roundw
      case rel =>
        refine ⟨k + 1, by omega, by go_num, ?_, ?_⟩
        · rw [HVk.out]; exact Owns.push hown'
        · exact (HB.out.alloc hsz _).grown hgrow (by simp; omega) (fun g e => (ownsRow_lt HR.out e).1)
      case measure => simp [intOf]; omega
    · obtain rfl : k = 32 := by omega
      rw [HE.out] at HR
      go_wp2
      go_ret
      exact ⟨_, rfl, HR.out, HB.out⟩

set_option maxHeartbeats 1000000 in
set_option maxRecDepth 100000 in
theorem rFixed_c (w : World) : Calls Tryz.prog 33 #[] w fun e w' => ∃ v, e = .returned v ∧ Owns w' w.heap.size v iFix ∧ Below w.heap.size w w' := by
  obtain ⟨i0, hi, hz0, hz1', hz2'⟩ := info_parts Tryz.info3
  have hlen : Hid (iFix.length = 288) := iFix_length
  have HV : ∀ k, k < 288 → Hid (iFix.take (k + 1) = iFix.take k ++ [if 144 ≤ k ∧ k < 256 then 9 else if 256 ≤ k ∧ k < 280 then 7 else 8]) := fun k hk => by show _ = _; rw [take_ln _ (by rw [iFix_length]; exact hk), iFix_lnR hk]
  have HL : ∀ k, k ≤ 288 → (iFix.take k).length ≤ 288 := fun k hk => by rw [List.length_take]; omega
  have HE : Hid (iFix.take 288 = iFix) := by show _ = _; rw [List.take_of_length_le]; rw [iFix_length]; omega
  generalize iFix = F at hlen HV HL HE ⊢
  go_enter Tryz.func33, Tryz.ntmps33
  go_wp2
  go_loopw [1, 2] (fun v i wr => ∃ k : Nat, k ≤ 288 ∧ i = .int .i64 k ∧ Owns wr w.heap.size v (F.take k) ∧ Below w.heap.size w wr) (fun _ i _ => 288 - (intOf i).toNat)
  case atStart => exact ⟨0, Nat.zero_le _, rfl, Owns.nil _ _, Below.refl _ _⟩
  case round =>
    obtain ⟨k, hk, rfl, hown, hbel⟩ := hrel
    have HR := hide hown
    have HB := hide hbel
    have hsz := hbel.size
    have hLl := HL k hk
    clear hown hbel
    by_cases hlt : k < 288
    · have HVk := HV k hlt
      clear HV HL
      generalize F.take k = L at HR hLl HVk
      by_cases h1 : 144 ≤ k ∧ k < 256
      case' pos =>
        rw [if_pos h1] at HVk
        obtain ⟨h1a, h1b⟩ := h1
        have h2 : (144 : Int) ≤ k := by omega
        have h3 : (k : Int) < 256 := by omega
        have h4 : ¬ (256 : Int) ≤ k := by omega
        go_wp2_with (at_builtin; refine wpList_append_own _ rfl _ _ 45 rfl w.heap.size 3 i0 (.int .i64 0) 1 8 Tryz.underlying45 hi hz0 hz1' hz2' rfl (by decide) _ _ _ rfl (World.ownsRow.alloc HR.out _) ⟨wr.heap.size, 0, none⟩ 1 1 [.int .i64 9] rfl rfl (one_int wr _) (by intro u hu; simp at hu; subst hu; rfl) (by unfold maxLen; omega) (by omega) (by simp; omega) ?_; intro v' w1 hown' hgrow hnil)
      case' neg =>
        rw [if_neg h1] at HVk
        by_cases h5 : 256 ≤ k ∧ k < 280
        case' pos =>
          rw [if_pos h5] at HVk
          obtain ⟨h5a, h5b⟩ := h5
          have h2 : (144 : Int) ≤ k := by omega
          have h3 : ¬ (k : Int) < 256 := by omega
          have h4 : (256 : Int) ≤ k := by omega
          have h6 : (k : Int) < 280 := by omega
          clear h1
          go_wp2_with (at_builtin; refine wpList_append_own _ rfl _ _ 45 rfl w.heap.size 3 i0 (.int .i64 0) 1 8 Tryz.underlying45 hi hz0 hz1' hz2' rfl (by decide) _ _ _ rfl (World.ownsRow.alloc HR.out _) ⟨wr.heap.size, 0, none⟩ 1 1 [.int .i64 7] rfl rfl (one_int wr _) (by intro u hu; simp at hu; subst hu; rfl) (by unfold maxLen; omega) (by omega) (by simp; omega) ?_; intro v' w1 hown' hgrow hnil)
        case' neg =>
          rw [if_neg h5] at HVk
          have h7 : k < 144 ∨ 280 ≤ k := by omega
          clear h1 h5
          rcases h7 with h7 | h7
          case' inl =>
            have h2 : ¬ (144 : Int) ≤ k := by omega
            have h4 : ¬ (256 : Int) ≤ k := by omega
            go_wp2_with (at_builtin; refine wpList_append_own _ rfl _ _ 45 rfl w.heap.size 3 i0 (.int .i64 0) 1 8 Tryz.underlying45 hi hz0 hz1' hz2' rfl (by decide) _ _ _ rfl (World.ownsRow.alloc HR.out _) ⟨wr.heap.size, 0, none⟩ 1 1 [.int .i64 8] rfl rfl (one_int wr _) (by intro u hu; simp at hu; subst hu; rfl) (by unfold maxLen; omega) (by omega) (by simp; omega) ?_; intro v' w1 hown' hgrow hnil)
          case' inr =>
            have h2 : (144 : Int) ≤ k := by omega
            have h3 : ¬ (k : Int) < 256 := by omega
            have h4 : (256 : Int) ≤ k := by omega
            have h6 : ¬ (k : Int) < 280 := by omega
            go_wp2_with (at_builtin; refine wpList_append_own _ rfl _ _ 45 rfl w.heap.size 3 i0 (.int .i64 0) 1 8 Tryz.underlying45 hi hz0 hz1' hz2' rfl (by decide) _ _ _ rfl (World.ownsRow.alloc HR.out _) ⟨wr.heap.size, 0, none⟩ 1 1 [.int .i64 8] rfl rfl (one_int wr _) (by intro u hu; simp at hu; subst hu; rfl) (by unfold maxLen; omega) (by omega) (by simp; omega) ?_; intro v' w1 hown' hgrow hnil)
      all_goals
        go_roundw
        case rel =>
          refine ⟨k + 1, by omega, by go_num, ?_, ?_⟩
          · rw [HVk.out]; exact Owns.push hown'
          · exact (HB.out.alloc hsz _).grown hgrow (by simp; omega) (fun g e => (ownsRow_lt HR.out e).1)
        case measure => simp [intOf]; omega
    · obtain rfl : k = 288 := by omega
      rw [HE.out] at HR
      go_wp2
      go_ret
      exact ⟨_, rfl, HR.out, HB.out⟩
end Go.Proofs.YtlakgbckopjelabGreatDoor

/- The reference's Rows: contract. -/
namespace Go.Proofs.YtlakgbckopjelabGreatDoor
set_option maxRecDepth 100000
open Go Go.RowKit

theorem gd_left {gs : List Nat} {g i : Nat} (h : i < gs.length) : (gs ++ [g]).getD i 0 = gs.getD i 0 := by simp only [List.getD, List.getElem?_append_left h]
theorem gd_right (gs : List Nat) (g : Nat) : (gs ++ [g]).getD gs.length 0 = g := by simp [List.getD]
def rVs (ls : List Int) (gs : List Nat) : List Value := (List.range gs.length).map fun i => .slice (some ⟨gs.getD i 0, 0, none⟩) (ln ls i).toNat (ln ls i).toNat
theorem rVs_push (ls : List Int) (gs : List Nat) (g n : Nat) (hn : ln ls gs.length = (n : Int)) : rVs ls (gs ++ [g]) = rVs ls gs ++ [.slice (some ⟨g, 0, none⟩) n n] := by
  unfold rVs
  rw [List.length_append, List.length_singleton, List.range_succ, List.map_append, List.map_singleton, gd_right, hn, Int.toNat_natCast]
  congr 1
  refine List.map_congr_left fun i hi => ?_
  rw [gd_left (List.mem_range.1 hi)]
/-- Rows of codes, being made. -/
structure RoAt (lo : Nat) (w : World) (v : Value) (ls : List Int) (gs : List Nat) : Prop where
  owns : w.ownsRow lo 45 1 v gs.length (rVs ls gs)
  rows : ∀ i, i < gs.length → lo ≤ gs.getD i 0 ∧ gs.getD i 0 < w.heap.size ∧ w.heap[gs.getD i 0]? = some (.cells (valA (rowL (cd ls i) (ln ls i).toNat)) 3 (0, 0))
theorem RoAt.empty (lo : Nat) (w : World) (ls : List Int) : RoAt lo w (.slice none 0 0) ls [] := ⟨World.ownsRow_nil _ _ _ _, fun i hi => by simp at hi⟩
theorem RoAt.push {lo g n : Nat} {w w1 w4 : World} {v v' : Value} {ls : List Int} {gs : List Nat} (h : RoAt lo w v ls gs) (hw : Below w.heap.size w w1) (hlo : lo ≤ w.heap.size) (hg : w.heap.size ≤ g) (hn : ln ls gs.length = (n : Int)) (hr : w1.heap[g]? = some (.cells (valA (rowL (cd ls gs.length) n)) 3 (0, 0)))
    (ho : w4.ownsRow lo 45 1 v' (gs.length + 1) (rVs ls gs ++ [.slice (some ⟨g, 0, none⟩) n n])) (hk : Kept (fun b => some b = v.ownBlock) w1 w4) : RoAt lo w4 v' ls (gs ++ [g]) := by
  have hgl := lt_of_block hr
  refine ⟨?_, fun i hi => ?_⟩
  · rw [rVs_push ls gs g n hn, List.length_append, List.length_singleton]; exact ho
  · have hsz := hk.size
    by_cases e : i = gs.length
    · subst e
      rw [gd_right, hn, Int.toNat_natCast]
      refine ⟨by omega, by omega, (hk.block g hgl fun e => ?_).trans hr⟩
      have := (ownsRow_lt h.owns e.symm).2
      omega
    · have hi' : i < gs.length := by simp at hi; omega
      obtain ⟨r1, r2, r3⟩ := h.rows i hi'
      have hb := (hw.block _ r2).trans r3
      rw [gd_left hi']
      refine ⟨r1, by have := hw.size; omega, (hk.block _ (by have := hw.size; omega) fun e => ?_).trans hb⟩
      exact ownsRow_apart h.owns r3 (by decide) e.symm
/-- Rows of codes, their blocks known whole. -/
def RAt2 (w : World) (ra : Option Addr) (ls : List Int) : Prop :=
  ls.length = 0 ∨ ∃ b cs, ra = some ⟨b, 0, none⟩ ∧ w.heap[b]? = some (.cells cs 45 (0, 0)) ∧ ∀ s, s < ls.length → ∃ g, cs[s]? = some (.slice (some ⟨g, 0, none⟩) (ln ls s).toNat (ln ls s).toNat) ∧ w.heap[g]? = some (.cells (valA (rowL (cd ls s) (ln ls s).toNat)) 3 (0, 0))
theorem RAt2.at_ {w : World} {ra : Option Addr} {ls : List Int} (h : RAt2 w ra ls) : RAt w.heap.size w ra ls := by
  rcases h with h | ⟨b, cs, ha, hb, hr⟩
  · exact .inl h
  · refine .inr ⟨b, 0, lt_of_block hb, ha, fun s hs => ?_⟩
    obtain ⟨g, h1, h2⟩ := hr s hs
    refine ⟨g, lt_of_block h2, ?_, h2⟩
    rw [Nat.zero_add, cells_of hb s]; exact h1
theorem RAt2.kept {M : Nat → Prop} {w w' : World} {ra : Option Addr} {ls : List Int} (h : RAt2 w ra ls) (k : Kept M w w') (hM : ∀ b cs (t : TypeId), w.heap[b]? = some (.cells cs t (0, 0)) → t ≠ 5 → t ≠ 63 → ¬ M b) : RAt2 w' ra ls := by
  rcases h with h | ⟨b, cs, ha, hb, hr⟩
  · exact .inl h
  · refine .inr ⟨b, cs, ha, k.heap hb (hM b _ _ hb (by decide) (by decide)), fun s hs => ?_⟩
    obtain ⟨g, h1, h2⟩ := hr s hs
    exact ⟨g, h1, k.heap h2 (hM g _ _ h2 (by decide) (by decide))⟩
theorem RAt2.stay {w w' : World} {ra : Option Addr} {ls : List Int} (h : RAt2 w ra ls) (k : Below w.heap.size w w') : RAt2 w' ra ls :=
  h.kept (Kept.of_below k) (fun b cs t hb _ _ e => by have := lt_of_block hb; omega)
theorem RoAt.at_ {lo : Nat} {w : World} {v : Value} {ls : List Int} {gs : List Nat} (h : RoAt lo w v ls gs) (hl : gs.length = ls.length) : ∃ a c, v = .slice a ls.length c ∧ RAt2 w a ls := by
  rcases h.owns.2 with ⟨rfl, h2⟩ | ⟨g, cap, cur, rfl, hg, hh, hr⟩
  · exact ⟨none, 0, by rw [← hl, h2], .inl (by omega)⟩
  · refine ⟨_, _, by rw [hl], .inr ⟨g, cur, rfl, hh, fun s hs => ?_⟩⟩
    obtain ⟨r1, r2, r3⟩ := h.rows s (by omega)
    refine ⟨gs.getD s 0, ?_, r3⟩
    have := World.ownsRow.cellAt h.owns s (by omega)
    rw [cells_of hh s] at this
    rw [this]
    simp [rVs, hl, hs]
theorem one_row (w : World) (x : Value) (n : Nat) (h : w.heap.size = n) : ∀ j u, [x][j]? = some u → (w.alloc (.cells #[x] 45)).cell? ((⟨n, 0, none⟩ : Addr).add j) = some u := by
  subst h; exact World.news_of_block (heap_new w (.cells #[x] 45))
theorem Tryz.infoInts : (Tryz.prog.info? 45).map (fun i => (i.zero, i.size, i.bytes)) = some (some (.slice none 0 0), 1, 24) := by kernel_rfl

def RowsOk (ls : List Int) (w : World) (e : Ending) (w' : World) : Prop := ∃ ra rc, e = .returned (.slice ra ls.length rc) ∧ RAt2 w' ra ls ∧ Below w.heap.size w w'

set_option maxHeartbeats 4000000 in
set_option maxRecDepth 100000 in
theorem rRows_c (B : Nat) (a : Option Addr) (cap : Nat) (ls : List Int) (w : World) (h3 : ls.length ≤ 320) (hg : Good ls) (hi_ : Ints 0 B w a ls) :
    Calls Tryz.prog 57 #[.slice a ls.length cap] w (RowsOk ls w) := by
  obtain ⟨i1, hi1, hy0, hy1', hy2'⟩ := info_parts Tryz.infoInts
  have HG : Hid (Good ls) := hg
  have HI : Hid (Ints 0 B w a ls) := hi_
  have HB0 : Hid (Below w.heap.size w (w.alloc (.cells (valA (codesL ls)) 3))) := (Below.refl _ w).alloc (Nat.le_refl _) _
  have HC0 : Hid ((w.alloc (.cells (valA (codesL ls)) 3)).heap[w.heap.size]? = some (.cells (valA (codesL ls)) 3 (0, 0))) := heap_new _ _
  have HSZ : Hid ((w.alloc (.cells (valA (codesL ls)) 3)).heap.size = w.heap.size + 1) := by show _ = _; simp
  clear hg hi_
  go_enter Tryz.func57, Tryz.ntmps57
  go_wp2_with (go_at_call 74; refine (refCodes_c B a cap ls _ h3 HG.out.fit HG.out.le HI.out).mono ?_; rintro e w1 ⟨rfl, rfl⟩)
  generalize w.alloc (.cells (valA (codesL ls)) 3) = w1 at HB0 HC0 HSZ ⊢
  go_loopw [4, 5] (fun v4 v5 wr => ∃ gs : List Nat, gs.length ≤ ls.length ∧ v5 = .int .i64 gs.length ∧ RoAt w1.heap.size wr v4 ls gs ∧ Below w1.heap.size w1 wr) (fun _ v5 _ => ls.length - (intOf v5).toNat)
  case atStart => exact ⟨[], by simp, rfl, RoAt.empty _ _ _, Below.refl _ _⟩
  case round =>
    obtain ⟨gs, hs, rfl, hro, hbel⟩ := hrel
    have HR := hide hro
    have BR : Hid (Below w1.heap.size w1 wr) := hbel
    have BW : Hid (Below w.heap.size w wr) := HB0.out.trans (hbel.mono HB0.out.size)
    have hsz1 := hbel.size
    clear hro hbel
    by_cases hlt : gs.length < ls.length
    · obtain ⟨b, off, _, _, hbw, rfl, hcell⟩ := HI.out.resolve_left (by omega)
      have hcs := (BW.out.cell (p := ⟨b, off + gs.length, none⟩) hbw).trans (hcell gs.length hlt)
      have hfit := ln_fit HG.out.fit gs.length
      obtain ⟨n, hn⟩ := Int.eq_ofNat_of_zero_le hfit.1
      have hn15 : n ≤ 15 := by omega
      have HLN := hide hn
      obtain ⟨c, hc, hcb⟩ : ∃ c : Nat, (if 1 ≤ ln ls gs.length then (cd ls gs.length : Int) else 0) = (c : Int) ∧ c ≤ 32768 := by
        by_cases h1 : 1 ≤ ln ls gs.length
        · refine ⟨cd ls gs.length, if_pos h1, ?_⟩
          have := (cd_lt HG.out.le HG.out.fit hlt h1).2
          have p15 : 2 ^ (ln ls gs.length).toNat ≤ 2 ^ 15 := Nat.pow_le_pow_right (by decide) (by omega)
          omega
        · exact ⟨0, if_neg h1, by omega⟩
      have hco : wr.cell? ⟨w.heap.size, gs.length, none⟩ = some (.int .i64 (c : Int)) := by
        rw [cells_of ((BR.out.block w.heap.size (by have := HSZ.out; omega)).trans HC0.out) gs.length, valA_at _ (by rw [codesL_length]; exact hlt), codesL_at ls hlt]
        rw [hc]
      have HCR : Hid (valA (rowL c n) = valA (rowL (cd ls gs.length) n)) := by
        by_cases h1 : 1 ≤ ln ls gs.length
        · rw [if_pos h1] at hc
          have : c = cd ls gs.length := by omega
          subst this; exact rfl
        · have : n = 0 := by omega
          subst this; exact rfl
      replace hcs : wr.cell? ⟨b, off + gs.length, none⟩ = some (.int .i64 (n : Int)) := by rw [hcs, hn]
      have hwl : w.heap.size < wr.heap.size := by have := BR.out.size; have := HSZ.out; omega
      have hnil : Hid (∃ a4 c4, u4 = Value.slice a4 gs.length c4) := own_form HR.out.owns
      obtain ⟨a4, c4, rfl⟩ := hnil.out
      have hwB : w.heap.size ≤ wr.heap.size := by omega
      have hbB : b < wr.heap.size := by omega
      have hfar : ∀ (o1 o2 : Obj) (w4 : World), (((wr.alloc o1).alloc o2).drew).grownBy w4 (Value.slice a4 gs.length c4).ownBlock → w4.cell? ⟨w.heap.size, gs.length, none⟩ = some (.int .i64 (c : Int)) ∧ w4.cell? ⟨b, off + gs.length, none⟩ = some (.int .i64 (n : Int)) := fun o1 o2 w4 hgr => by
        have hk := Kept.of_grown hgr
        have hW : Below wr.heap.size wr (((wr.alloc o1).alloc o2).drew) := (((Below.refl _ wr).alloc (Nat.le_refl _) _).alloc (by simp) _).drew
        have hz := hW.size
        have hap : ∀ x, x < w1.heap.size → ¬ some x = (Value.slice a4 gs.length c4).ownBlock := fun x hx e => by have := (ownsRow_lt HR.out.owns e.symm).1; omega
        have h1 := HSZ.out
        refine ⟨?_, ?_⟩
        · exact (hk.cell (p := ⟨w.heap.size, gs.length, none⟩) (by show w.heap.size < _; omega) (hap _ (by show w.heap.size < _; omega))).trans ((hW.cell (p := ⟨w.heap.size, gs.length, none⟩) (by show w.heap.size < _; omega)).trans hco)
        · exact (hk.cell (p := ⟨b, off + gs.length, none⟩) (by show b < _; omega) (hap _ (by show b < _; omega))).trans ((hW.cell (p := ⟨b, off + gs.length, none⟩) (by show b < _; omega)).trans hcs)
      clear hcell hfit hn hc hnil
      go_upto_region 6 with fail
      have i1' : (0 : Int) ≤ (gs.length : Int) := by omega
      have i2' : (gs.length : Int) < (ls.length : Int) := by omega
      have hOW : ∀ o1 o2 : Obj, (((wr.alloc o1).alloc o2).drew).ownsRow w1.heap.size 45 1 (.slice a4 gs.length c4) gs.length (rVs ls gs) := fun o1 o2 => ((World.ownsRow.alloc HR.out.owns o1).alloc o2).drew
      have hNews : ∀ (o1 : Obj) (x : Value), ∀ j u, [x][j]? = some u → (((wr.alloc o1).alloc (.cells #[x] 45)).drew).cell? ((⟨wr.heap.size + 1, 0, none⟩ : Addr).add j) = some u := fun o1 x => one_row (wr.alloc o1) x (wr.heap.size + 1) (by simp)
      go_region_held3 (fun w' => w'.cell? ⟨w.heap.size, gs.length, none⟩ = some (.int .i64 (c : Int)) ∧ w'.cell? ⟨b, off + gs.length, none⟩ = some (.int .i64 (n : Int))) (first | exact hfar _ _ _ HGR.out | go_keep | assumption) (first
        | (go_at_call 75; refine (refRow_c c n _ hn15 (by omega)).mono ?_; rintro e w2 ⟨rfl, rfl⟩)
        | (refine step_append_lies _ (by rfl) _ _ 98 (by rfl) w1.heap.size 45 i1 (.slice none 0 0) 1 24 Tryz.underlying98 hi1 hy0 hy1' hy2' rfl (by omega) _ gs.length (rVs ls gs) (by rfl) (hOW _ _) ⟨wr.heap.size + 1, 0, none⟩ 1 1 [.slice (some ⟨wr.heap.size, 0, none⟩) n n] (by rfl) rfl (hNews _ _) (by intro u hu; simp at hu; subst hu; rfl) (by omega) (by unfold maxLen; omega) (by omega) (by simp; omega) (wr.heap.size + 2) (by simp) ?_; intro g4 c5 w4 hown' hgrow hat hlt4; have HO4 := hide hown'; have HGR := hide hgrow; clear hown' hgrow hat hlt4))
      go_wp2
      go_roundw
      case rel =>
        have hk := Kept.of_grown HGR.out
        have hW : Below wr.heap.size wr (wr.alloc (.cells (valA (rowL c n)) 3)) := (Below.refl _ wr).alloc (Nat.le_refl _) _
        have hk2 : Kept (fun b => some b = (Value.slice a4 gs.length c4).ownBlock) (wr.alloc (.cells (valA (rowL c n)) 3)) w4 :=
          Kept.trans (M' := fun b => some b = (Value.slice a4 gs.length c4).ownBlock) (b := ((wr.alloc _).alloc _).drew) (Kept.drewN (Kept.alloc _ (Kept.refl _ _) _) 1) hk (fun _ _ h => h)
        refine ⟨gs ++ [wr.heap.size], by simp; omega, by simp, HR.out.push hW hsz1 (Nat.le_refl _) HLN.out (by rw [← HCR.out]; exact heap_new _ _) HO4.out hk2, ?_⟩
        exact ((((BR.out.alloc hsz1 _).alloc (by simp; omega) _).drew).grown HGR.out (by simp; omega) (fun g e => (ownsRow_lt HR.out.owns e).1))
      case measure => simp [intOf]; omega
    · have hl : gs.length = ls.length := by omega
      obtain ⟨a4, c4, rfl, hat⟩ := HR.out.at_ hl
      have HA := hide hat
      have hl' : ¬ (gs.length : Int) < (ls.length : Int) := by omega
      clear hat hl
      go_wp2
      go_ret
      exact ⟨_, _, rfl, HA.out, BW.out⟩
end Go.Proofs.YtlakgbckopjelabGreatDoor

/- The reference's extra, further, power, Long and Far: contracts. -/
namespace Go.Proofs.YtlakgbckopjelabGreatDoor
set_option maxRecDepth 100000
open Go Go.RowKit

set_option maxRecDepth 100000 in
theorem rextra_c (v : Nat) (w : World) (hv : v ≤ 285) : Calls Tryz.prog 93 #[.int .i64 (v : Int)] w fun x w' => x = .returned (.int .i64 ((if v < 265 then 0 else (v - 261) / 4 : Nat) : Int)) ∧ w' = w := by
  by_cases h : v < 265
  · rw [if_pos h]
    go_enter Tryz.func93, Tryz.ntmps93
    go_wp2
    go_ret
    exact ⟨rfl, rfl⟩
  · rw [if_neg h]
    have h1 : ((v : Int) - 261).tdiv 4 = ((v - 261) / 4 : Nat) := by
      rw [Int.tdiv_eq_ediv_of_nonneg (by omega)]; omega
    have h1' : ((v : Int) - 261) / 4 = ((v - 261) / 4 : Nat) := by omega
    go_enter Tryz.func93, Tryz.ntmps93
    go_wp2
    go_ret
    exact ⟨by go_num, rfl⟩
theorem rfurther_c (v : Nat) (w : World) (hv : v ≤ 31) : Calls Tryz.prog 94 #[.int .i64 (v : Int)] w fun x w' => x = .returned (.int .i64 (iDx v : Int)) ∧ w' = w := by
  unfold iDx
  by_cases h : v < 4
  · rw [if_pos h]
    go_enter Tryz.func94, Tryz.ntmps94
    go_wp2
    go_ret
    exact ⟨rfl, rfl⟩
  · rw [if_neg h]
    go_enter Tryz.func94, Tryz.ntmps94
    go_wp2
    go_ret
    exact ⟨by go_num, rfl⟩
theorem rpower_c (n : Nat) (w : World) (hn : n ≤ 16) : Calls Tryz.prog 92 #[.int .i64 (n : Int)] w fun x w' => x = .returned (.int .i64 ((2 ^ n : Nat) : Int)) ∧ w' = w := by
  go_enter Tryz.func92, Tryz.ntmps92
  go_wp2
  go_loop [3, 4] (fun q i => ∃ k : Nat, k ≤ n ∧ i = .int .i64 k ∧ q = .int .i64 ((2 ^ k : Nat) : Int)) (fun _ i => n - (intOf i).toNat)
  case atStart => exact ⟨0, by omega, rfl, rfl⟩
  case round =>
    obtain ⟨k, hk, rfl, rfl⟩ := hrel
    by_cases hlt : k < n
    · have h5 : Hid (2 ^ (k + 1) = 2 ^ k * 2) := Nat.pow_succ 2 k
      have h2 : 2 ^ k ≤ 2 ^ 16 := Nat.pow_le_pow_right (by decide) (by omega)
      generalize 2 ^ k = Q at h2 h5 ⊢
      go_wp2
      go_round
      case rel => exact ⟨k + 1, by omega, by go_num, by rw [h5.out]; go_num⟩
      case measure => simp [intOf]; omega
    · obtain rfl : k = n := by omega
      obtain ⟨Q, hQ⟩ : ∃ Q, Q = 2 ^ k := ⟨_, rfl⟩
      rw [← hQ]
      have HQ := hide hQ
      clear hQ
      go_wp2
      go_ret
      exact ⟨by rw [HQ.out]; rfl, rfl⟩

/-- How many bits more, as the reference has it. -/
def rX (v : Nat) : Nat := if v < 265 then 0 else (v - 261) / 4
theorem rX_le {v : Nat} (hv : v ≤ 285) : rX v ≤ 6 := by unfold rX; split <;> omega
theorem rX_eq {v : Nat} (hv : v ≤ 284) : rX v = iLx v := by unfold rX iLx; split; rfl; rw [if_neg (by omega)]
def rLs (k : Nat) : Nat := 3 + ((List.range k).map fun u => 2 ^ rX (257 + u)).sum
theorem rLs_succ (k : Nat) : rLs (k + 1) = rLs k + 2 ^ rX (257 + k) := by unfold rLs; rw [List.range_succ]; simp; omega
theorem rLs_le (k : Nat) (h : k ≤ 28) : rLs k ≤ 3 + 64 * k := by
  induction k with
  | zero => simp [rLs]
  | succ k ih =>
    have := ih (by omega)
    have h2 : 2 ^ rX (257 + k) ≤ 2 ^ 6 := Nat.pow_le_pow_right (by decide) (rX_le (by omega))
    rw [rLs_succ]; omega
theorem rLs_eq {v : Nat} (h : v ≤ 284) : rLs (v - 257) = iLb v := by
  have e : (List.range (v - 257)).map (fun u => 2 ^ rX (257 + u)) = (List.range (v - 257)).map (fun u => 2 ^ iLx (257 + u)) := by
    refine List.map_congr_left fun u hu => ?_
    have := List.mem_range.1 hu
    rw [rX_eq (by omega)]
  unfold rLs iLb
  rw [if_neg (by omega), e]
theorem iDb_succ (k : Nat) : iDb (k + 1) = iDb k + 2 ^ iDx k := by unfold iDb; rw [List.range_succ]; simp; omega
theorem iDx_leR {v : Nat} (hv : v ≤ 29) : iDx v ≤ 13 := by unfold iDx; split <;> omega
theorem iDb_leR (k : Nat) (h : k ≤ 30) : iDb k ≤ 1 + 8192 * k := by
  induction k with
  | zero => simp [iDb]
  | succ k ih =>
    have := ih (by omega)
    have h2 : 2 ^ iDx k ≤ 2 ^ 13 := Nat.pow_le_pow_right (by decide) (iDx_leR (by omega))
    rw [iDb_succ]; omega

set_option maxRecDepth 100000 in
theorem rLong_c (v : Nat) (w : World) (h1 : 257 ≤ v) (h2 : v ≤ 285) : Calls Tryz.prog 77 #[.int .i64 (v : Int)] w fun x w' => x = .returned (.tuple #[.int .i64 (iLb v : Int), .int .i64 (iLx v : Int)]) ∧ w' = w := by
  by_cases h5 : v = 285
  · subst h5
    go_enter Tryz.func77, Tryz.ntmps77
    go_wp2
    go_ret2
    exact ⟨rfl, rfl⟩
  · have H1 : Hid (rLs (v - 257) = iLb v) := rLs_eq (by omega)
    have H2 : Hid (rX v = iLx v) := rX_eq (by omega)
    rw [← H1.out, ← H2.out]
    have HX : ∀ (k : Nat) (w' : World), k ≤ 285 → Hid (Calls Tryz.prog 93 #[.int .i64 (k : Int)] w' fun x w'' => x = .returned (.int .i64 (rX k : Int)) ∧ w'' = w') := fun k w' hk => rextra_c k w' hk
    have HS : ∀ k, 257 ≤ k → Hid (rLs (k + 1 - 257) = rLs (k - 257) + 2 ^ rX k) := fun k hk => by
      have := rLs_succ (k - 257)
      rw [show 257 + (k - 257) = k by omega] at this
      rw [show k + 1 - 257 = k - 257 + 1 by omega]
      exact this
    have HLe : ∀ k, k ≤ 285 → rLs (k - 257) ≤ 2000 := fun k hk => by have := rLs_le (k - 257) (by omega); omega
    have HXl : ∀ k, k ≤ 285 → rX k ≤ 6 := fun k hk => rX_le hk
    have h5' : ¬ (v : Int) = 285 := by omega
    have h5b : ((v : Int) == 285) = false := by simp; omega
    clear H1 H2
    go_enter Tryz.func77, Tryz.ntmps77
    go_wp2
    go_loop [4, 5] (fun q i => ∃ k : Nat, 257 ≤ k ∧ k ≤ v ∧ i = .int .i64 (k : Int) ∧ q = .int .i64 (rLs (k - 257) : Int)) (fun _ i => v - (intOf i).toNat)
    case atStart => exact ⟨257, by omega, by omega, rfl, rfl⟩
    case round =>
      obtain ⟨k, hk0, hk, rfl, rfl⟩ := hrel
      have hle := HLe k (by omega)
      have hxl := HXl k (by omega)
      have HXk := fun w' => HX k w' (by omega)
      have hs := HS k hk0
      by_cases hlt : k < v
      · clear HX HS HLe HXl
        have HP : ∀ w', Hid (Calls Tryz.prog 92 #[.int .i64 (rX k : Int)] w' fun x w'' => x = .returned (.int .i64 ((2 ^ rX k : Nat) : Int)) ∧ w'' = w') := fun w' => rpower_c (rX k) w' (by omega)
        have h2 : 2 ^ rX k ≤ 2 ^ 6 := Nat.pow_le_pow_right (by decide) (by omega)
        generalize 2 ^ rX k = Q at HP h2 hs
        generalize rX k = X at HP HXk hxl
        generalize rLs (k - 257) = R at hle hs ⊢
        go_wp2_with (first
          | (go_at_call 93; refine (HXk _).out.mono ?_; rintro x w' ⟨rfl, rfl⟩)
          | (go_at_call 92; refine (HP _).out.mono ?_; rintro x w' ⟨rfl, rfl⟩))
        go_round
        case rel => exact ⟨k + 1, by omega, by omega, by go_num, by rw [hs.out]; go_num⟩
        case measure => simp [intOf]; omega
      · obtain rfl : k = v := by omega
        go_wp2_with (go_at_call 93; refine (HXk _).out.mono ?_; rintro x w' ⟨rfl, rfl⟩)
        go_ret2
        exact ⟨rfl, rfl⟩

set_option maxRecDepth 100000 in
theorem rFar_c (v : Nat) (w : World) (hv : v ≤ 29) : Calls Tryz.prog 78 #[.int .i64 (v : Int)] w fun x w' => x = .returned (.tuple #[.int .i64 (iDb v : Int), .int .i64 (iDx v : Int)]) ∧ w' = w := by
  have HX : ∀ (k : Nat) (w' : World), k ≤ 29 → Hid (Calls Tryz.prog 94 #[.int .i64 (k : Int)] w' fun x w'' => x = .returned (.int .i64 (iDx k : Int)) ∧ w'' = w') := fun k w' hk => rfurther_c k w' (by omega)
  have HS : ∀ k, Hid (iDb (k + 1) = iDb k + 2 ^ iDx k) := fun k => iDb_succ k
  have HLe : ∀ k, k ≤ 30 → iDb k ≤ 1 + 8192 * k := fun k hk => iDb_leR k hk
  have HXl : ∀ k, k ≤ 29 → iDx k ≤ 13 := fun k hk => iDx_leR hk
  go_enter Tryz.func78, Tryz.ntmps78
  go_wp2
  go_loop [4, 5] (fun q i => ∃ k : Nat, k ≤ v ∧ i = .int .i64 (k : Int) ∧ q = .int .i64 (iDb k : Int)) (fun _ i => v - (intOf i).toNat)
  case atStart => exact ⟨0, by omega, rfl, rfl⟩
  case round =>
    obtain ⟨k, hk, rfl, rfl⟩ := hrel
    have hle := HLe k (by omega)
    have hxl := HXl k (by omega)
    have HXk := fun w' => HX k w' (by omega)
    have hs := HS k
    by_cases hlt : k < v
    · clear HX HS HLe HXl
      have HP : ∀ w', Hid (Calls Tryz.prog 92 #[.int .i64 (iDx k : Int)] w' fun x w'' => x = .returned (.int .i64 ((2 ^ iDx k : Nat) : Int)) ∧ w'' = w') := fun w' => rpower_c (iDx k) w' (by omega)
      have h2 : 2 ^ iDx k ≤ 2 ^ 13 := Nat.pow_le_pow_right (by decide) (by omega)
      generalize 2 ^ iDx k = Q at HP h2 hs
      generalize iDx k = X at HP HXk hxl
      generalize iDb k = R at hle hs ⊢
      go_wp2_with (first
        | (go_at_call 94; refine (HXk _).out.mono ?_; rintro x w' ⟨rfl, rfl⟩)
        | (go_at_call 92; refine (HP _).out.mono ?_; rintro x w' ⟨rfl, rfl⟩))
      go_round
      case rel => exact ⟨k + 1, by omega, by go_num, by rw [hs.out]; go_num⟩
      case measure => simp [intOf]; omega
    · obtain rfl : k = v := by omega
      go_wp2_with (go_at_call 94; refine (HXk _).out.mono ?_; rintro x w' ⟨rfl, rfl⟩)
      go_ret2
      exact ⟨rfl, rfl⟩
end Go.Proofs.YtlakgbckopjelabGreatDoor
