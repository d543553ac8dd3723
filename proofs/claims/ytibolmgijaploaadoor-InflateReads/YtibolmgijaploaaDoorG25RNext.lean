/- Several texts, laid together: HRefNext, RNext. -/
import Derived.Test.YtibolmgijaploaaDoorG23PAlive
import Derived.Test.YtibolmgijaploaaDoorG24RState
/- The reference's Next: contract. -/
namespace Go.Proofs.YtibolmgijaploaaDoor
set_option maxRecDepth 100000
open Go Go.RowKit

theorem match_row (lo hi : Nat) (a : Option Addr) (cap : Nat) (L : List Int) (p c n : Nat) (g : Nat) (w : World) (hL : L.length ≤ 1000000) (hn : n ≤ 15) (hp : p ≤ L.length) (h : Ints lo hi w a L) (h' : w.heap[g]? = some (.cells (valA (rowL c n)) 3 (0, 0))) :
    Calls Tryd.prog 44 #[.slice a L.length cap, .int .i64 (p : Int), .slice (some ⟨g, 0, none⟩) n n] w fun e w' => e = .returned (.tuple #[.bool (agB L p (rowL c n)), .bool (alB L p (rowL c n))]) ∧ ∃ k, w' = w.drewN k := by
  have := match_c lo hi g (g + 1) a (some ⟨g, 0, none⟩) cap n L (rowL c n) p w hL (by rw [rowL_length]; omega) hp h (ints_of h')
  rw [rowL_length] at this
  exact this

theorem below_drewN {B : Nat} {w w' : World} (h : Below B w w') (n : Nat) : Below B w (w'.drewN n) := ⟨h.os, h.tape, h.output, h.size, h.block⟩

/-- What is known ahead of symbol s. -/
structure Rn (ls L : List Int) (p s : Nat) (so : Bool) : Prop where
  some_ : so = true ↔ ∃ t, t < s ∧ ln ls t ≠ 0 ∧ agB L p (rowL (cd ls t) (ln ls t).toNat) = true
  none_ : ∀ t, t < s → ln ls t ≠ 0 → alB L p (rowL (cd ls t) (ln ls t).toNat) = false
theorem Rn.zero (ls L : List Int) (p : Nat) : Rn ls L p 0 false := ⟨by simp, fun t h => absurd h (by omega)⟩
theorem Rn.skip {ls L : List Int} {p s : Nat} {so : Bool} (h : Rn ls L p s so) (h0 : ln ls s = 0) : Rn ls L p (s + 1) so := by
  refine ⟨h.some_.trans ⟨fun ⟨t, h1, h2⟩ => ⟨t, by omega, h2⟩, fun ⟨t, h1, h2, h3⟩ => ⟨t, ?_, h2, h3⟩⟩, fun t h1 h2 => h.none_ t ?_ h2⟩
  · by_cases e : t = s
    · subst e; exact absurd h0 h2
    · omega
  · by_cases e : t = s
    · subst e; exact absurd h0 h2
    · omega
theorem Rn.step {ls L : List Int} {p s : Nat} {so ag : Bool} (h : Rn ls L p s so) (h0 : ln ls s ≠ 0) (ha : agB L p (rowL (cd ls s) (ln ls s).toNat) = ag) (hl : alB L p (rowL (cd ls s) (ln ls s).toNat) = false) : Rn ls L p (s + 1) (so || ag) := by
  refine ⟨?_, fun t h1 h2 => ?_⟩
  · rw [Bool.or_eq_true, h.some_]
    constructor
    · rintro (⟨t, h1, h2⟩ | h1)
      · exact ⟨t, by omega, h2⟩
      · exact ⟨s, by omega, h0, by rw [ha]; exact h1⟩
    · rintro ⟨t, h1, h2, h3⟩
      by_cases e : t = s
      · subst e; right; rw [← ha]; exact h3
      · left; exact ⟨t, by omega, h2, h3⟩
  · by_cases e : t = s
    · subst e; exact hl
    · exact h.none_ t (by omega) h2
theorem Rn.end_ {ls L : List Int} {p : Nat} {so : Bool} (h : Rn ls L p ls.length so) (hg : Good ls) {N : Nat} (hN : Longest ls N) (hb : Bin L) (hp : p ≤ L.length) : NextIs ls (bn L p) (L.length - p) N 0 0 (if so then 42 else 43) := by
  have hno : ∀ m, m ≤ L.length - p → ¬ Hit ls (bn L p) m := by
    intro m hm hh
    obtain ⟨t, ht, hl, hc⟩ := hit_sym hh
    have h1 := hit_pos hh
    have hn := h.none_ t ht (by omega)
    have hlt := (cd_lt hg.le hg.fit ht (by omega)).2
    rw [hl, Int.toNat_natCast] at hn hlt
    have := (alB_iff hb p (cd ls t) m hp hlt).2 ⟨hm, hc.symm⟩
    rw [this] at hn
    simp at hn
  have hs := h.some_.trans (some_iff hg hN hb p hp hno)
  refine .inr ⟨rfl, rfl, hno, ?_⟩
  cases so with
  | true => exact .inl ⟨hs.1 rfl, rfl⟩
  | false =>
    refine .inr ⟨?_, rfl⟩
    rcases Nat.lt_or_ge (L.length - p) N with h' | h'
    · have := hs.2 h'; simp at this
    · exact h'

end Go.Proofs.YtibolmgijaploaaDoor

/- The reference's next: contract. -/
namespace Go.Proofs.YtibolmgijaploaaDoor
set_option maxRecDepth 100000
open Go Go.RowKit

/-- The codes of ls as rows of bits, in memory. -/
def RAt (B : Nat) (w : World) (ra : Option Addr) (ls : List Int) : Prop :=
  ls.length = 0 ∨ ∃ b off, b < B ∧ ra = some ⟨b, off, none⟩ ∧ ∀ s, s < ls.length → ∃ g, g < B ∧ w.cell? ⟨b, off + s, none⟩ = some (.slice (some ⟨g, 0, none⟩) (ln ls s).toNat (ln ls s).toNat) ∧ w.heap[g]? = some (.cells (valA (rowL (cd ls s) (ln ls s).toNat)) 3 (0, 0))
theorem RAt.below {B : Nat} {w w' : World} {ra : Option Addr} {ls : List Int} (h : RAt B w ra ls) (k : Below B w w') : RAt B w' ra ls := by
  rcases h with h | ⟨b, off, h1, h2, h3⟩
  · exact .inl h
  · refine .inr ⟨b, off, h1, h2, fun s hs => ?_⟩
    obtain ⟨g, g1, g2, g3⟩ := h3 s hs
    exact ⟨g, g1, (k.cell (p := ⟨b, off + s, none⟩) h1).trans g2, (k.block g g1).trans g3⟩

/-- Huff's errors as inflate tells them. -/
def e6 (err : Int) : Int := if err = 0 then 0 else if err = 42 then 60 else 63

/-- A call's own state at the first block that it makes, its result at the second. -/
structure Two (w wr : World) (u v : Array Value) : Prop where
  below : Below w.heap.size w wr
  s0 : wr.heap[w.heap.size]? = some (.cells u 46 (0, 0))
  s1 : wr.heap[w.heap.size + 1]? = some (.cells v 46 (0, 0))
theorem Two.new (w : World) (u v : Array Value) : Two w ((w.alloc (.cells u 46)).alloc (.cells v 46)) u v := ⟨((Below.refl _ w).alloc (Nat.le_refl _) _).alloc (by simp) _, heap_new1 w _ _, heap_new2 w _ _⟩
theorem Two.drewN {w wr : World} {u v : Array Value} (h : Two w wr u v) (k : Nat) : Two w (wr.drewN k) u v := ⟨below_drewN h.below k, h.s0, h.s1⟩
theorem Two.drew {w wr : World} {u v : Array Value} (h : Two w wr u v) : Two w wr.drew u v := ⟨h.below.drew, h.s0, h.s1⟩
theorem Two.size {w wr : World} {u v : Array Value} (h : Two w wr u v) : w.heap.size + 1 < wr.heap.size := lt_of_block h.s1
theorem Two.stay {w wr w2 : World} {u v : Array Value} (h : Two w wr u v) (k : Below wr.heap.size wr w2) : Two w w2 u v := by
  have := h.size
  exact ⟨h.below.trans (k.mono (by omega)), (k.block _ (by omega)).trans h.s0, (k.block _ (by omega)).trans h.s1⟩
/-- The result is stored. -/
theorem Two.res {w wr w2 : World} {u v v2 : Array Value} (h : Two w wr u v) (h2 : w2.heap[w.heap.size + 1]? = some (.cells v2 46 (0, 0))) (k : Kept (fun i => i = w.heap.size + 1) wr w2) : Two w w2 u v2 := by
  have := h.size
  exact ⟨h.below.trans (k.below (by omega) (fun i hi e => by omega)), (k.block _ (by omega) (by omega)).trans h.s0, h2⟩
/-- The state is stored. -/
theorem Two.own {w wr w2 : World} {u v u2 : Array Value} (h : Two w wr u v) (h2 : w2.heap[w.heap.size]? = some (.cells u2 46 (0, 0))) (k : Kept (fun i => i = w.heap.size) wr w2) : Two w w2 u2 v := by
  have := h.size
  exact ⟨h.below.trans (k.below (by omega) (fun i hi e => by omega)), h2, (k.block _ (by omega) (by omega)).trans h.s1⟩

theorem Two.at_ {w wr : World} {v : Array Value} {a o : Option Addr} {al ac ol oc : Nat} {p m e : Int} (h : Two w wr (sA a al ac p o ol oc m e) v) (q : Int) : Two w (wr.setCell ⟨w.heap.size, 1, none⟩ (.int .i64 q)) (sA a al ac q o ol oc m e) v := by
  have hs := set_of h.s0 1 (.int .i64 q)
  have hsz := h.size
  refine h.own ?_ ((Kept.refl (fun i => i = w.heap.size) wr).setCell (fun _ => rfl) _)
  rw [hs]
  simp [sA]

set_option maxHeartbeats 4000000 in
set_option maxRecDepth 100000 in
theorem rnext_is (lo hi B : Nat) (a o ra : Option Addr) (ac ol oc rc : Nat) (ls L : List Int) (p N : Nat) (m : Int) (w : World) (h3 : ls.length ≤ 320) (hg : Good ls) (hN : Longest ls N) (hL : L.length ≤ 1000000) (hb : Bin L) (hp : p ≤ L.length) (hl : Ints lo hi w a L) (hr : RAt B w ra ls) (hBw : B ≤ w.heap.size) :
    Calls Tryd.prog 28 #[.agg (sA a L.length ac p o ol oc m 0), .slice ra ls.length rc] w fun x w' => ∃ s n err, NextIs ls (bn L p) (L.length - p) N s n err ∧ x = .returned (.tuple #[.agg (sA a L.length ac ((p + n : Nat) : Int) o ol oc m (e6 err)), .int .i64 (s : Int)]) ∧ Below w.heap.size w w' := by
  have HG : Hid (Good ls) := hg
  have HN : Hid (Longest ls N) := hN
  have HB : Hid (Bin L) := hb
  have HL : Hid (Ints lo hi w a L) := hl
  have HR0 : Hid (RAt B w ra ls) := hr
  have HT : ∀ u v : Array Value, Hid (Two w ((w.alloc (.cells u 46)).alloc (.cells v 46)) u v) := fun u v => Two.new w u v
  clear hg hN hb hl hr
  show Calls Tryd.prog 28 #[.agg #[.slice a L.length ac, .int .i64 (p : Int), .slice o ol oc, .int .i64 m, .int .i64 0], .slice ra ls.length rc] w _
  go_enter Tryd.func28, Tryd.ntmps28
  go_wp2
  replace HT : Hid (Two w _ (sA a L.length ac p o ol oc m 0) #[.slice none 0 0, .int .i64 0, .slice none 0 0, .int .i64 0, .int .i64 0]) := HT #[.slice a L.length ac, .int .i64 (p : Int), .slice o ol oc, .int .i64 m, .int .i64 0] #[.slice none 0 0, .int .i64 0, .slice none 0 0, .int .i64 0, .int .i64 0]
  generalize ((w.alloc (.cells #[.slice a L.length ac, .int .i64 (p : Int), .slice o ol oc, .int .i64 m, .int .i64 0] 46)).alloc (.cells #[.slice none 0 0, .int .i64 0, .slice none 0 0, .int .i64 0, .int .i64 0] 46)) = w0 at HT ⊢
  go_loopw [6, 7] (fun v6 v7 wr => ∃ (s : Nat) (so : Bool), s ≤ ls.length ∧ v7 = .int .i64 s ∧ v6 = .bool so ∧ Rn ls L p s so ∧ Two w wr (sA a L.length ac p o ol oc m 0) #[.slice none 0 0, .int .i64 0, .slice none 0 0, .int .i64 0, .int .i64 0]) (fun _ v7 _ => ls.length - (intOf v7).toNat)
  case atStart => exact ⟨0, false, by omega, rfl, rfl, Rn.zero _ _ _, HT.out⟩
  case round =>
    obtain ⟨s, so, hs, rfl, rfl, hrn, htw⟩ := hrel
    have HR : Hid (Rn ls L p s so) := hrn
    have TW := hide htw
    have hsz : w.heap.size + 1 < wr.heap.size := htw.size
    have hsz0 : w.heap.size < wr.heap.size := by omega
    have RW : Hid (RAt B wr ra ls) := HR0.out.below (htw.below.mono hBw)
    have LW : Hid (Ints lo hi wr a L) := HL.out.stay htw.below
    clear HR0 HL HT hrn htw
    by_cases hlt : s < ls.length
    · obtain ⟨b, off, hbB, rfl, hrow⟩ := RW.out.resolve_left (by omega)
      obtain ⟨g, hgB, hcs, hgr⟩ := hrow s hlt
      have hfit := ln_fit HG.out.fit s
      obtain ⟨n, hn⟩ := Int.eq_ofNat_of_zero_le hfit.1
      have hn15 : n ≤ 15 := by omega
      have AG : Hid (agB L p (rowL (cd ls s) (ln ls s).toNat) = agB L p (rowL (cd ls s) n)) := by rw [hn, Int.toNat_natCast]; exact rfl
      have AL : Hid (alB L p (rowL (cd ls s) (ln ls s).toNat) = alB L p (rowL (cd ls s) n)) := by rw [hn, Int.toNat_natCast]; exact rfl
      have HLN : Hid (ln ls s = (n : Int)) := hn
      rw [hn, Int.toNat_natCast] at hcs hgr
      have HGR := hide hgr
      have hbw : b < wr.heap.size := by omega
      clear hrow RW hgr hfit hn
      by_cases h0 : n = 0
      · subst h0
        have HR' : Hid (Rn ls L p (s + 1) so) := HR.out.skip HLN.out
        go_wp2
        go_roundw
        case rel => exact ⟨s + 1, so, by omega, by go_num, rfl, HR'.out, TW.out⟩
        case measure => simp [intOf]; omega
      · have H0 : Hid (¬ ln ls s = 0) := by have := HLN.out; show ¬ _; omega
        have HCD : Hid (cd ls s < 2 ^ n) := by
          have := (cd_lt HG.out.le HG.out.fit hlt (by have := HLN.out; omega)).2
          rw [HLN.out, Int.toNat_natCast] at this
          exact this
        have c0 := cells_of TW.out.s0 0
        have c1 := cells_of TW.out.s0 1
        simp [sA] at c0 c1
        have hn0 : ¬ (n : Int) = 0 := by omega
        go_upto_region 8 with fail
        go_cut [8, 9] (fun v8 v9 wx => v8 = .bool (agB L p (rowL (cd ls s) n)) ∧ v9 = .bool (alB L p (rowL (cd ls s) n)) ∧ ∃ k, wx = wr.drewN k)
        case first =>
          have i1 : (0 : Int) ≤ (s : Int) := by omega
          have i2 : (s : Int) < (ls.length : Int) := by omega
          generalize hag : agB L p (rowL (cd ls s) n) = ag
          generalize hal : alB L p (rowL (cd ls s) n) = al_
          have HAG : Hid (agB L p (rowL (cd ls s) n) = ag) := hag
          have HAL : Hid (alB L p (rowL (cd ls s) n) = al_) := hal
          clear hag hal
          go_quiet ((go_at_call 44; exact Calls.quiet_of (match_row lo hi a ac L p (cd ls s) n g _ hL hn15 hp LW.out HGR.out)))
          all_goals (go_wp2_with fail)
          all_goals go_meet
          all_goals exact ⟨by rw [HAG.out], by rw [HAL.out], _, rfl⟩
        case rest =>
          obtain ⟨rfl, rfl, kx, rfl⟩ := hcut
          have TX := hide (TW.out.drewN kx)
          have hcs2 : (wr.drewN kx).cell? ⟨b, off + s, none⟩ = some (.slice (some ⟨g, 0, none⟩) n n) := hcs
          have HALI := alB_iff HB.out p (cd ls s) n hp HCD.out
          generalize hag : agB L p (rowL (cd ls s) n) = ag at AG
          generalize hal : alB L p (rowL (cd ls s) n) = al_ at AL HALI
          have hbx : b < (wr.drewN kx).heap.size := hbw
          clear hag hal hcs c0 c1 TW LW hsz hsz0 hbw HGR
          generalize wr.drewN kx = wx at TX hcs2 hbx ⊢
          have hsz : w.heap.size + 1 < wx.heap.size := TX.out.size
          have hsz0 : w.heap.size < wx.heap.size := by omega
          cases al_ with
          | true =>
            obtain ⟨q1, q2⟩ := HALI.1 rfl
            have HNX : Hid (NextIs ls (bn L p) (L.length - p) N s n 0) := .inl ⟨rfl, q1, hlt, by omega, HLN.out, q2.symm⟩
            clear HALI q2
            have c1 := cells_of TX.out.s0 1
            simp [sA] at c1
            have f1 := free_of TX.out.s0 1
            go_upto_region 10 with fail
            go_cut [] (fun wy => Two w wy (sA a L.length ac ((p + n : Nat) : Int) o ol oc m 0) #[.slice none 0 0, .int .i64 0, .slice none 0 0, .int .i64 0, .int .i64 0])
            case first =>
              have i1 : (0 : Int) ≤ (s : Int) := by omega
              have i2 : (s : Int) < (ls.length : Int) := by omega
              have hwr : Hid (IntKind.i64.wrap ((p : Int) + n) = ((p + n : Nat) : Int)) := by show _ = _; simp only [IntKind.wrap_i64]; omega
              go_region_with (fail)
              all_goals (go_wp2_with fail)
              all_goals go_meet
              all_goals (rw [hwr.out]; exact (TX.out.at_ _).drew)
            case rest =>
              have TY := hide hcut
              clear hcut TX c1 f1 hcs2
              go_wp2_with (first
                | (refine st_load rfl (.tmp 2) rfl w.heap.size (by rfl) a o L.length ac ol oc _ m 0 (0, 0) TY.out.s0 ?_)
                | (refine st_store rfl (.tmp 4) (.tmp 48) rfl (w.heap.size + 1) (by rfl) a o L.length ac ol oc _ m 0 (by rfl) _ (by rfl) TY.out.s1 ?_; intro w2 hg2 hk2; have T2 := hide (TY.out.res hg2 hk2); clear hg2 hk2))
              refine bodyPost_ret (v := .tuple #[.agg (sA a L.length ac ((p + n : Nat) : Int) o ol oc m 0), .int .i64 (s : Int)]) ?_ rfl ⟨s, n, 0, HNX.out, rfl, T2.out.below⟩
              have hld := st_run T2.out.s1
              simp [results, asAddr, hld]
          | false =>
            have HR' : Hid (Rn ls L p (s + 1) (so || ag)) := HR.out.step H0.out AG.out AL.out
            clear HALI
            cases ag with
            | true =>
              have HR2 : Hid (Rn ls L p (s + 1) true) := by have := HR'.out; simp at this; exact this
              go_wp2
              go_roundw
              case rel => exact ⟨s + 1, true, by omega, by go_num, rfl, HR2.out, TX.out⟩
              case measure => simp [intOf]; omega
            | false =>
              have HR2 : Hid (Rn ls L p (s + 1) so) := by have := HR'.out; simp at this; exact this
              go_wp2
              go_roundw
              case rel => exact ⟨s + 1, so, by omega, by go_num, rfl, HR2.out, TX.out⟩
              case measure => simp [intOf]; omega
    · obtain rfl : s = ls.length := by omega
      have HNX : Hid (NextIs ls (bn L p) (L.length - p) N 0 0 (if so then 42 else 43)) := HR.out.end_ HG.out HN.out HB.out hp
      have HF := fun f w' => hide (rfails_c a o L.length ac ol oc p m 0 f w')
      cases so with
      | true =>
        go_wp2_with (first
          | (refine st_load rfl (.tmp 2) rfl w.heap.size (by rfl) a o L.length ac ol oc p m 0 (0, 0) TW.out.s0 ?_)
          | (go_at_call 22; refine (HF 60 _).out.mono ?_; rintro x w1 ⟨rfl, hb⟩; have T1 := hide (TW.out.stay hb))
          | (refine st_store rfl (.tmp 4) (.tmp 53) rfl (w.heap.size + 1) (by rfl) a o L.length ac ol oc p m 60 (by rfl) _ (by rfl) T1.out.s1 ?_; intro w2 hg2 hk2; have T2 := hide (T1.out.res hg2 hk2); clear hg2 hk2))
        refine bodyPost_ret (v := .tuple #[.agg (sA a L.length ac p o ol oc m 60), .int .i64 0]) ?_ rfl ⟨0, 0, 42, HNX.out, rfl, T2.out.below⟩
        have hld := st_run T2.out.s1
        simp [results, asAddr, hld]
      | false =>
        go_wp2_with (first
          | (refine st_load rfl (.tmp 2) rfl w.heap.size (by rfl) a o L.length ac ol oc p m 0 (0, 0) TW.out.s0 ?_)
          | (go_at_call 22; refine (HF 63 _).out.mono ?_; rintro x w1 ⟨rfl, hb⟩; have T1 := hide (TW.out.stay hb))
          | (refine st_store rfl (.tmp 4) (.tmp 55) rfl (w.heap.size + 1) (by rfl) a o L.length ac ol oc p m 63 (by rfl) _ (by rfl) T1.out.s1 ?_; intro w2 hg2 hk2; have T2 := hide (T1.out.res hg2 hk2); clear hg2 hk2))
        refine bodyPost_ret (v := .tuple #[.agg (sA a L.length ac p o ol oc m 63), .int .i64 0]) ?_ rfl ⟨0, 0, 43, HNX.out, rfl, T2.out.below⟩
        have hld := st_run T2.out.s1
        simp [results, asAddr, hld]
end Go.Proofs.YtibolmgijaploaaDoor
