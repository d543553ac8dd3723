/- Several texts, laid together: RState, HRefNext, RNext, RFix. -/
import Derived.Test.YtlakgbckopjelaaGreatDoorG08ILens
import Derived.Test.YtlakgbckopjelaaGreatDoorG04HNext
import Derived.Handy
import Derived.Test.YtlakgbckopjelaaGreatDoorG09PState
import Derived.Test.YtlakgbckopjelaaGreatDoorG05WriteMore
import Derived.Test.YtlakgbckopjelaaGreatDoorG17PMake
/- The reference's state as it lies in memory: loaded and stored whole; fails and bits: contracts. -/
namespace Go.Proofs.YtlakgbckopjelaaGreatDoor
set_option maxRecDepth 100000
open Go Go.RowKit

/-- A state's cells. -/
def sA (a : Option Addr) (al ac : Nat) (p : Int) (o : Option Addr) (ol oc : Nat) (m e : Int) : Array Value := #[.slice a al ac, .int .i64 p, .slice o ol oc, .int .i64 m, .int .i64 e]
theorem infoS : (Tryz.prog.info? 68).map (·.size) = some 5 := by rfl

theorem st_store {ops : Array Oper} {rest : List Oper} {op : Oper} {act : Act} {w : World} {Q : Exit → Act → World → Prop} (hgd : op.guard = none) (x y : Operand) (ho : op.op = .store 68 x y)
    (g : Nat) (hx : act.eval x = .pointer (some ⟨g, 0, none⟩)) (a o : Option Addr) (al ac ol oc : Nat) (p m e : Int) (hy : act.eval y = .agg (sA a al ac p o ol oc m e)) (old : Array Value) (hs : old.size = 5) (hg : w.heap[g]? = some (.cells old 68 (0, 0)))
    (h : ∀ w2 : World, w2.heap[g]? = some (.cells (sA a al ac p o ol oc m e) 68 (0, 0)) → Kept (fun i => i = g) w w2 → wpList Tryz.prog ops Q rest (act.put op.dst undef) w2) : wpList Tryz.prog ops Q (op :: rest) act w :=
  wpList_store_row hgd 68 x y ho g (sA a al ac p o ol oc m e) hx hy old 68 hg infoS (by rw [hs]; rfl) (by simp [sA, Value.oneCell']) _ rfl (h _ (setRow_heap w g _ _ _ _ hg) (kept_setRow _ _ _))
theorem st_load {ops : Array Oper} {rest : List Oper} {op : Oper} {act : Act} {w : World} {Q : Exit → Act → World → Prop} (hgd : op.guard = none) (x : Operand) (ho : op.op = .load 68 x)
    (g : Nat) (hx : act.eval x = .pointer (some ⟨g, 0, none⟩)) (a o : Option Addr) (al ac ol oc : Nat) (p m e : Int) (fr : Nat × Nat) (hg : w.heap[g]? = some (.cells (sA a al ac p o ol oc m e) 68 fr))
    (h : wpList Tryz.prog ops Q rest (act.put op.dst (.agg (sA a al ac p o ol oc m e))) w) : wpList Tryz.prog ops Q (op :: rest) act w :=
  wpList_load_row hgd 68 x ho g hx _ 68 fr hg _ Tryz.underlying68 rfl infoS h
theorem st_run {w : World} {g : Nat} {a o : Option Addr} {al ac ol oc : Nat} {p m e : Int} (hg : w.heap[g]? = some (.cells (sA a al ac p o ol oc m e) 68 (0, 0))) : (loadVar 68 ⟨g, 0, none⟩).run Tryz.prog w = .ok (.agg (sA a al ac p o ol oc m e)) w :=
  run_loadVar_row w g 68 68 _ (0, 0) _ hg Tryz.underlying68 rfl infoS

set_option maxHeartbeats 1000000 in
theorem rfails_c (a o : Option Addr) (al ac ol oc : Nat) (p m e f : Int) (w : World) :
    Calls Tryz.prog 54 #[.agg (sA a al ac p o ol oc m e), .int .i64 f] w fun x w' => x = .returned (.agg (sA a al ac p o ol oc m (if e = 0 then f else e))) ∧ Below w.heap.size w w' := by
  have HB : ∀ u v : Array Value, Hid (Below w.heap.size w ((w.alloc (.cells u 68)).alloc (.cells v 68))) := fun u v => ((Below.refl _ w).alloc (Nat.le_refl _) _).alloc (by simp) _
  unfold sA
  by_cases he : e = 0
  · subst he
    go_enter Tryz.func54, Tryz.ntmps54
    go_wp2
    go_returns
    exact ⟨rfl, (HB _ _).out⟩
  · go_enter Tryz.func54, Tryz.ntmps54
    go_wp2
    go_returns
    exact ⟨rfl, (HB _ _).out⟩

/-- The bits of L. -/
def lb (L : List Int) (i : Nat) : Nat := (ln L i).toNat
theorem lb_le {L : List Int} (hb : Bin L) (i : Nat) : lb L i ≤ 1 := by have := hb i; unfold lb ln; omega
theorem lb_int {L : List Int} (hb : Bin L) (i : Nat) : (lb L i : Int) = ln L i := by have := hb i; unfold lb ln; omega

set_option maxHeartbeats 2000000 in
theorem rbits_yes (lo hi : Nat) (a o : Option Addr) (ac ol oc : Nat) (L : List Int) (p n : Nat) (m : Int) (w : World) (hL : L.length ≤ 1000000) (hb : Bin L) (hi_ : Ints lo hi w a L) (hn : n ≤ 16) (hp : p + n ≤ L.length) :
    Calls Tryz.prog 41 #[.agg (sA a L.length ac p o ol oc m 0), .int .i64 (n : Int)] w fun x w' => x = .returned (.tuple #[.agg (sA a L.length ac ((p + n : Nat) : Int) o ol oc m 0), .int .i64 (iNum (lb L) p n : Int)]) ∧ Below w.heap.size w w' := by
  have HB : ∀ u v : Array Value, Hid (Below w.heap.size w ((w.alloc (.cells u 68)).alloc (.cells v 68))) := fun u v => ((Below.refl _ w).alloc (Nat.le_refl _) _).alloc (by simp) _
  have HI : Hid (Ints lo hi w a L) := hi_
  have HBin : Hid (Bin L) := hb
  have HE : ∀ k, Hid (iNum (lb L) p (k + 1) = iNum (lb L) p k + lb L (p + k) * 2 ^ k) := fun k => rfl
  have HLt : ∀ k, Hid (iNum (lb L) p k < 2 ^ k) := fun k => iNum_lt (lb_le hb) p k
  have hp' : ¬ ((L.length : Int) - p < n) := by omega
  have hp0 : (p : Int) ≤ 1000000 := by omega
  clear hb hi_
  unfold sA
  go_enter Tryz.func41, Tryz.ntmps41
  go_wp2
  go_loop [6, 7, 8] (fun v q i => ∃ k : Nat, k ≤ n ∧ i = .int .i64 k ∧ q = .int .i64 ((2 ^ k : Nat) : Int) ∧ v = .int .i64 (iNum (lb L) p k : Int)) (fun _ _ i => n - (intOf i).toNat)
  case atStart => exact ⟨0, by omega, rfl, rfl, rfl⟩
  case round =>
    obtain ⟨k, hk, rfl, rfl, rfl⟩ := hrel
    by_cases hlt : k < n
    · obtain ⟨b, off, _, _, hbw, rfl, hcell⟩ := HI.out.resolve_left (by omega)
      have hc := hcell (p + k) (by omega)
      have hx := HBin.out (p + k)
      have h2 : 2 ^ k ≤ 2 ^ 16 := Nat.pow_le_pow_right (by decide) (by omega)
      have h3 := (HLt k).out
      have hle := lb_int HBin.out (p + k)
      rw [← hle] at hc
      have hl1 := lb_le HBin.out (p + k)
      have h4 := (HE k).out
      have h5 : Hid (2 ^ (k + 1) = 2 ^ k * 2) := Nat.pow_succ 2 k
      have HK : Hid (iNum (lb L) p (k + 1) = iNum (lb L) p k + 2 ^ k * lb L (p + k)) := by rw [Nat.mul_comm]; exact h4
      clear hcell hx hle HBin h4
      generalize 2 ^ k = Q at h2 h3 h5 HK ⊢
      generalize iNum (lb L) p k = V at h3 HK ⊢
      generalize lb L (p + k) = X at hc hl1 HK
      rcases (show X = 0 ∨ X = 1 by omega) with rfl | rfl
      · go_wp2
        go_round
        case rel => exact ⟨k + 1, by omega, by go_num, by rw [h5.out]; go_num, by rw [HK.out]; go_num⟩
        case measure => simp [intOf]; omega
      · go_wp2
        go_round
        case rel => exact ⟨k + 1, by omega, by go_num, by rw [h5.out]; go_num, by rw [HK.out]; go_num⟩
        case measure => simp [intOf]; omega
    · obtain rfl : k = n := by omega
      go_wp2
      go_returns
      exact ⟨rfl, (HB _ _).out⟩

set_option maxHeartbeats 2000000 in
theorem rbits_no (a o : Option Addr) (al ac ol oc : Nat) (p n : Nat) (m e : Int) (w : World) (hn : n ≤ 16) (hp : p ≤ al) (he : e ≠ 0 ∨ al < p + n) :
    Calls Tryz.prog 41 #[.agg (sA a al ac p o ol oc m e), .int .i64 (n : Int)] w fun x w' => x = .returned (.tuple #[.agg (sA a al ac p o ol oc m (if e = 0 then 60 else e)), .int .i64 0]) ∧ Below w.heap.size w w' := by
  have HB : ∀ u v : Array Value, Hid (Below w.heap.size w ((w.alloc (.cells u 68)).alloc (.cells v 68))) := fun u v => ((Below.refl _ w).alloc (Nat.le_refl _) _).alloc (by simp) _
  have H1 : ∀ u v : Array Value, Hid (((w.alloc (.cells u 68)).alloc (.cells v 68)).heap[w.heap.size + 1]? = some (.cells v 68 (0, 0))) := fun u v => heap_new2 w _ _
  have HF := fun w' => hide (rfails_c a o al ac ol oc p m e 60 w')
  unfold sA at HF
  show Calls Tryz.prog 41 #[.agg #[.slice a al ac, .int .i64 (p : Int), .slice o ol oc, .int .i64 m, .int .i64 e], .int .i64 (n : Int)] w _
  by_cases h0 : e = 0
  case' pos =>
    subst h0
    have hp' : (al : Int) - p < n := by omega
  all_goals
    go_enter Tryz.func41, Tryz.ntmps41
    go_wp2_with (first
      | (go_at_call 54; refine (HF _).out.mono ?_; rintro x w1 ⟨rfl, hb⟩; have hbs := hb.block (w.heap.size + 1) (by simp))
      | (refine st_store rfl (.tmp 4) (.tmp 23) rfl (w.heap.size + 1) (by rfl) a o al ac ol oc p m _ (by rfl) _ (by rfl) (hbs.trans (H1 _ _).out) ?_; intro w2 hg2 hk2; have HG2 := hide hg2; have HK2 := hide hk2; clear hg2 hk2))
    refine bodyPost_ret (v := .tuple #[.agg (sA a al ac p o ol oc m _), .int .i64 0]) ?_ rfl ⟨rfl, ?_⟩
    · have hld := st_run HG2.out
      simp [results, asAddr, hld]
    · exact (((HB _ _).out.trans (hb.mono (by simp; omega))).trans (HK2.out.below (by have := hb.size; simp at this; omega) (fun i hi e => by omega)))
end Go.Proofs.YtlakgbckopjelaaGreatDoor

/- The reference's Next: contract. -/
namespace Go.Proofs.YtlakgbckopjelaaGreatDoor
set_option maxRecDepth 100000
open Go Go.RowKit

theorem match_row (lo hi : Nat) (a : Option Addr) (cap : Nat) (L : List Int) (p c n : Nat) (g : Nat) (w : World) (hL : L.length ≤ 1000000) (hn : n ≤ 15) (hp : p ≤ L.length) (h : Ints lo hi w a L) (h' : w.heap[g]? = some (.cells (valA (rowL c n)) 3 (0, 0))) :
    Calls Tryz.prog 101 #[.slice a L.length cap, .int .i64 (p : Int), .slice (some ⟨g, 0, none⟩) n n] w fun e w' => e = .returned (.tuple #[.bool (agB L p (rowL c n)), .bool (alB L p (rowL c n))]) ∧ ∃ k, w' = w.drewN k := by
  have := match_c lo hi g (g + 1) a (some ⟨g, 0, none⟩) cap n L (rowL c n) p w hL (by rw [rowL_length]; omega) hp h (ints_of h')
  rw [rowL_length] at this
  exact this

theorem below_drewN {B : Nat} {w w' : World} (h : Below B w w') (n : Nat) : Below B w (w'.drewN n) := ⟨h.os, h.tape, h.output, h.size, h.block⟩

/-- What is known ahead of symbol s. -/
structure Rn (ls L : List Int) (p s : Nat) (so : Bool) : Prop where
  some_ : so = true ↔ ∃ t, t < s ∧ ln ls t ≠ 0 ∧ agB L p (rowL (cd ls t) (ln ls t).toNat) = true
  none_ : ∀ t, t < s → ln ls t ≠ 0 → alB L p (rowL (cd ls t) (ln ls t).toNat) = false
theorem Rn.zero (ls L : List Int) (p : Nat) : Rn ls L p 0 false := ⟨by simp, fun t h => absurd h (by omega)⟩
theorem Rn.skip {ls L : List Int} {p s : Nat} {so : Bool} (h : Rn ls L p s so) (h0 : ln ls s = 0) : Rn ls L p (s + 1) so := by
  refine ⟨h.some_.trans ⟨fun ⟨t, h1, h2⟩ => ⟨t, by omega, h2⟩, fun ⟨t, h1, h2, h3⟩ => ⟨t, ?_, h2, h3⟩⟩, fun t h1 h2 => h.none_ t ?_ h2⟩
  · by_cases e : t = s
    · subst e; exact absurd h0 h2
    · omega
  · by_cases e : t = s
    · subst e; exact absurd h0 h2
    · omega
theorem Rn.step {ls L : List Int} {p s : Nat} {so ag : Bool} (h : Rn ls L p s so) (h0 : ln ls s ≠ 0) (ha : agB L p (rowL (cd ls s) (ln ls s).toNat) = ag) (hl : alB L p (rowL (cd ls s) (ln ls s).toNat) = false) : Rn ls L p (s + 1) (so || ag) := by
  refine ⟨?_, fun t h1 h2 => ?_⟩
  · rw [Bool.or_eq_true, h.some_]
    constructor
    · rintro (⟨t, h1, h2⟩ | h1)
      · exact ⟨t, by omega, h2⟩
      · exact ⟨s, by omega, h0, by rw [ha]; exact h1⟩
    · rintro ⟨t, h1, h2, h3⟩
      by_cases e : t = s
      · subst e; right; rw [← ha]; exact h3
      · left; exact ⟨t, by omega, h2, h3⟩
  · by_cases e : t = s
    · subst e; exact hl
    · exact h.none_ t (by omega) h2
theorem Rn.end_ {ls L : List Int} {p : Nat} {so : Bool} (h : Rn ls L p ls.length so) (hg : Good ls) {N : Nat} (hN : Longest ls N) (hb : Bin L) (hp : p ≤ L.length) : NextIs ls (bn L p) (L.length - p) N 0 0 (if so then 42 else 43) := by
  have hno : ∀ m, m ≤ L.length - p → ¬ Hit ls (bn L p) m := by
    intro m hm hh
    obtain ⟨t, ht, hl, hc⟩ := hit_sym hh
    have h1 := hit_pos hh
    have hn := h.none_ t ht (by omega)
    have hlt := (cd_lt hg.le hg.fit ht (by omega)).2
    rw [hl, Int.toNat_natCast] at hn hlt
    have := (alB_iff hb p (cd ls t) m hp hlt).2 ⟨hm, hc.symm⟩
    rw [this] at hn
    simp at hn
  have hs := h.some_.trans (some_iff hg hN hb p hp hno)
  refine .inr ⟨rfl, rfl, hno, ?_⟩
  cases so with
  | true => exact .inl ⟨hs.1 rfl, rfl⟩
  | false =>
    refine .inr ⟨?_, rfl⟩
    rcases Nat.lt_or_ge (L.length - p) N with h' | h'
    · have := hs.2 h'; simp at this
    · exact h'

end Go.Proofs.YtlakgbckopjelaaGreatDoor

/- The reference's next: contract. -/
namespace Go.Proofs.YtlakgbckopjelaaGreatDoor
set_option maxRecDepth 100000
open Go Go.RowKit

/-- The codes of ls as rows of bits, in memory. -/
def RAt (B : Nat) (w : World) (ra : Option Addr) (ls : List Int) : Prop :=
  ls.length = 0 ∨ ∃ b off, b < B ∧ ra = some ⟨b, off, none⟩ ∧ ∀ s, s < ls.length → ∃ g, g < B ∧ w.cell? ⟨b, off + s, none⟩ = some (.slice (some ⟨g, 0, none⟩) (ln ls s).toNat (ln ls s).toNat) ∧ w.heap[g]? = some (.cells (valA (rowL (cd ls s) (ln ls s).toNat)) 3 (0, 0))
theorem RAt.below {B : Nat} {w w' : World} {ra : Option Addr} {ls : List Int} (h : RAt B w ra ls) (k : Below B w w') : RAt B w' ra ls := by
  rcases h with h | ⟨b, off, h1, h2, h3⟩
  · exact .inl h
  · refine .inr ⟨b, off, h1, h2, fun s hs => ?_⟩
    obtain ⟨g, g1, g2, g3⟩ := h3 s hs
    exact ⟨g, g1, (k.cell (p := ⟨b, off + s, none⟩) h1).trans g2, (k.block g g1).trans g3⟩

/-- Huff's errors as inflate tells them. -/
def e6 (err : Int) : Int := if err = 0 then 0 else if err = 42 then 60 else 63

/-- A call's own state at the first block that it makes, its result at the second. -/
structure Two (w wr : World) (u v : Array Value) : Prop where
  below : Below w.heap.size w wr
  s0 : wr.heap[w.heap.size]? = some (.cells u 68 (0, 0))
  s1 : wr.heap[w.heap.size + 1]? = some (.cells v 68 (0, 0))
theorem Two.new (w : World) (u v : Array Value) : Two w ((w.alloc (.cells u 68)).alloc (.cells v 68)) u v := ⟨((Below.refl _ w).alloc (Nat.le_refl _) _).alloc (by simp) _, heap_new1 w _ _, heap_new2 w _ _⟩
theorem Two.drewN {w wr : World} {u v : Array Value} (h : Two w wr u v) (k : Nat) : Two w (wr.drewN k) u v := ⟨below_drewN h.below k, h.s0, h.s1⟩
theorem Two.drew {w wr : World} {u v : Array Value} (h : Two w wr u v) : Two w wr.drew u v := ⟨h.below.drew, h.s0, h.s1⟩
theorem Two.size {w wr : World} {u v : Array Value} (h : Two w wr u v) : w.heap.size + 1 < wr.heap.size := lt_of_block h.s1
theorem Two.stay {w wr w2 : World} {u v : Array Value} (h : Two w wr u v) (k : Below wr.heap.size wr w2) : Two w w2 u v := by
  have := h.size
  exact ⟨h.below.trans (k.mono (by omega)), (k.block _ (by omega)).trans h.s0, (k.block _ (by omega)).trans h.s1⟩
/-- The result is stored. -/
theorem Two.res {w wr w2 : World} {u v v2 : Array Value} (h : Two w wr u v) (h2 : w2.heap[w.heap.size + 1]? = some (.cells v2 68 (0, 0))) (k : Kept (fun i => i = w.heap.size + 1) wr w2) : Two w w2 u v2 := by
  have := h.size
  exact ⟨h.below.trans (k.below (by omega) (fun i hi e => by omega)), (k.block _ (by omega) (by omega)).trans h.s0, h2⟩
/-- The state is stored. -/
theorem Two.own {w wr w2 : World} {u v u2 : Array Value} (h : Two w wr u v) (h2 : w2.heap[w.heap.size]? = some (.cells u2 68 (0, 0))) (k : Kept (fun i => i = w.heap.size) wr w2) : Two w w2 u2 v := by
  have := h.size
  exact ⟨h.below.trans (k.below (by omega) (fun i hi e => by omega)), h2, (k.block _ (by omega) (by omega)).trans h.s1⟩

theorem Two.at_ {w wr : World} {v : Array Value} {a o : Option Addr} {al ac ol oc : Nat} {p m e : Int} (h : Two w wr (sA a al ac p o ol oc m e) v) (q : Int) : Two w (wr.setCell ⟨w.heap.size, 1, none⟩ (.int .i64 q)) (sA a al ac q o ol oc m e) v := by
  have hs := set_of h.s0 1 (.int .i64 q)
  have hsz := h.size
  refine h.own ?_ ((Kept.refl (fun i => i = w.heap.size) wr).setCell (fun _ => rfl) _)
  rw [hs]
  simp [sA]

set_option maxHeartbeats 4000000 in
set_option maxRecDepth 100000 in
theorem rnext_is (lo hi B : Nat) (a o ra : Option Addr) (ac ol oc rc : Nat) (ls L : List Int) (p N : Nat) (m : Int) (w : World) (h3 : ls.length ≤ 320) (hg : Good ls) (hN : Longest ls N) (hL : L.length ≤ 1000000) (hb : Bin L) (hp : p ≤ L.length) (hl : Ints lo hi w a L) (hr : RAt B w ra ls) (hBw : B ≤ w.heap.size) :
    Calls Tryz.prog 86 #[.agg (sA a L.length ac p o ol oc m 0), .slice ra ls.length rc] w fun x w' => ∃ s n err, NextIs ls (bn L p) (L.length - p) N s n err ∧ x = .returned (.tuple #[.agg (sA a L.length ac ((p + n : Nat) : Int) o ol oc m (e6 err)), .int .i64 (s : Int)]) ∧ Below w.heap.size w w' := by
  have HG : Hid (Good ls) := hg
  have HN : Hid (Longest ls N) := hN
  have HB : Hid (Bin L) := hb
  have HL : Hid (Ints lo hi w a L) := hl
  have HR0 : Hid (RAt B w ra ls) := hr
  have HT : ∀ u v : Array Value, Hid (Two w ((w.alloc (.cells u 68)).alloc (.cells v 68)) u v) := fun u v => Two.new w u v
  clear hg hN hb hl hr
  show Calls Tryz.prog 86 #[.agg #[.slice a L.length ac, .int .i64 (p : Int), .slice o ol oc, .int .i64 m, .int .i64 0], .slice ra ls.length rc] w _
  go_enter Tryz.func86, Tryz.ntmps86
  go_wp2
  replace HT : Hid (Two w _ (sA a L.length ac p o ol oc m 0) #[.slice none 0 0, .int .i64 0, .slice none 0 0, .int .i64 0, .int .i64 0]) := HT #[.slice a L.length ac, .int .i64 (p : Int), .slice o ol oc, .int .i64 m, .int .i64 0] #[.slice none 0 0, .int .i64 0, .slice none 0 0, .int .i64 0, .int .i64 0]
  generalize ((w.alloc (.cells #[.slice a L.length ac, .int .i64 (p : Int), .slice o ol oc, .int .i64 m, .int .i64 0] 68)).alloc (.cells #[.slice none 0 0, .int .i64 0, .slice none 0 0, .int .i64 0, .int .i64 0] 68)) = w0 at HT ⊢
  go_loopw [6, 7] (fun v6 v7 wr => ∃ (s : Nat) (so : Bool), s ≤ ls.length ∧ v7 = .int .i64 s ∧ v6 = .bool so ∧ Rn ls L p s so ∧ Two w wr (sA a L.length ac p o ol oc m 0) #[.slice none 0 0, .int .i64 0, .slice none 0 0, .int .i64 0, .int .i64 0]) (fun _ v7 _ => ls.length - (intOf v7).toNat)
  case atStart => exact ⟨0, false, by omega, rfl, rfl, Rn.zero _ _ _, HT.out⟩
  case round =>
    obtain ⟨s, so, hs, rfl, rfl, hrn, htw⟩ := hrel
    have HR : Hid (Rn ls L p s so) := hrn
    have TW := hide htw
    have hsz : w.heap.size + 1 < wr.heap.size := htw.size
    have hsz0 : w.heap.size < wr.heap.size := by omega
    have RW : Hid (RAt B wr ra ls) := HR0.out.below (htw.below.mono hBw)
    have LW : Hid (Ints lo hi wr a L) := HL.out.stay htw.below
    clear HR0 HL HT hrn htw
    by_cases hlt : s < ls.length
    · obtain ⟨b, off, hbB, rfl, hrow⟩ := RW.out.resolve_left (by omega)
      obtain ⟨g, hgB, hcs, hgr⟩ := hrow s hlt
      have hfit := ln_fit HG.out.fit s
      obtain ⟨n, hn⟩ := Int.eq_ofNat_of_zero_le hfit.1
      have hn15 : n ≤ 15 := by omega
      have AG : Hid (agB L p (rowL (cd ls s) (ln ls s).toNat) = agB L p (rowL (cd ls s) n)) := by rw [hn, Int.toNat_natCast]; exact rfl
      have AL : Hid (alB L p (rowL (cd ls s) (ln ls s).toNat) = alB L p (rowL (cd ls s) n)) := by rw [hn, Int.toNat_natCast]; exact rfl
      have HLN : Hid (ln ls s = (n : Int)) := hn
      rw [hn, Int.toNat_natCast] at hcs hgr
      have HGR := hide hgr
      have hbw : b < wr.heap.size := by omega
      clear hrow RW hgr hfit hn
      by_cases h0 : n = 0
      · subst h0
        have HR' : Hid (Rn ls L p (s + 1) so) := HR.out.skip HLN.out
        go_wp2
        go_roundw
        case rel => exact ⟨s + 1, so, by omega, by go_num, rfl, HR'.out, TW.out⟩
        case measure => simp [intOf]; omega
      · have H0 : Hid (¬ ln ls s = 0) := by have := HLN.out; show ¬ _; omega
        have HCD : Hid (cd ls s < 2 ^ n) := by
          have := (cd_lt HG.out.le HG.out.fit hlt (by have := HLN.out; omega)).2
          rw [HLN.out, Int.toNat_natCast] at this
          exact this
        have c0 := cells_of TW.out.s0 0
        have c1 := cells_of TW.out.s0 1
        simp [sA] at c0 c1
        have hn0 : ¬ (n : Int) = 0 := by omega
        go_upto_region 8 with fail
        go_cut [8, 9] (fun v8 v9 wx => v8 = .bool (agB L p (rowL (cd ls s) n)) ∧ v9 = .bool (alB L p (rowL (cd ls s) n)) ∧ ∃ k, wx = wr.drewN k)
        case first =>
          have i1 : (0 : Int) ≤ (s : Int) := by omega
          have i2 : (s : Int) < (ls.length : Int) := by omega
          generalize hag : agB L p (rowL (cd ls s) n) = ag
          generalize hal : alB L p (rowL (cd ls s) n) = al_
          have HAG : Hid (agB L p (rowL (cd ls s) n) = ag) := hag
          have HAL : Hid (alB L p (rowL (cd ls s) n) = al_) := hal
          clear hag hal
          go_quiet ((go_at_call 101; exact Calls.quiet_of (match_row lo hi a ac L p (cd ls s) n g _ hL hn15 hp LW.out HGR.out)))
          all_goals (go_wp2_with fail)
          all_goals go_meet
          all_goals exact ⟨by rw [HAG.out], by rw [HAL.out], _, rfl⟩
        case rest =>
          obtain ⟨rfl, rfl, kx, rfl⟩ := hcut
          have TX := hide (TW.out.drewN kx)
          have hcs2 : (wr.drewN kx).cell? ⟨b, off + s, none⟩ = some (.slice (some ⟨g, 0, none⟩) n n) := hcs
          have HALI := alB_iff HB.out p (cd ls s) n hp HCD.out
          generalize hag : agB L p (rowL (cd ls s) n) = ag at AG
          generalize hal : alB L p (rowL (cd ls s) n) = al_ at AL HALI
          have hbx : b < (wr.drewN kx).heap.size := hbw
          clear hag hal hcs c0 c1 TW LW hsz hsz0 hbw HGR
          generalize wr.drewN kx = wx at TX hcs2 hbx ⊢
          have hsz : w.heap.size + 1 < wx.heap.size := TX.out.size
          have hsz0 : w.heap.size < wx.heap.size := by omega
          cases al_ with
          | true =>
            obtain ⟨q1, q2⟩ := HALI.1 rfl
            have HNX : Hid (NextIs ls (bn L p) (L.length - p) N s n 0) := .inl ⟨rfl, q1, hlt, by omega, HLN.out, q2.symm⟩
            clear HALI q2
            have c1 := cells_of TX.out.s0 1
            simp [sA] at c1
            have f1 := free_of TX.out.s0 1
            go_upto_region 10 with fail
            go_cut [] (fun wy => Two w wy (sA a L.length ac ((p + n : Nat) : Int) o ol oc m 0) #[.slice none 0 0, .int .i64 0, .slice none 0 0, .int .i64 0, .int .i64 0])
            case first =>
              have i1 : (0 : Int) ≤ (s : Int) := by omega
              have i2 : (s : Int) < (ls.length : Int) := by omega
              have hwr : Hid (IntKind.i64.wrap ((p : Int) + n) = ((p + n : Nat) : Int)) := by show _ = _; simp only [IntKind.wrap_i64]; omega
              go_region_with (fail)
              all_goals (go_wp2_with fail)
              all_goals go_meet
              all_goals (rw [hwr.out]; exact (TX.out.at_ _).drew)
            case rest =>
              have TY := hide hcut
              clear hcut TX c1 f1 hcs2
              go_wp2_with (first
                | (refine st_load rfl (.tmp 2) rfl w.heap.size (by rfl) a o L.length ac ol oc _ m 0 (0, 0) TY.out.s0 ?_)
                | (refine st_store rfl (.tmp 4) (.tmp 48) rfl (w.heap.size + 1) (by rfl) a o L.length ac ol oc _ m 0 (by rfl) _ (by rfl) TY.out.s1 ?_; intro w2 hg2 hk2; have T2 := hide (TY.out.res hg2 hk2); clear hg2 hk2))
              refine bodyPost_ret (v := .tuple #[.agg (sA a L.length ac ((p + n : Nat) : Int) o ol oc m 0), .int .i64 (s : Int)]) ?_ rfl ⟨s, n, 0, HNX.out, rfl, T2.out.below⟩
              have hld := st_run T2.out.s1
              simp [results, asAddr, hld]
          | false =>
            have HR' : Hid (Rn ls L p (s + 1) (so || ag)) := HR.out.step H0.out AG.out AL.out
            clear HALI
            cases ag with
            | true =>
              have HR2 : Hid (Rn ls L p (s + 1) true) := by have := HR'.out; simp at this; exact this
              go_wp2
              go_roundw
              case rel => exact ⟨s + 1, true, by omega, by go_num, rfl, HR2.out, TX.out⟩
              case measure => simp [intOf]; omega
            | false =>
              have HR2 : Hid (Rn ls L p (s + 1) so) := by have := HR'.out; simp at this; exact this
              go_wp2
              go_roundw
              case rel => exact ⟨s + 1, so, by omega, by go_num, rfl, HR2.out, TX.out⟩
              case measure => simp [intOf]; omega
    · obtain rfl : s = ls.length := by omega
      have HNX : Hid (NextIs ls (bn L p) (L.length - p) N 0 0 (if so then 42 else 43)) := HR.out.end_ HG.out HN.out HB.out hp
      have HF := fun f w' => hide (rfails_c a o L.length ac ol oc p m 0 f w')
      cases so with
      | true =>
        go_wp2_with (first
          | (refine st_load rfl (.tmp 2) rfl w.heap.size (by rfl) a o L.length ac ol oc p m 0 (0, 0) TW.out.s0 ?_)
          | (go_at_call 54; refine (HF 60 _).out.mono ?_; rintro x w1 ⟨rfl, hb⟩; have T1 := hide (TW.out.stay hb))
          | (refine st_store rfl (.tmp 4) (.tmp 53) rfl (w.heap.size + 1) (by rfl) a o L.length ac ol oc p m 60 (by rfl) _ (by rfl) T1.out.s1 ?_; intro w2 hg2 hk2; have T2 := hide (T1.out.res hg2 hk2); clear hg2 hk2))
        refine bodyPost_ret (v := .tuple #[.agg (sA a L.length ac p o ol oc m 60), .int .i64 0]) ?_ rfl ⟨0, 0, 42, HNX.out, rfl, T2.out.below⟩
        have hld := st_run T2.out.s1
        simp [results, asAddr, hld]
      | false =>
        go_wp2_with (first
          | (refine st_load rfl (.tmp 2) rfl w.heap.size (by rfl) a o L.length ac ol oc p m 0 (0, 0) TW.out.s0 ?_)
          | (go_at_call 54; refine (HF 63 _).out.mono ?_; rintro x w1 ⟨rfl, hb⟩; have T1 := hide (TW.out.stay hb))
          | (refine st_store rfl (.tmp 4) (.tmp 55) rfl (w.heap.size + 1) (by rfl) a o L.length ac ol oc p m 63 (by rfl) _ (by rfl) T1.out.s1 ?_; intro w2 hg2 hk2; have T2 := hide (T1.out.res hg2 hk2); clear hg2 hk2))
        refine bodyPost_ret (v := .tuple #[.agg (sA a L.length ac p o ol oc m 63), .int .i64 0]) ?_ rfl ⟨0, 0, 43, HNX.out, rfl, T2.out.below⟩
        have hld := st_run T2.out.s1
        simp [results, asAddr, hld]
end Go.Proofs.YtlakgbckopjelaaGreatDoor

/- The reference's Fixed and five: contracts. -/
namespace Go.Proofs.YtlakgbckopjelaaGreatDoor
set_option maxRecDepth 100000
open Go Go.RowKit

theorem take_ln (L : List Int) {k : Nat} (h : k < L.length) : L.take (k + 1) = L.take k ++ [ln L k] := by
  rw [List.take_succ_eq_append_getElem h]
  simp [ln, List.getD, h]
theorem iFix_lnR {k : Nat} (h : k < 288) : ln iFix k = if 144 ≤ k ∧ k < 256 then 9 else if 256 ≤ k ∧ k < 280 then 7 else 8 := by
  unfold ln iFix List.getD
  simp only [List.getElem?_append, List.length_append, List.length_replicate, List.getElem?_replicate]
  rcases (show k < 144 ∨ (144 ≤ k ∧ k < 256) ∨ (256 ≤ k ∧ k < 280) ∨ (280 ≤ k ∧ k < 288) by omega) with h1 | h1 | h1 | h1
  all_goals
    repeat (first | rw [if_pos (by omega)] | rw [if_neg (by omega)])
    try rfl


set_option maxHeartbeats 1000000 in
set_option maxRecDepth 100000 in
theorem rfive_c (w : World) : Calls Tryz.prog 52 #[] w fun e w' => ∃ v, e = .returned v ∧ Owns w' w.heap.size v iFive ∧ Below w.heap.size w w' := by
  obtain ⟨i0, hi, hz0, hz1', hz2'⟩ := info_parts Tryz.info3
  have hlen : Hid (iFive.length = 32) := iFive_length
  have HV : ∀ k, k < 32 → Hid (iFive.take (k + 1) = iFive.take k ++ [5]) := fun k hk => by show _ = _; rw [take_ln _ (by rw [iFive_length]; exact hk), iFive_ln hk]
  have HL : ∀ k, k ≤ 32 → (iFive.take k).length ≤ 32 := fun k hk => by rw [List.length_take]; omega
  have HE : Hid (iFive.take 32 = iFive) := by show _ = _; rw [List.take_of_length_le]; rw [iFive_length]; omega
  generalize iFive = F at hlen HV HL HE ⊢
  go_enter Tryz.func52, Tryz.ntmps52
  go_wp2
  go_loopw [1, 2] (fun v i wr => ∃ k : Nat, k ≤ 32 ∧ i = .int .i64 k ∧ Owns wr w.heap.size v (F.take k) ∧ Below w.heap.size w wr) (fun _ i _ => 32 - (intOf i).toNat)
  case atStart => exact ⟨0, Nat.zero_le _, rfl, Owns.nil _ _, Below.refl _ _⟩
  case round =>
    obtain ⟨k, hk, rfl, hown, hbel⟩ := hrel
    have HR := hide hown
    have HB := hide hbel
    have hsz := hbel.size
    have hLl := HL k hk
    clear hown hbel
    by_cases hlt : k < 32
    · have HVk := HV k hlt
      clear HV HL
      generalize F.take k = L at HR hLl HVk
      go_wp2_with (at_builtin; refine wpList_append_own _ rfl _ _ 32 rfl w.heap.size 3 i0 (.int .i64 0) 1 8 Tryz.underlying32 hi hz0 hz1' hz2' rfl (by decide) _ _ _ rfl (World.ownsRow.alloc HR.out _) ⟨wr.heap.size, 0, none⟩ 1 1 [.int .i64 5] rfl rfl (one_int wr _) (by intro u hu; simp at hu; subst hu; rfl) (by unfold maxLen; omega) (by omega) (by simp; omega) ?_; intro v' w1 hown' hgrow hnil)
      go_roundw
      case rel =>
        refine ⟨k + 1, by omega, by go_num, ?_, ?_⟩
        · rw [HVk.out]; exact Owns.push hown'
        · exact (HB.out.alloc hsz _).grown hgrow (by simp; omega) (fun g e => (ownsRow_lt HR.out e).1)
      case measure => simp [intOf]; omega
    · obtain rfl : k = 32 := by omega
      rw [HE.out] at HR
      go_wp2
      go_ret
      exact ⟨_, rfl, HR.out, HB.out⟩

set_option maxHeartbeats 1000000 in
set_option maxRecDepth 100000 in
theorem rFixed_c (w : World) : Calls Tryz.prog 32 #[] w fun e w' => ∃ v, e = .returned v ∧ Owns w' w.heap.size v iFix ∧ Below w.heap.size w w' := by
  obtain ⟨i0, hi, hz0, hz1', hz2'⟩ := info_parts Tryz.info3
  have hlen : Hid (iFix.length = 288) := iFix_length
  have HV : ∀ k, k < 288 → Hid (iFix.take (k + 1) = iFix.take k ++ [if 144 ≤ k ∧ k < 256 then 9 else if 256 ≤ k ∧ k < 280 then 7 else 8]) := fun k hk => by show _ = _; rw [take_ln _ (by rw [iFix_length]; exact hk), iFix_lnR hk]
  have HL : ∀ k, k ≤ 288 → (iFix.take k).length ≤ 288 := fun k hk => by rw [List.length_take]; omega
  have HE : Hid (iFix.take 288 = iFix) := by show _ = _; rw [List.take_of_length_le]; rw [iFix_length]; omega
  generalize iFix = F at hlen HV HL HE ⊢
  go_enter Tryz.func32, Tryz.ntmps32
  go_wp2
  go_loopw [1, 2] (fun v i wr => ∃ k : Nat, k ≤ 288 ∧ i = .int .i64 k ∧ Owns wr w.heap.size v (F.take k) ∧ Below w.heap.size w wr) (fun _ i _ => 288 - (intOf i).toNat)
  case atStart => exact ⟨0, Nat.zero_le _, rfl, Owns.nil _ _, Below.refl _ _⟩
  case round =>
    obtain ⟨k, hk, rfl, hown, hbel⟩ := hrel
    have HR := hide hown
    have HB := hide hbel
    have hsz := hbel.size
    have hLl := HL k hk
    clear hown hbel
    by_cases hlt : k < 288
    · have HVk := HV k hlt
      clear HV HL
      generalize F.take k = L at HR hLl HVk
      by_cases h1 : 144 ≤ k ∧ k < 256
      case' pos =>
        rw [if_pos h1] at HVk
        obtain ⟨h1a, h1b⟩ := h1
        have h2 : (144 : Int) ≤ k := by omega
        have h3 : (k : Int) < 256 := by omega
        have h4 : ¬ (256 : Int) ≤ k := by omega
        go_wp2_with (at_builtin; refine wpList_append_own _ rfl _ _ 32 rfl w.heap.size 3 i0 (.int .i64 0) 1 8 Tryz.underlying32 hi hz0 hz1' hz2' rfl (by decide) _ _ _ rfl (World.ownsRow.alloc HR.out _) ⟨wr.heap.size, 0, none⟩ 1 1 [.int .i64 9] rfl rfl (one_int wr _) (by intro u hu; simp at hu; subst hu; rfl) (by unfold maxLen; omega) (by omega) (by simp; omega) ?_; intro v' w1 hown' hgrow hnil)
      case' neg =>
        rw [if_neg h1] at HVk
        by_cases h5 : 256 ≤ k ∧ k < 280
        case' pos =>
          rw [if_pos h5] at HVk
          obtain ⟨h5a, h5b⟩ := h5
          have h2 : (144 : Int) ≤ k := by omega
          have h3 : ¬ (k : Int) < 256 := by omega
          have h4 : (256 : Int) ≤ k := by omega
          have h6 : (k : Int) < 280 := by omega
          clear h1
          go_wp2_with (at_builtin; refine wpList_append_own _ rfl _ _ 32 rfl w.heap.size 3 i0 (.int .i64 0) 1 8 Tryz.underlying32 hi hz0 hz1' hz2' rfl (by decide) _ _ _ rfl (World.ownsRow.alloc HR.out _) ⟨wr.heap.size, 0, none⟩ 1 1 [.int .i64 7] rfl rfl (one_int wr _) (by intro u hu; simp at hu; subst hu; rfl) (by unfold maxLen; omega) (by omega) (by simp; omega) ?_; intro v' w1 hown' hgrow hnil)
        case' neg =>
          rw [if_neg h5] at HVk
          have h7 : k < 144 ∨ 280 ≤ k := by omega
          clear h1 h5
          rcases h7 with h7 | h7
          case' inl =>
            have h2 : ¬ (144 : Int) ≤ k := by omega
            have h4 : ¬ (256 : Int) ≤ k := by omega
            go_wp2_with (at_builtin; refine wpList_append_own _ rfl _ _ 32 rfl w.heap.size 3 i0 (.int .i64 0) 1 8 Tryz.underlying32 hi hz0 hz1' hz2' rfl (by decide) _ _ _ rfl (World.ownsRow.alloc HR.out _) ⟨wr.heap.size, 0, none⟩ 1 1 [.int .i64 8] rfl rfl (one_int wr _) (by intro u hu; simp at hu; subst hu; rfl) (by unfold maxLen; omega) (by omega) (by simp; omega) ?_; intro v' w1 hown' hgrow hnil)
          case' inr =>
            have h2 : (144 : Int) ≤ k := by omega
            have h3 : ¬ (k : Int) < 256 := by omega
            have h4 : (256 : Int) ≤ k := by omega
            have h6 : ¬ (k : Int) < 280 := by omega
            go_wp2_with (at_builtin; refine wpList_append_own _ rfl _ _ 32 rfl w.heap.size 3 i0 (.int .i64 0) 1 8 Tryz.underlying32 hi hz0 hz1' hz2' rfl (by decide) _ _ _ rfl (World.ownsRow.alloc HR.out _) ⟨wr.heap.size, 0, none⟩ 1 1 [.int .i64 8] rfl rfl (one_int wr _) (by intro u hu; simp at hu; subst hu; rfl) (by unfold maxLen; omega) (by omega) (by simp; omega) ?_; intro v' w1 hown' hgrow hnil)
      all_goals
        go_roundw
        case rel =>
          refine ⟨k + 1, by omega, by go_num, ?_, ?_⟩
          · rw [HVk.out]; exact Owns.push hown'
          · exact (HB.out.alloc hsz _).grown hgrow (by simp; omega) (fun g e => (ownsRow_lt HR.out e).1)
        case measure => simp [intOf]; omega
    · obtain rfl : k = 288 := by omega
      rw [HE.out] at HR
      go_wp2
      go_ret
      exact ⟨_, rfl, HR.out, HB.out⟩
end Go.Proofs.YtlakgbckopjelaaGreatDoor
