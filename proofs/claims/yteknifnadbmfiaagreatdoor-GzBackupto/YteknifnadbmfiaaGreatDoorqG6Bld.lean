/- gz: qG6Bld. -/
import Derived.Test.YteknifnadbmfiaaGreatDoorqG5Str
import Derived.Test.YteknifnadbmfiaaGreatDoorpMg01MRun
namespace Go.Proofs.YteknifnadbmfiaaGreatDoor
set_option maxRecDepth 100000
open Go Go.RowKit
set_option linter.unusedVariables false

theorem Tryz.infoMem : (Tryz.prog.info? 27).map (fun i => (i.zero, i.size, i.bytes)) = some (some (.agg mb0.cells), 6, 72) := by kernel_rfl
theorem zeroMb : (∀ w, (zeroValue 27).run Tryz.prog w = .ok (.agg mb0.cells) w) /\ (Tryz.prog.info? 27).map (·.size) = some 6 := zero_of_info (by kernel_rfl)
theorem Mb.one (m : Mb) : m.cells.all (·.oneCell') = true := by simp [Mb.cells, Value.oneCell']
theorem Mb.six (m : Mb) : m.cells.size = 6 := rfl
theorem sizeM : (Tryz.prog.info? 27).map (·.size) = some 6 := zeroMb.2
def MmOk (w : World) (B br : Nat) (left : Nat) (r : Except Int (Mb × List Int)) (e : Ending) (w' : World) : Prop :=
 (∃ m ys, r = .ok (m, ys) /\ e = .returned (.tuple #[.agg m.cells, .int .i64 0]) /\ SR w w' B br ys ((left : Int) - m.data.size) /\ m.data.size <= left) \/ (∃ er, r = .error er /\ 90 <= er /\ er <= 93 /\ e = .returned (.tuple #[.agg mb0.cells, .int .i64 er]) /\ On br w w')
theorem gMember_1 {left : Nat} {r : List Int} {e : Int} (h : gHead r = .error e) : gMember left r = .error e := by simp [gMember, h]
theorem gMember_2 {left : Nat} {r r1 : List Int} {m : Mb} {e : Int} (h : gHead r = .ok (m, r1)) (h2 : gStream left r1 = .error e) : gMember left r = .error e := by simp [gMember, h, h2]
theorem gMember_3 {left : Nat} {r r1 r2 d : List Int} {m : Mb} {e : Int} (h : gHead r = .ok (m, r1)) (h2 : gStream left r1 = .ok (d, r2)) (h3 : gEnd d r2 = .error e) : gMember left r = .error e := by simp [gMember, h, h2, h3]
theorem gMember_4 {left : Nat} {r r1 r2 r3 d : List Int} {m : Mb} (h : gHead r = .ok (m, r1)) (h2 : gStream left r1 = .ok (d, r2)) (h3 : gEnd d r2 = .ok r3) : gMember left r = .ok ({ m with data := strOfNums d }, r3) := by simp [gMember, h, h2, h3]
structure MW (w W : World) (B br : Nat) (zs : List Int) (room : Int) (m : Mb) : Prop where
 rd : ∃ a c, RdAt W B br zs room a c
 b0 : W.heap[w.heap.size]? = some (.cells mb0.cells 27 (0, 0))
 bm : W.heap[w.heap.size + 1]? = some (.cells m.cells 27 (0, 0))
 on : On br w W
 lt : B <= br /\ br < w.heap.size
def MWb (w : World) (br : Nat) (w' : World) : Prop := w'.heap[w.heap.size]? = some (.cells mb0.cells 27 (0, 0)) /\ On br w w'
theorem MW.start {w : World} {B br : Nat} {zs : List Int} {room : Int} (h : SR w w B br zs room) (hB : B <= br) : MW w ((w.alloc (.cells mb0.cells 27)).alloc (.cells mb0.cells 27)) B br zs room mb0 := by
 obtain ⟨a, c, hrd⟩ := h.rd
 have k2 : Kept (fun _ => False) w ((w.alloc (.cells mb0.cells 27)).alloc (.cells mb0.cells 27)) := Kept.alloc _ (Kept.alloc _ (Kept.refl _ w) _) _
 exact ⟨⟨a, c, hrd.kept k2 (fun _ _ e => e) (fun e => e)⟩, heap_new1 w _ _, heap_new2 w _ _, k2.mono (fun _ _ e => e.elim), hB, lt_of_block hrd.h⟩
theorem MW.head {w W : World} {B br : Nat} {zs : List Int} {room : Int} (h : MW w W B br zs room mb0) :
  Calls Tryz.prog 24 #[.pointer (some ⟨br, 0, none⟩), .pointer (some ⟨w.heap.size + 1, 0, none⟩)] W fun e w' => (∃ m ys, gHead zs = .ok (m, ys) /\ e = .returned (.int .i64 0) /\ MW w w' B br ys room m) \/ (∃ er, gHead zs = .error er /\ 90 <= er /\ er <= 93 /\ e = .returned (.int .i64 er) /\ MWb w br w') := by
 obtain ⟨hl1, hl2⟩ := h.lt
 refine (head_c (w := W) (bm := w.heap.size + 1) ⟨h.rd, h.bm, On2.refl _ _ _, by omega, by omega⟩).mono ?_
 have key : ∀ {w' : World}, On2 br (w.heap.size + 1) W w' -> w'.heap[w.heap.size]? = some (.cells mb0.cells 27 (0, 0)) /\ On br w w' := fun {w'} o => ⟨o.heap h.b0 (by omega), Kept.trans h.on o (fun i hi e => by omega)⟩
 rintro e w' (⟨m, ys, e1, rfl, s⟩ | ⟨er, e1, l1, l2, rfl, o⟩)
 ·exact .inl ⟨m, ys, e1, rfl, s.rd, (key s.low).1, s.mb, (key s.low).2, hl1, hl2⟩
 ·exact .inr ⟨er, e1, l1, l2, rfl, key o⟩
theorem MW.stream {w W : World} {B br : Nat} {zs : List Int} {left : Nat} {m : Mb} (h : MW w W B br zs left m) (hT : Tab W) (hl : zs.length <= 140737488351232) (hm : left <= 10000000) :
  Calls Tryz.prog 25 #[.pointer (some ⟨br, 0, none⟩)] W fun e w' => (∃ d ys o oc, gStream left zs = .ok (d, ys) /\ e = .returned (.tuple #[.slice o d.length oc, .int .i64 0]) /\ OwnsB w' W.heap.size (.slice o d.length oc) d /\ MW w w' B br ys ((left : Int) - d.length) m /\ d.length <= left /\ ∀ x ∈ d, 0 <= x /\ x <= 255) \/ (∃ er, gStream left zs = .error er /\ 90 <= er /\ er <= 93 /\ e = .returned (.tuple #[.slice none 0 0, .int .i64 er]) /\ MWb w br w') := by
 obtain ⟨hl1, hl2⟩ := h.lt
 refine (gstream_c (w := W) ⟨h.rd, On.refl _ _⟩ hT hl hm hl1).mono ?_
 have key : ∀ {w' : World}, On br W w' -> MWb w br w' := fun {w'} o => ⟨Kept.heap o h.b0 (by omega), h.on.trans o⟩
 rintro e w' (⟨d, ys, o, oc, e1, rfl, ow, s, hd, hb⟩ | ⟨er, e1, l1, l2, rfl, o⟩)
 ·exact .inl ⟨d, ys, o, oc, e1, rfl, ow, ⟨s.rd, (key s.low).1, Kept.heap s.low h.bm (by omega), (key s.low).2, hl1, hl2⟩, hd, hb⟩
 ·exact .inr ⟨er, e1, l1, l2, rfl, key o⟩
theorem owns_bi {w : World} {base : Nat} {o : Option Addr} {oc : Nat} {d : List Int} (h : OwnsB w base (.slice o d.length oc) d) (hb : ∀ x ∈ d, 0 <= x /\ x <= 255) : Bi w w.heap.size o oc d /\ (d = [] \/ ∃ g, o = some ⟨g, 0, none⟩ /\ base <= g) := by
 have hg : ∀ i, 0 <= d.getD i 0 /\ d.getD i 0 <= 255 := fun i => by
  by_cases hi : i < d.length
  ·simp only [List.getD, List.getElem?_eq_getElem hi, Option.getD_some]
   exact hb _ (List.getElem_mem hi)
  ·simp [List.getD, List.getElem?_eq_none (show d.length <= i by omega)]
 rcases h.2 with ⟨hv, h0⟩ | ⟨g, cap, cur, hv, hgb, hh, hc, hm, hr⟩
 ·have hd : d = [] := List.eq_nil_of_length_eq_zero h0
  subst hd
  simp at hv
  obtain ⟨rfl, rfl⟩ := hv
  exact ⟨Bi.none (by omega) (fun _ => rfl), .inl rfl⟩
 ·simp only [Value.slice.injEq] at hv
  obtain ⟨rfl, _, rfl⟩ := hv
  refine ⟨⟨⟨rfl, hg, .inr ⟨g, 0, lt_of_block hh, rfl, fun i hi => ?_⟩⟩, hc, by simp, by unfold maxLen at hm; omega⟩, .inr ⟨g, rfl, hgb⟩⟩
  rw [Nat.zero_add, World.ownsRow.cellAt h i (by omega)]
  simp [List.getD, hi]
theorem MW.end {w W : World} {B br : Nat} {zs d : List Int} {room : Int} {m : Mb} (h : MW w W B br zs room m) {o : Option Addr} {oc base : Nat} (ho : OwnsB W base (.slice o d.length oc) d) (hbs : w.heap.size + 2 <= base) (hb : ∀ x ∈ d, 0 <= x /\ x <= 255) :
  Calls Tryz.prog 26 #[.pointer (some ⟨br, 0, none⟩), .slice o d.length oc] W fun e w' => (∃ ys, gEnd d zs = .ok ys /\ e = .returned (.int .i64 0) /\ MW w w' B br ys room m /\ OwnsB w' base (.slice o d.length oc) d) \/ (∃ er, gEnd d zs = .error er /\ 90 <= er /\ er <= 93 /\ e = .returned (.int .i64 er) /\ MWb w br w') := by
 obtain ⟨hl1, hl2⟩ := h.lt
 obtain ⟨hbi, hg⟩ := owns_bi ho hb
 refine (end_c (w := W) ⟨h.rd, On.refl _ _⟩ hbi (hg.imp id (fun ⟨g, e, hge⟩ => ⟨g, e, by omega⟩))).mono ?_
 have key : ∀ {w' : World}, On br W w' -> MWb w br w' := fun {w'} o => ⟨Kept.heap o h.b0 (by omega), h.on.trans o⟩
 rintro e w' (⟨ys, e1, rfl, s⟩ | ⟨er, e1, l1, l2, rfl, o⟩)
 ·exact .inl ⟨ys, e1, rfl, ⟨s.rd, (key s.low).1, Kept.heap s.low h.bm (by omega), (key s.low).2, hl1, hl2⟩, ownsRow_kept ho s.low (fun g hg e => by have := (ownsRow_lt ho hg).1; omega)⟩
 ·exact .inr ⟨er, e1, l1, l2, rfl, key o⟩
theorem MWb.ret {w w' : World} {br : Nat} (h : MWb w br w') : (w'.setRow w.heap.size mb0.cells).heap[w.heap.size]? = some (.cells mb0.cells 27 (0, 0)) /\ On br w (w'.setRow w.heap.size mb0.cells) := by
 have hlt := lt_of_block h.1
 constructor
 ·have h' : w'.heap[w.heap.size] = .cells mb0.cells 27 (0, 0) := by simpa [Array.getElem?_eq_getElem hlt] using h.1
  simp [World.setRow, Array.getElem?_modify, h.1]
 ·refine ⟨h.2.os, h.2.tape, h.2.output, by simpa [World.setRow] using h.2.size, fun i hi hn => ?_⟩
  have := h.2.block i hi hn
  rw [<- this]
  simp [World.setRow, Array.getElem?_modify, show ¬ w.heap.size = i by omega]
theorem head_go {w : World} {B br : Nat} {zs z1 : List Int} {room : Int} {m : Mb} (h : SR w w B br zs room) (hB : B <= br) (hh : gHead zs = .ok (m, z1)) : Calls Tryz.prog 24 #[.pointer (some ⟨br, 0, none⟩), .pointer (some ⟨w.heap.size + 1, 0, none⟩)] ((w.alloc (.cells mb0.cells 27)).alloc (.cells mb0.cells 27)) fun e w' => e = .returned (.int .i64 0) /\ MW w w' B br z1 room m := by
 refine (MW.start h hB).head.mono ?_
 rw [hh]
 rintro e w' (⟨_, _, e1, rfl, o2⟩ | ⟨er', e1, _⟩)
 ·cases e1; exact ⟨rfl, o2⟩
 ·cases e1
theorem ld_mb {w W : World} {m' : Mb} (h : W.heap[w.heap.size]? = some (.cells m'.cells 27 (0, 0))) : (loadVar 27 ⟨w.heap.size, 0, none⟩).run Tryz.prog W = .ok (.agg m'.cells) W := run_loadVar_row (P := Tryz.prog) W w.heap.size 27 27 m'.cells (0, 0) _ h Tryz.underlying27 rfl sizeM
set_option maxHeartbeats 4000000 in
theorem member_bad1 {w : World} {B br : Nat} {zs : List Int} {left : Nat} {er : Int} (h0 : er ≠ 0) (h : SR w w B br zs left) (hB : B <= br) (hh : gHead zs = .error er) (hlim : 90 <= er /\ er <= 93) :
  Calls Tryz.prog 13 #[.pointer (some ⟨br, 0, none⟩)] w (MmOk w B br left (gMember left zs)) := by
 have hz := zeroMb.1
 have HH : Hid (Calls Tryz.prog 24 #[.pointer (some ⟨br, 0, none⟩), .pointer (some ⟨w.heap.size + 1, 0, none⟩)] ((w.alloc (.cells mb0.cells 27)).alloc (.cells mb0.cells 27)) fun e w' => e = .returned (.int .i64 er) /\ MWb w br w') := by
  refine (MW.start h hB).head.mono ?_
  rw [hh]
  rintro e w' (⟨_, _, e1, _⟩ | ⟨er', e1, _, _, rfl, o2⟩)
  ·cases e1
  ·cases e1; exact ⟨rfl, o2⟩
 have HG : Hid (∀ w', On br w w' -> MmOk w B br left (gMember left zs) (.returned (.tuple #[.agg mb0.cells, .int .i64 er])) w') := fun w' o => .inr ⟨er, gMember_1 hh, hlim.1, hlim.2, rfl, o⟩
 clear h hh
 clear hz
 go_enter Tryz.func13, Tryz.ntmps13
 go_upto_region 4 with (go_at_call 24; refine HH.out.mono ?_; rintro e w1 ⟨rfl, m1⟩; have M1 := hide m1; clear m1 HH)
 have HB0 := hide M1.out.1
 have HR := hide M1.out.ret
 have HLD := hide (ld_mb HR.out.1)
 go_wp2_with (refine C.wpList_store_row rfl 27 (.tmp 2) (.tmp 12) rfl w.heap.size mb0.cells (by rfl) (by rfl) mb0.cells 27 HB0.out sizeM rfl (Mb.one _) _ rfl ?_)
 refine bodyPost_ret (v := .tuple #[.agg mb0.cells, .int .i64 er]) ?_ rfl (HG.out _ HR.out.2)
 have hld := HLD.out
 simp [results, asAddr, hld]
theorem keptRow {w W : World} {cs : Array Value} (b : Nat) : Kept (fun i => i = b) W (W.setRow b cs) :=
 ⟨rfl, rfl, rfl, by simp [World.setRow], fun i hi hn => by simp [World.setRow, Array.getElem?_modify, show ¬ b = i from fun e => hn e.symm]⟩
theorem MW.fin {w W : World} {B br : Nat} {zs : List Int} {room : Int} {m : Mb} (h : MW w W B br zs room m) (m' : Mb) : (W.setRow w.heap.size m'.cells).heap[w.heap.size]? = some (.cells m'.cells 27 (0, 0)) /\ SR w (W.setRow w.heap.size m'.cells) B br zs room := by
 obtain ⟨a, c, r⟩ := h.rd
 obtain ⟨hl1, hl2⟩ := h.lt
 have k : Kept (fun i => i = w.heap.size) W (W.setRow w.heap.size m'.cells) := keptRow (w := w) w.heap.size
 exact ⟨by simp [World.setRow, Array.getElem?_modify, h.b0], ⟨a, c, r.kept k (fun b hb e => by omega) (fun e => by omega)⟩, Kept.trans h.on k (fun i hi e => by omega)⟩
theorem MW.data {w W : World} {B br : Nat} {zs : List Int} {room : Int} {m : Mb} (h : MW w W B br zs room m) (s : ByteArray) : MW w (W.setCell ⟨w.heap.size + 1, 5, none⟩ (.string s)) B br zs room { m with data := s } := by
 obtain ⟨a, c, r⟩ := h.rd
 obtain ⟨hl1, hl2⟩ := h.lt
 have k : Kept (fun i => i = w.heap.size + 1) W (W.setCell ⟨w.heap.size + 1, 5, none⟩ (.string s)) := (Kept.refl (fun i => i = w.heap.size + 1) W).setCell (p := ⟨w.heap.size + 1, 5, none⟩) (fun _ => rfl) _
 exact ⟨⟨a, c, r.kept k (fun b hb e => by omega) (fun e => by omega)⟩, k.heap h.b0 (by omega), by rw [set_of h.bm]; rfl, Kept.trans h.on k (fun i hi e => by omega), hl1, hl2⟩
theorem MW.tab {w W : World} {B br : Nat} {zs : List Int} {room : Int} {m : Mb} (h : MW w W B br zs room m) (hT : Tab w) (hB : 2 < B) : Tab W := hT.kept h.on (by have := h.lt; omega)
set_option maxHeartbeats 4000000 in
theorem member_bad2 {w : World} {B br : Nat} {zs z1 : List Int} {left : Nat} {er : Int} {m : Mb} (hT : Tab w) (hB2 : 2 < B) (hl : zs.length <= 140737488351232) (hm : left <= 10000000) (h : SR w w B br zs left) (hB : B <= br) (hh : gHead zs = .ok (m, z1)) (hs : gStream left z1 = .error er) :
  Calls Tryz.prog 13 #[.pointer (some ⟨br, 0, none⟩)] w (MmOk w B br left (gMember left zs)) := by
 have hz1 := (gHead_suf hh).2
 simp only at hz1
 have HH := hide (head_go h hB hh)
 have HS : Hid (∀ W, MW w W B br z1 left m -> Calls Tryz.prog 25 #[.pointer (some ⟨br, 0, none⟩)] W fun e w' => ((90 <= er /\ er <= 93) /\ e = .returned (.tuple #[.slice none 0 0, .int .i64 er])) /\ MWb w br w') := fun W mw => by
  refine (mw.stream (mw.tab hT hB2) (by omega) hm).mono ?_
  rw [hs]
  rintro e w' (⟨_, _, _, _, e1, _⟩ | ⟨er', e1, l1, l2, rfl, o2⟩)
  ·cases e1
  ·cases e1; exact ⟨⟨⟨l1, l2⟩, rfl⟩, o2⟩
 have HG : Hid (∀ w', 90 <= er -> er <= 93 -> On br w w' -> MmOk w B br left (gMember left zs) (.returned (.tuple #[.agg mb0.cells, .int .i64 er])) w') := fun w' h1 h2 o => .inr ⟨er, gMember_2 hh hs, h1, h2, rfl, o⟩
 clear h hh hs hT hz1
 go_enter Tryz.func13, Tryz.ntmps13
 go_upto_region 6 with (first
  | (go_at_call 24; refine HH.out.mono ?_; rintro e w1 ⟨rfl, m1⟩; have HS1 := hide (HS.out w1 m1); clear m1 HH HS)
  | (go_at_call 25; refine HS1.out.mono ?_; rintro e w2 ⟨⟨hlim, rfl⟩, m2⟩; have M2 := hide m2; clear m2 HS1))
 have h0 : er ≠ 0 := by omega
 have HB0 := hide M2.out.1
 have HR := hide M2.out.ret
 have HLD := hide (ld_mb HR.out.1)
 go_wp2_with (refine C.wpList_store_row rfl 27 (.tmp 2) (.tmp 21) rfl w.heap.size mb0.cells (by rfl) (by rfl) mb0.cells 27 HB0.out sizeM rfl (Mb.one _) _ rfl ?_)
 refine bodyPost_ret (v := .tuple #[.agg mb0.cells, .int .i64 er]) ?_ rfl (HG.out _ hlim.1 hlim.2 HR.out.2)
 have hld := HLD.out
 simp [results, asAddr, hld]
set_option maxHeartbeats 4000000 in
theorem member_bad3 {w : World} {B br : Nat} {zs z1 z2 d : List Int} {left : Nat} {er : Int} {m : Mb} (hT : Tab w) (hB2 : 2 < B) (hl : zs.length <= 140737488351232) (hm : left <= 10000000) (h : SR w w B br zs left) (hB : B <= br) (hh : gHead zs = .ok (m, z1)) (hs : gStream left z1 = .ok (d, z2)) (he : gEnd d z2 = .error er) :
  Calls Tryz.prog 13 #[.pointer (some ⟨br, 0, none⟩)] w (MmOk w B br left (gMember left zs)) := by
 have hz1 := (gHead_suf hh).2
 simp only at hz1
 have HH := hide (head_go h hB hh)
 have HS : Hid (∀ W, MW w W B br z1 left m -> Calls Tryz.prog 25 #[.pointer (some ⟨br, 0, none⟩)] W fun e w' => ∃ o oc, e = .returned (.tuple #[.slice o d.length oc, .int .i64 0]) /\ Hid (Calls Tryz.prog 26 #[.pointer (some ⟨br, 0, none⟩), .slice o d.length oc] w' fun e w3 => ((90 <= er /\ er <= 93) /\ e = .returned (.int .i64 er)) /\ MWb w br w3)) := fun W mw => by
  have hsz := lt_of_block mw.bm
  refine (mw.stream (mw.tab hT hB2) (by omega) hm).mono ?_
  rw [hs]
  rintro e w' (⟨_, _, o, oc, e1, rfl, ow, m2, hd, hb⟩ | ⟨er', e1, _⟩)
  ·cases e1
   refine ⟨o, oc, rfl, (m2.end ow (by omega) hb).mono ?_⟩
   rw [he]
   rintro e w3 (⟨_, e1, _⟩ | ⟨er', e1, l1, l2, rfl, m3⟩)
   ·cases e1
   ·cases e1; exact ⟨⟨⟨l1, l2⟩, rfl⟩, m3⟩
  ·cases e1
 have HG : Hid (∀ w', 90 <= er -> er <= 93 -> On br w w' -> MmOk w B br left (gMember left zs) (.returned (.tuple #[.agg mb0.cells, .int .i64 er])) w') := fun w' h1 h2 o => .inr ⟨er, gMember_3 hh hs he, h1, h2, rfl, o⟩
 clear h hh hs hT hz1 he
 go_enter Tryz.func13, Tryz.ntmps13
 go_upto_region 9 with (first
  | (go_at_call 24; refine HH.out.mono ?_; rintro e w1 ⟨rfl, m1⟩; have HS1 := hide (HS.out w1 m1); clear m1 HH HS)
  | (go_at_call 25; refine HS1.out.mono ?_; rintro e w2 ⟨o, oc, rfl, HE⟩; clear HS1)
  | (go_at_call 26; refine HE.out.mono ?_; rintro e w3 ⟨⟨hlim, rfl⟩, m3⟩; have M2 := hide m3; clear m3 HE))
 have h0 : er ≠ 0 := by omega
 have HB0 := hide M2.out.1
 have HR := hide M2.out.ret
 have HLD := hide (ld_mb HR.out.1)
 go_wp2_with (refine C.wpList_store_row rfl 27 (.tmp 2) (.tmp 28) rfl w.heap.size mb0.cells (by rfl) (by rfl) mb0.cells 27 HB0.out sizeM rfl (Mb.one _) _ rfl ?_)
 refine bodyPost_ret (v := .tuple #[.agg mb0.cells, .int .i64 er]) ?_ rfl (HG.out _ hlim.1 hlim.2 HR.out.2)
 have hld := HLD.out
 simp [results, asAddr, hld]
set_option maxHeartbeats 4000000 in
theorem member_ok {w : World} {B br : Nat} {zs z1 z2 z3 d : List Int} {left : Nat} {m : Mb} (hT : Tab w) (hB2 : 2 < B) (hl : zs.length <= 140737488351232) (hm : left <= 10000000) (h : SR w w B br zs left) (hB : B <= br) (hh : gHead zs = .ok (m, z1)) (hs : gStream left z1 = .ok (d, z2)) (he : gEnd d z2 = .ok z3) :
  Calls Tryz.prog 13 #[.pointer (some ⟨br, 0, none⟩)] w (MmOk w B br left (gMember left zs)) := by
 have hz1 := (gHead_suf hh).2
 simp only at hz1
 have HH := hide (head_go h hB hh)
 have HS : Hid (∀ W, MW w W B br z1 left m -> Calls Tryz.prog 25 #[.pointer (some ⟨br, 0, none⟩)] W fun e w' => ∃ o oc, e = .returned (.tuple #[.slice o d.length oc, .int .i64 0]) /\ Hid (Calls Tryz.prog 26 #[.pointer (some ⟨br, 0, none⟩), .slice o d.length oc] w' fun e w3 => e = .returned (.int .i64 0) /\ (convert 24 9 (.slice o d.length oc)).run Tryz.prog w3 = .ok (.string (strOfNums d)) w3 /\ MW w w3 B br z3 ((left : Int) - d.length) m /\ d.length <= left)) := fun W mw => by
  have hsz := lt_of_block mw.bm
  refine (mw.stream (mw.tab hT hB2) (by omega) hm).mono ?_
  rw [hs]
  rintro e w' (⟨_, _, o, oc, e1, rfl, ow, m2, hd, hb⟩ | ⟨er', e1, _⟩)
  ·cases e1
   refine ⟨o, oc, rfl, (m2.end ow (by omega) hb).mono ?_⟩
   rw [he]
   rintro e w3 (⟨_, e1, rfl, m3, ow3⟩ | ⟨er', e1, _⟩)
   ·cases e1; exact ⟨rfl, (owns_bi ow3 hb).1.conv, m3, hd⟩
   ·cases e1
  ·cases e1
 have HG : Hid (∀ w', d.length <= left -> SR w w' B br z3 ((left : Int) - d.length) -> MmOk w B br left (gMember left zs) (.returned (.tuple #[.agg ({ m with data := strOfNums d } : Mb).cells, .int .i64 0])) w') := fun w' h1 o => .inl ⟨_, _, gMember_4 hh hs he, rfl, by simp only [strOfNums_size]; exact o, by simp only [strOfNums_size]; exact h1⟩
 clear h hh hs hT hz1 he
 generalize strOfNums d = S at *
 go_enter Tryz.func13, Tryz.ntmps13
 go_upto_region 11 with (first
  | (go_at_call 24; refine HH.out.mono ?_; rintro e w1 ⟨rfl, m1⟩; have HS1 := hide (HS.out w1 m1); clear m1 HH HS)
  | (go_at_call 25; refine HS1.out.mono ?_; rintro e w2 ⟨o, oc, rfl, HE⟩; clear HS1)
  | (go_at_call 26; refine HE.out.mono ?_; rintro e w3 ⟨rfl, hcv, m3, hdl⟩; have M3 := hide m3; have HDL := hide hdl; clear m3 hdl HE))
 have c5 := cells_of M3.out.bm 5
 have g5 := free_of M3.out.bm 5
 simp only [Mb.cells] at c5
 have M4 := hide (M3.out.data S)
 have HBM := hide M4.out.bm
 have HB0 := hide M4.out.b0
 have HR := hide (M4.out.fin ({ m with data := S } : Mb))
 generalize hM' : ({ m with data := S } : Mb) = m' at *
 have HLD := hide (ld_mb HR.out.1)
 clear M3 M4 hM'
 go_wp2_with (first
  | (refine C.wpList_load_row rfl 27 (.tmp 4) rfl (w.heap.size + 1) (by rfl) m'.cells 27 (0, 0) HBM.out _ Tryz.underlying27 rfl sizeM ?_)
  | (refine C.wpList_store_row rfl 27 (.tmp 2) (.tmp 33) rfl w.heap.size m'.cells (by rfl) (by rfl) mb0.cells 27 HB0.out sizeM rfl (Mb.one _) _ rfl ?_))
 refine bodyPost_ret (v := .tuple #[.agg m'.cells, .int .i64 0]) ?_ rfl (HG.out _ HDL.out HR.out.2)
 have hld := HLD.out
 simp [results, asAddr, hld]
theorem gHead_lim {r : List Int} {e : Int} (h : gHead r = .error e) : 90 <= e /\ e <= 93 := by
 unfold gHead at h
 split at h
 ·next e1 =>
  cases h
  unfold gFirst at e1
  split at e1
  ·cases e1; decide
  ·split at e1
   ·cases e1
   ·cases e1; decide
 ·split at h
  ·next e1 => cases h; have := gTexts_err e1; omega
  ·split at h
   ·next e1 =>
    cases h
    unfold gSum at e1
    split at e1
    ·split at e1
     ·cases e1; decide
     ·split at e1
      ·cases e1
      ·cases e1; decide
    ·cases e1
   ·cases h
theorem member_c {w : World} {B br : Nat} {zs : List Int} {left : Nat} (hT : Tab w) (hB2 : 2 < B) (hl : zs.length <= 140737488351232) (hm : left <= 10000000) (h : SR w w B br zs left) (hB : B <= br) :
  Calls Tryz.prog 13 #[.pointer (some ⟨br, 0, none⟩)] w (MmOk w B br left (gMember left zs)) := by
 rcases hh : gHead zs with er | ⟨m, z1⟩
 ·have := gHead_lim hh
  exact member_bad1 (by omega) h hB hh this
 rcases hs : gStream left z1 with er | ⟨d, z2⟩
 ·exact member_bad2 hT hB2 hl hm h hB hh hs
 rcases he : gEnd d z2 with er | z3
 ·exact member_bad3 hT hB2 hl hm h hB hh hs he
 ·exact member_ok hT hB2 hl hm h hB hh hs he
end Go.Proofs.YteknifnadbmfiaaGreatDoor

namespace Go.Proofs.YteknifnadbmfiaaGreatDoor
set_option maxRecDepth 100000
open Go Go.RowKit
set_option linter.unusedVariables false

theorem fold_set (off : Nat) : ∀ (l : List Value) (k : Nat) (C : Array Value) (i : Nat), ((l.zipIdx k).foldl (fun cs p => cs.setIfInBounds (off + p.2) p.1) C)[i]? = if off + k <= i /\ i < off + k + l.length /\ i < C.size then l[i - (off + k)]? else C[i]?
 | [], k, C, i => by
  rw [List.zipIdx_nil, List.foldl_nil, if_neg (by simp; omega)]
 | x :: l, k, C, i => by
  rw [List.zipIdx_cons, List.foldl_cons, fold_set off l (k + 1), Array.size_setIfInBounds, Array.getElem?_setIfInBounds]
  by_cases h1 : off + k = i
  ·subst h1
   by_cases h2 : off + k < C.size
   ·rw [if_neg (by omega), if_pos rfl, if_pos h2, if_pos (by simp; omega)]
    simp
   ·rw [if_neg (by omega), if_pos rfl, if_neg h2, if_neg (by omega), Array.getElem?_eq_none (by omega)]
  ·rw [if_neg h1]
   by_cases h2 : off + (k + 1) <= i /\ i < off + (k + 1) + l.length /\ i < C.size
   ·rw [if_pos h2, if_pos (by simp; omega), show i - (off + k) = (i - (off + (k + 1))) + 1 by omega, List.getElem?_cons_succ]
   ·rw [if_neg h2, if_neg (by simp; omega)]
theorem fill_row {pl : Nat -> Option (Nat × Nat)} {C T : Array Value} {i off : Nat} {rest : List (Nat × Value)} (h : pl i = some (off, T.size)) (ho : off + T.size <= C.size) : ∃ C', Instr.fill pl C ((i, .agg T) :: rest) = Instr.fill pl C' rest /\ C'.size = C.size /\ ∀ j, C'[j]? = if off <= j /\ j < off + T.size /\ j < C.size then T[j - off]? else C[j]? := by
 refine ⟨T.zipIdx.foldl (fun cs (c, j) => cs.setIfInBounds (off + j) c) C, ?_, ?_, fun j => ?_⟩
 ·rw [Instr.fill, h]
  have : ¬ off + T.size > C.size := by omega
  simp [Value.cells, this]
 ·rw [<- Array.foldl_toList, Array.toList_zipIdx]
  have : ∀ (l : List (Value × Nat)) (C : Array Value), (l.foldl (fun cs p => cs.setIfInBounds (off + p.2) p.1) C).size = C.size := by
   intro l
   induction l with
   | nil => intro C; rfl
   | cons x l ih => intro C; rw [List.foldl_cons, ih]; simp
  exact this _ _
 ·rw [<- Array.foldl_toList, Array.toList_zipIdx]
  have := fold_set off T.toList 0 C j
  rw [Nat.add_zero] at this
  rw [show (T.toList.zipIdx.foldl (fun cs (x : Value × Nat) => match x with | (c, j) => cs.setIfInBounds (off + j) c) C) = (T.toList.zipIdx.foldl (fun cs p => cs.setIfInBounds (off + p.2) p.1) C) from rfl, this]
  simp
noncomputable def rdZ : List Value := ((((Tryz.prog.info? 47).bind (·.zero)).map (fun z => z.cells.toList))).getD []
theorem rdZ_len : rdZ.length = 258 := by kernel_rfl
theorem rdZ_places : (Tryz.prog.underlying 47).bind (fun d => match d with | .struct fields => fields.toList.mapM (fun f => (Tryz.prog.info? f.type).map fun i => (f.offset, i.size)) | _ => none) = some [(0, 1), (1, 1), (2, 256)] := by kernel_rfl
theorem rdZ_info : (Tryz.prog.info? 47).isSome = true := by kernel_rfl
theorem rdZ_some : (((Tryz.prog.info? 47).bind (·.zero))).isSome = true := by kernel_rfl
theorem built_rd (v : Value) (room : Int) (hv : v.cells = #[v]) : Tryz.prog.built 47 [(0, v), (1, .int .i64 room), (2, .agg (C.tabA 256))] = some (rdA v room) := by
 obtain ⟨z, hz⟩ := Option.isSome_iff_exists.1 rdZ_some
 obtain ⟨it, hit⟩ := Option.isSome_iff_exists.1 rdZ_info
 have hzz : it.zero = some z := by rw [hit] at hz; exact hz
 have hZ : rdZ = z.cells.toList := by unfold rdZ; rw [hz]; rfl
 have hp := rdZ_places
 cases hu : Tryz.prog.underlying 47 with
 | none => rw [hu] at hp; cases hp
 | some dd =>
  rw [hu] at hp
  have hsz : z.cells.size = 258 := by have := rdZ_len; rw [hZ] at this; simpa using this
  cases dd <;> try (cases hp; done)
  case struct fields =>
   simp only [Option.bind_some] at hp
   generalize hcz : z.cells = Z at hsz
   obtain ⟨C', e1, s1, g1⟩ := @fill_row (fun i => ([(0, 1), (1, 1), (2, 256)] : List (Nat × Nat)).toArray[i]?) ((Z.setIfInBounds 0 v).setIfInBounds 1 (.int .i64 room)) (C.tabA 256) 2 2 [] (by rw [C.tabA_size]; rfl) (by rw [C.tabA_size]; simp; omega)
   have hC : C' = rdA v room := by
    apply Array.ext_getElem?
    intro j
    rw [g1 j, C.tabA_size]
    unfold rdA
    simp only [Array.size_setIfInBounds, hsz]
    rcases j with _ | _ | j
    ·rw [if_neg (by omega), Array.getElem?_setIfInBounds, if_neg (by omega), Array.getElem?_setIfInBounds, if_pos rfl, if_pos (by omega), Array.getElem?_append_left (by simp)]
     rfl
    ·rw [if_neg (by omega), Array.getElem?_setIfInBounds, if_pos rfl, if_pos (by simp; omega), Array.getElem?_append_left (by simp)]
     rfl
    ·rw [Array.getElem?_append_right (by simp)]
     simp only [List.size_toArray, List.length_cons, List.length_nil, Nat.zero_add]
     by_cases hj : j < 256
     ·rw [if_pos (by omega)]
      first | done | rfl
     ·rw [if_neg (by omega), Array.getElem?_eq_none (by simp; omega), Array.getElem?_eq_none (by rw [C.tabA_size]; omega)]
   unfold Program.built
   simp only [hit, hu, hzz, hp, hcz]
   rw [M.fill_one (off := 0) (by rfl) hv (by omega), M.fill_one (off := 1) (by rfl) rfl (by simp; omega), e1, hC]
   rfl
def mbL (ms : List Mb) : List Value := ms.flatMap fun m => m.cells.toList
def OwnsMb (w : World) (base : Nat) (v : Value) (ms : List Mb) : Prop := w.ownsRow base 27 6 v ms.length (mbL ms)
theorem OwnsMb.nil (w : World) (base : Nat) : OwnsMb w base (.slice none 0 0) [] := World.ownsRow_nil _ _ _ _
theorem OwnsMb.kept {M : Nat -> Prop} {w w' : World} {base : Nat} {v : Value} {L : List Mb} (h : OwnsMb w base v L) (k : Kept M w w') (hn : ∀ g, v.ownBlock = some g -> ¬ M g) : OwnsMb w' base v L := ownsRow_kept h k hn
theorem OwnsMb.form {w : World} {base : Nat} {v : Value} {L : List Mb} (h : OwnsMb w base v L) : ∃ a cap, v = .slice a L.length cap /\ L.length <= cap /\ (a = none -> L = []) := by
 rcases h.2 with ⟨rfl, h0⟩ | ⟨g, cap, cur, rfl, hg, hh, hc, r⟩
 ·exact ⟨none, 0, by rw [h0], by omega, fun _ => List.eq_nil_of_length_eq_zero h0⟩
 ·exact ⟨_, cap, rfl, hc, by simp⟩
theorem mbL_app (a b : List Mb) : mbL (a ++ b) = mbL a ++ mbL b := by simp [mbL]
theorem wpList_pushMb {ops : Array Oper} {rest : List Oper} {o : Oper} {act : Act} {Q : Exit -> Act -> World -> Prop} (w : World) (hgd : o.guard = none) (s x : Operand)
  (ho : o.op = .call { callee := .builtin .append, args := #[s, x], argTypes := #[22, 22] })
  (base : Nat) (v : Value) (X : List Mb) (hs : act.eval s = v) (hown : OwnsMb w base v X) (m : Mb) (ad : Nat) (hx : act.eval x = .slice (some ⟨ad, 0, none⟩) 1 1)
  (hc : ∀ j u, m.cells.toList[j]? = some u -> w.cell? ((⟨ad, 0, none⟩ : Addr).add j) = some u) (hb : X.length <= 1000000000) (hbase : base <= w.heap.size)
  (h : ∀ a' cap' w', OwnsMb w' base (.slice a' (X.length + 1) cap') (X ++ [m]) -> w.grownBy w' v.ownBlock -> wpList Tryz.prog ops Q rest (act.put o.dst (.slice a' (X.length + 1) cap')) w') : wpList Tryz.prog ops Q (o :: rest) act w := by
 obtain ⟨i, hi, hz, hsz, hby⟩ := info_parts Tryz.infoMem
 refine wpList_append_own w hgd s x 22 ho base 27 i _ 6 72 Tryz.underlying22 hi hz hsz hby rfl (by decide) v X.length (mbL X) hs hown ⟨ad, 0, none⟩ 1 1 m.cells.toList hx rfl hc (by intro u hu; simp [Mb.cells] at hu; rcases hu with rfl | rfl | rfl | rfl | rfl | rfl <;> rfl) (by unfold maxLen; omega) (by omega) hbase ?_
 intro v' w' h1 h2 _
 have h3 : OwnsMb w' base v' (X ++ [m]) := by
  unfold OwnsMb
  rw [mbL_app, List.length_append]
  have e : mbL [m] = m.cells.toList := by simp [mbL]
  rw [e]
  exact h1
 obtain ⟨a', cap', rfl, _⟩ := h3.form
 rw [List.length_append, List.length_singleton] at h3 ⊢
 exact h a' cap' w' h3 h2
end Go.Proofs.YteknifnadbmfiaaGreatDoor
