/- Several texts, laid together: HMake, HRef1. -/
import Derived.Test.YtibolmgijaploaaDoorG05HNumber
import Derived.Deep.MidRow
import Derived.Laws.CopyOwn
import Derived.Deep.DeepCutAuto
import Derived.Deep.RegionWith
/- huff's Make and Codes: contracts; what a Code is in memory. -/
namespace Go.Proofs.YtibolmgijaploaaDoor
set_option maxRecDepth 100000
open Go Go.RowKit

/-- A Code of the lengths ls: its blocks lie from lo up to hi. -/
structure CodeAt (lo hi : Nat) (w : World) (bc gl gc : Nat) (vo : Value) (N : Nat) (ls : List Int) : Prop where
  block : w.heap[bc]? = some (.cells (codeA ls vo (.slice (some ⟨gl, 0, none⟩) ls.length ls.length) (.slice (some ⟨gc, 0, none⟩) ls.length ls.length) N) 104 (0, 0))
  lens : w.heap[gl]? = some (.cells (valA ls) 3 (0, 0))
  codes : w.heap[gc]? = some (.cells (valA (codesL ls)) 3 (0, 0))
  ord : Owns w lo vo ((od ls 15).map (fun (x : Nat) => (x : Int)))
  ordlt : ∀ g, vo.ownBlock = some g → g < hi
  long : Longest ls N
  inb : lo ≤ bc ∧ bc < hi
  inl : lo ≤ gl ∧ gl < hi
  inc : lo ≤ gc ∧ gc < hi
theorem CodeAt.kept {lo hi : Nat} {w w' : World} {bc gl gc : Nat} {vo : Value} {N : Nat} {ls : List Int} {M : Nat → Prop} (h : CodeAt lo hi w bc gl gc vo N ls) (k : Kept M w w') (hn : ∀ b, lo ≤ b → b < hi → ¬ M b) : CodeAt lo hi w' bc gl gc vo N ls :=
  ⟨k.heap h.block (hn _ h.inb.1 h.inb.2), k.heap h.lens (hn _ h.inl.1 h.inl.2), k.heap h.codes (hn _ h.inc.1 h.inc.2), Owns.kept h.ord k (fun g hg => hn g (ownsRow_lt h.ord hg).1 (h.ordlt g hg)), h.ordlt, h.long, h.inb, h.inl, h.inc⟩
theorem CodeAt.below {lo hi B : Nat} {w w' : World} {bc gl gc : Nat} {vo : Value} {N : Nat} {ls : List Int} (h : CodeAt lo hi w bc gl gc vo N ls) (k : Below B w w') (hB : hi ≤ B) : CodeAt lo hi w' bc gl gc vo N ls :=
  h.kept (Kept.of_below k) (fun b _ h2 h3 => by omega)

theorem made_ints (n : Nat) (i : TypeInfo) (hi : Tryd.prog.info? 3 = some i) (hz : i.zero = some (.int .i64 0)) (hs : i.size = 1) (hb : i.bytes = 8) (hn : n ≤ 1000000000) (W : World) :
    (Instr.makeSlice 43 (.int .i64 (n : Int)) (.int .i64 (n : Int))).run Tryd.prog W = .ok (.slice (some ⟨W.heap.size, 0, none⟩) n n) (W.alloc (.cells (valA (List.replicate n 0)) 3)) := by
  have := run_make (P := Tryd.prog) W 43 3 i (.int .i64 0) Tryd.underlying43 hi hz .i64 .i64 n n (by omega) (by omega) (by rw [hb]; omega) (by omega)
  rw [this, hs]
  have e2 : madeCells (Value.int .i64 0).cells n = valA (List.replicate n 0) := by
    have := toList_madeCells_one (Value.int .i64 0) n
    rw [← Array.toList_inj]
    simpa [Value.cells, valA] using this
  rw [Int.toNat_natCast, Nat.mul_one, e2]

theorem splice_all (Z C : List Value) (h : Z.length = C.length) : splice Z 0 C = C := by
  simp [splice, h]

theorem zeroC : (∀ w, (zeroValue 104).run Tryd.prog w = .ok (.agg (Array.replicate 16 (.int .i64 0) ++ #[.slice none 0 0, .slice none 0 0, .slice none 0 0, .int .i64 0])) w) ∧ (Tryd.prog.info? 104).map (·.size) = some 20 :=
  zero_of_info (by kernel_rfl)

theorem manyA_lit (ls : List Int) : manyA ls = #[.int .i64 (ls.count 0 : Nat), .int .i64 (ls.count 1 : Nat), .int .i64 (ls.count 2 : Nat), .int .i64 (ls.count 3 : Nat), .int .i64 (ls.count 4 : Nat), .int .i64 (ls.count 5 : Nat), .int .i64 (ls.count 6 : Nat), .int .i64 (ls.count 7 : Nat), .int .i64 (ls.count 8 : Nat), .int .i64 (ls.count 9 : Nat), .int .i64 (ls.count 10 : Nat), .int .i64 (ls.count 11 : Nat), .int .i64 (ls.count 12 : Nat), .int .i64 (ls.count 13 : Nat), .int .i64 (ls.count 14 : Nat), .int .i64 (ls.count 15 : Nat)] := rfl

theorem build_code (ls : List Int) (a b : Option Addr) (n m k l : Nat) (W : World) :
    (Instr.build 104 #[(0, .agg (manyA ls)), (2, .slice a n m), (3, .slice b k l)]).run Tryd.prog W = .ok (.agg (codeA ls (.slice none 0 0) (.slice a n m) (.slice b k l) 0)) W := by
  exact run_build W 104 _ _ (by kernel_rfl)

theorem make_bad (B : Nat) (a : Option Addr) (cap : Nat) (ls : List Int) (lone : Bool) (w : World) (hn : 320 < ls.length ∨ ¬ Fit ls) (hi : Ints 0 B w a ls) :
    Calls Tryd.prog 53 #[.slice a ls.length cap, .bool lone] w fun e w' => e = .returned (.tuple #[.pointer none, .int .i64 1]) ∧ Below w.heap.size w w' := by
  have hz := zeroM.1
  have HI : Hid _ := infoM []
  have HN : Hid (320 < ls.length ∨ ¬ Fit ls) := hn
  clear hn
  go_enter Tryd.func53, Tryd.ntmps53
  go_wp2_with (first
    | (go_at_call 63; refine (count_no B a cap ls _ HN.out hi).mono ?_; rintro e w1 ⟨rfl, b1⟩; have B1 : Hid (Below w.heap.size w (w1.alloc (.cells (manyA []) 99))) := b1.alloc b1.size _; clear b1)
    | (refine wpList_store_row rfl 99 (.tmp 6) (.tmp 13) rfl w1.heap.size (manyA []) (by rfl) (by rfl) (manyA []) 99 (heap_new _ _) HI.out (by rw [manyA_size]) (manyA_one _) _ (World.setRow_alloc_new _ _ _ _) ?_))
  go_ret2
  exact ⟨rfl, B1.out⟩

theorem make_no (B : Nat) (a : Option Addr) (cap : Nat) (ls : List Int) (lone : Bool) (w : World) (hn : ls.length ≤ 320) (hf : Fit ls) (hA : amiss ls lone ≠ 0) (hi : Ints 0 B w a ls) :
    Calls Tryd.prog 53 #[.slice a ls.length cap, .bool lone] w fun e w' => e = .returned (.tuple #[.pointer none, .int .i64 (amiss ls lone)]) ∧ Below w.heap.size w w' := by
  have hz := zeroM.1
  have HI : Hid _ := infoM ls
  have HF : Hid (Fit ls) := hf
  have HW : ∀ W, Hid (Calls Tryd.prog 64 #[.agg (manyA ls), .bool lone] W fun e w' => e = .returned (.int .i64 (amiss ls lone)) ∧ Below W.heap.size W w') := fun W => weigh_any ls lone W hn
  generalize amiss ls lone = AM at hA HW ⊢
  clear hf
  go_enter Tryd.func53, Tryd.ntmps53
  go_wp2_with (first
    | (go_at_call 63; refine (count_yes B a cap ls _ hn HF.out hi).mono ?_; rintro e w1 ⟨rfl, b1⟩; have B1 : Hid (Below w.heap.size w (w1.alloc (.cells (manyA ls) 99))) := b1.alloc b1.size _; clear b1)
    | (refine wpList_store_row rfl 99 (.tmp 6) (.tmp 13) rfl w1.heap.size (manyA ls) (by rfl) (by rfl) (manyA []) 99 (heap_new _ _) HI.out (by rw [manyA_size, manyA_size]) (manyA_one _) _ (World.setRow_alloc_new _ _ _ _) ?_)
    | (refine wpList_load_row rfl 99 (.tmp 6) rfl w1.heap.size (by rfl) (manyA ls) 99 (0, 0) (heap_new _ _) _ Tryd.underlying99 rfl HI.out ?_)
    | (go_at_call 64; refine (HW _).out.mono ?_; rintro e w2 ⟨rfl, b2⟩; have B2 : Hid (Below w.heap.size w w2) := B1.out.trans (b2.mono B1.out.size); clear b2))
  go_ret2
  exact ⟨rfl, B2.out⟩

theorem rangeAt_alloc {w : World} {b : Nat} {cs : List Value} (h : w.rangeAt b 0 cs) (o : Obj) : (w.alloc o).rangeAt b 0 cs := by
  intro j v hj
  have := h j v hj
  rw [← this]
  exact World.cell?_of_block (w := w) (Below.heap_alloc w _ _ (lt_of_cell this))
theorem rangeAt_of {w : World} {b : Nat} {cs : List Value} {t : TypeId} {fr : Nat × Nat} (h : w.heap[b]? = some (.cells cs.toArray t fr)) : w.rangeAt b 0 cs := by
  intro j v hj
  simp [World.cell?, h, hj]

theorem kept_setRow (w : World) (g : Nat) (c : Array Value) : Kept (fun i => i = g) w (w.setRow g c) := by
  refine ⟨rfl, rfl, rfl, by simp [World.setRow], fun k hk hn => ?_⟩
  simp only [World.setRow]
  rw [Array.getElem?_modify, if_neg (fun e => hn e.symm)]
theorem wpList_copy_kept {P : Program} {w : World} {ops : Array Oper} {rest : List Oper} {o : Oper} {a : Act} {Q : Exit → Act → World → Prop} (hgd : o.guard = none) (d s : Operand) (dT sT : TypeId)
    (ho : o.op = .call { callee := .builtin .copy, args := #[d, s], argTypes := #[dT, sT] }) (elem : TypeId) (hu : P.underlying dT = some (.slice elem)) (hsz : (P.info? elem).map (·.size) = some 1)
    (dp sp : Option Addr) (dLen dCap sLen sCap : Nat) (hd : a.eval d = .slice dp dLen dCap) (hs : a.eval s = .slice sp sLen sCap)
    (g off : Nat) (cur : List Value) (t : TypeId) (hg : w.heap[g]? = some (.cells cur.toArray t (0, 0))) (cs : List Value) (hn : cs.length = Nat.min sLen dLen)
    (hpos : 0 < cs.length → dp = some ⟨g, off, none⟩ ∧ ∃ ad, sp = some ad ∧ ∀ j v, cs[j]? = some v → w.cell? (ad.add j) = some v)
    (hfit : off + cs.length ≤ cur.length) (h1 : ∀ v ∈ cs, v.oneCell' = true)
    (h : ∀ w', Hid (w'.heap[g]? = some (.cells (splice cur off cs).toArray t (0, 0))) → Hid (Kept (fun i => i = g) w w') → wpList P ops Q rest (a.put o.dst (goInt cs.length)) w') :
    wpList P ops Q (o :: rest) a w := by
  by_cases h0 : cs.length = 0
  · obtain rfl : cs = [] := List.eq_nil_of_length_eq_zero h0
    refine wpList_copy_nothing hgd d s dT sT ho elem hu hsz dp sp dLen dCap sLen sCap hd hs (by simpa using hn.symm) ?_
    exact h w (show _ = _ by simpa [splice] using hg) (Kept.refl _ _)
  · obtain ⟨rfl, ad, rfl, hsrc⟩ := hpos (by omega)
    refine wpList_copy_own hgd d s dT sT ho elem hu hsz g off dLen dCap ad sLen sCap hd hs cur.toArray t hg cs hn hsrc (by simpa using hfit) h1 ?_
    exact h _ (show _ = _ by simpa [splice] using setRow_heap w g _ _ t _ hg) (kept_setRow _ _ _)

theorem three_new (w : World) (o1 o2 o3 : Obj) : (((w.alloc o1).alloc o2).alloc o3).heap[w.heap.size]? = some o1 ∧ (((w.alloc o1).alloc o2).alloc o3).heap[w.heap.size + 1]? = some o2 ∧ (((w.alloc o1).alloc o2).alloc o3).heap[w.heap.size + 1 + 1]? = some o3 ∧ Below w.heap.size w (((w.alloc o1).alloc o2).alloc o3) := by
  refine ⟨heap_old (heap_old (heap_new _ _)), heap_old ?_, ?_, ((Below.refl _ w).alloc (Nat.le_refl _) _).alloc (by simp) _ |>.alloc (by simp; omega) _⟩
  · have := heap_new (w.alloc o1) o2
    simpa using this
  · have := heap_new ((w.alloc o1).alloc o2) o3
    simpa using this

theorem make_end {bc gl gc : Nat} {ls : List Int} {w w2 wc w3 w4 : World} {vo : Value} {N : Nat} (hf : Fit ls) (b2 : Below w.heap.size w w2) (bw : Below w2.heap.size w2 wc) (k3 : Kept (fun i => i = gl) wc w3) (hl : w3.heap[gl]? = some (.cells (valA ls) 3 (0, 0)))
    (n1 : gl ≠ bc) (n2 : gl ≠ gc) (l1 : w2.heap.size ≤ bc) (l2 : w2.heap.size ≤ gl) (l3 : w2.heap.size ≤ gc) (h : Num bc gc ls (.slice (some ⟨gl, 0, none⟩) ls.length ls.length) (.slice (some ⟨gc, 0, none⟩) ls.length ls.length) w3 w4 vo 16 0 N) :
    CodeAt w.heap.size w4.heap.size w4 bc gl gc vo N ls ∧ Below w.heap.size w w4 := by
  have hb3 : Below w2.heap.size wc w3 := k3.below bw.size (fun i hi e => by omega)
  have hb4 : Below w2.heap.size w3 w4 := h.kept.below (by have := bw.size; have := k3.size; omega) (fun i hi e => by omega)
  have hb : Below w2.heap.size w2 w4 := (bw.trans hb3).trans hb4
  have s2 := b2.size
  have s3 : w.heap.size ≤ w3.heap.size := by have := bw.size; have := k3.size; omega
  have hl4 := h.kept.heap hl (by rintro (e | e); exact n1 e; exact n2 e)
  refine ⟨⟨h.block, hl4, ?_, ?_, fun g hg => (ownsRow_lt h.owns hg).2, ⟨?_, fun s hs => ?_, h.has⟩, ⟨by omega, lt_of_block h.block⟩, ⟨by omega, lt_of_block hl4⟩, ⟨by omega, lt_of_block h.codes⟩⟩, b2.trans (hb.mono s2)⟩
  · have := h.codes
    rw [cds_end ls hf] at this
    exact this
  · have := h.owns
    have e : ods ls 16 0 = (od ls 15).map (fun (x : Nat) => (x : Int)) := by simp [ods, idx]
    rw [e] at this
    exact this.low s3
  · rcases h.has with e | ⟨s, hs, e⟩
    · omega
    · have := ln_fit hf s; omega
  · refine h.up s hs (.inl ?_)
    have := ln_fit hf s; omega

set_option maxHeartbeats 2000000 in
set_option maxRecDepth 100000 in
theorem make_yes (B : Nat) (a : Option Addr) (cap : Nat) (ls : List Int) (lone : Bool) (w : World) (hn : ls.length ≤ 320) (hf : Fit ls) (hA : amiss ls lone = 0) (hi : Ints 0 B w a ls) :
    Calls Tryd.prog 53 #[.slice a ls.length cap, .bool lone] w fun e w' => ∃ bc gl gc vo N, e = .returned (.tuple #[.pointer (some ⟨bc, 0, none⟩), .int .i64 0]) ∧ CodeAt w.heap.size w'.heap.size w' bc gl gc vo N ls ∧ Below w.heap.size w w' := by
  have hz := zeroM.1
  have HI : Hid _ := infoM ls
  have HF : Hid (Fit ls) := hf
  have HW : ∀ W, Hid (Calls Tryd.prog 64 #[.agg (manyA ls), .bool lone] W fun e w' => e = .returned (.int .i64 0) ∧ Below W.heap.size W w') := fun W => by have := weigh_any ls lone W hn; rw [hA] at this; exact this
  have hws : ws ls 15 ≤ 32768 := by
    unfold amiss at hA
    split at hA
    · simp at hA
    · omega
  obtain ⟨i0, hi0, hz0, hz1', hz2'⟩ := info_parts Tryd.info3
  have hmk := made_ints ls.length i0 hi0 hz0 hz1' hz2' (by omega)
  have hbd := build_code ls
  clear hf hA
  go_enter Tryd.func53, Tryd.ntmps53
  go_upto_region 7 with (first
    | (go_at_call 63; refine (count_yes B a cap ls _ hn HF.out hi).mono ?_; rintro e w1 ⟨rfl, b1⟩; have B1 : Hid (Below w.heap.size w w1) := b1; clear b1)
    | (refine wpList_store_row rfl 99 (.tmp 6) (.tmp 13) rfl w1.heap.size (manyA ls) (by rfl) (by rfl) (manyA []) 99 (heap_new _ _) HI.out (by rw [manyA_size, manyA_size]) (manyA_one _) _ (World.setRow_alloc_new _ _ _ _) ?_)
    | (refine wpList_load_row rfl 99 (.tmp 6) rfl w1.heap.size (by rfl) (manyA ls) 99 (0, 0) (heap_new _ _) _ Tryd.underlying99 rfl HI.out ?_)
    | (go_at_call 64; refine (HW _).out.mono ?_; rintro e w2 ⟨rfl, b2⟩; have B2 : Hid (Below w.heap.size w w2) := (B1.out.alloc B1.out.size _).trans (b2.mono (by have := B1.out.size; simp; omega)); have hm2 : w2.heap[w1.heap.size]? = some (.cells (manyL ls).toArray 99 (0, 0)) := (b2.block w1.heap.size (by simp)).trans (heap_new _ _); clear b2))
  have R2 : Hid (w2.rangeAt w1.heap.size 0 (manyL ls)) := rangeAt_of hm2
  have hu := Tryd.underlying99
  have hil : (Tryd.prog.info? 99).map (·.size) = some (manyL ls).length := by have := HI.out; simpa [manyA] using this
  clear hm2
  go_cut [9] (fun v9 wx => ∃ bc gl gc, v9 = .pointer (some ⟨bc, 0, none⟩) ∧ wx.heap[bc]? = some (.cells (codeA ls (.slice none 0 0) (.slice (some ⟨gl, 0, none⟩) ls.length ls.length) (.slice (some ⟨gc, 0, none⟩) ls.length ls.length) 0) 104 (0, 0)) ∧ wx.heap[gl]? = some (.cells (valA (List.replicate ls.length 0)) 3 (0, 0)) ∧ wx.heap[gc]? = some (.cells (valA (List.replicate ls.length 0)) 3 (0, 0)) ∧ gl ≠ bc ∧ gl ≠ gc ∧ bc ≠ gc ∧ w2.heap.size ≤ bc ∧ w2.heap.size ≤ gl ∧ w2.heap.size ≤ gc ∧ Below w2.heap.size w2 wx)
  case first =>
    have hr2 := R2.out
    obtain ⟨RA, hRA⟩ : ∃ RA, RA = valA (List.replicate ls.length 0) := ⟨_, rfl⟩
    rw [← hRA] at hmk
    have HRA : Hid (RA = valA (List.replicate ls.length 0)) := hRA
    have HCA : Hid (∀ va vb, codeA ls (.slice none 0 0) va vb 0 = (manyL ls).toArray ++ #[.slice none 0 0, va, vb, .int .i64 0]) := fun _ _ => rfl
    obtain ⟨ML, hML⟩ : ∃ ML, ML = manyL ls := ⟨_, rfl⟩
    rw [← hML] at hr2 hil HCA
    obtain ⟨x0, x1, x2, x3, x4, x5, x6, x7, x8, x9, x10, x11, x12, x13, x14, x15, hx⟩ : ∃ x0 x1 x2 x3 x4 x5 x6 x7 x8 x9 x10 x11 x12 x13 x14 x15 : Int, ML = [.int .i64 x0, .int .i64 x1, .int .i64 x2, .int .i64 x3, .int .i64 x4, .int .i64 x5, .int .i64 x6, .int .i64 x7, .int .i64 x8, .int .i64 x9, .int .i64 x10, .int .i64 x11, .int .i64 x12, .int .i64 x13, .int .i64 x14, .int .i64 x15] := ⟨_, _, _, _, _, _, _, _, _, _, _, _, _, _, _, _, hML⟩
    subst hx
    clear hz hRA hbd hML
    go_region_held3 (fun w' => w'.rangeAt w1.heap.size 0 [.int .i64 x0, .int .i64 x1, .int .i64 x2, .int .i64 x3, .int .i64 x4, .int .i64 x5, .int .i64 x6, .int .i64 x7, .int .i64 x8, .int .i64 x9, .int .i64 x10, .int .i64 x11, .int .i64 x12, .int .i64 x13, .int .i64 x14, .int .i64 x15]) (first | assumption | exact rangeAt_alloc (by assumption) _) (fail)
    all_goals (go_wp2_with fail)
    all_goals go_meet
    · obtain ⟨n1, n2, n3, nb⟩ := three_new w2 (.cells RA 3) (.cells RA 3) (.cells _ 104)
      exact ⟨w2.heap.size + 1 + 1, w2.heap.size, w2.heap.size + 1, rfl, by rw [HCA.out]; exact n3, by rw [← HRA.out]; exact n1, by rw [← HRA.out]; exact n2, by omega, by omega, by omega, by omega, by omega, by omega, nb.drew⟩
    · obtain ⟨n1, n2, n3, nb⟩ := three_new w2 (.cells RA 3) (.cells RA 3) (.cells _ 104)
      exact ⟨w2.heap.size + 1 + 1, w2.heap.size + 1, w2.heap.size, rfl, by rw [HCA.out]; exact n3, by rw [← HRA.out]; exact n2, by rw [← HRA.out]; exact n1, by omega, by omega, by omega, by omega, by omega, by omega, nb.drew⟩
  case rest =>
    obtain ⟨bc, gl, gc, rfl, hb, hl, hg, n1, n2, n3, l1, l2, l3, hbel⟩ := hcut
    have c17 := cells_of hb 17
    rw [codeA_17] at c17
    obtain ⟨CS, hCS⟩ : ∃ CS : List Value, CS = ls.map (Value.int .i64) := ⟨_, rfl⟩
    have hcl : CS.length = ls.length := by rw [hCS]; simp
    have hsz1 : (Tryd.prog.info? 3).map (fun x => x.size) = some 1 := by rw [hi0]; simp [hz1']
    have HO : Hid (∀ u ∈ CS, u.oneCell' = true) := by intro u hu; rw [hCS] at hu; simp at hu; obtain ⟨x, _, rfl⟩ := hu; rfl
    have hbw : Below w.heap.size w wc := B2.out.trans (hbel.mono B2.out.size)
    have hi' := hi.stay hbw
    have HP : Hid (0 < CS.length → some (⟨gl, 0, none⟩ : Addr) = some ⟨gl, 0, none⟩ ∧ ∃ ad, a = some ad ∧ ∀ j u, CS[j]? = some u → wc.cell? (ad.add j) = some u) := by
      intro hp
      rw [hCS]
      exact ⟨rfl, hi'.src (by omega)⟩
    obtain ⟨ZS, hZS⟩ : ∃ ZS : List Value, ZS = (List.replicate ls.length (0 : Int)).map (Value.int .i64) := ⟨_, rfl⟩
    have hzl : ZS.length = ls.length := by rw [hZS]; simp
    have hl' : wc.heap[gl]? = some (.cells ZS.toArray 3 (0, 0)) := by rw [hZS]; exact hl
    have HL : Hid (wc.heap[gl]? = some (.cells ZS.toArray 3 (0, 0))) := hl'
    have HC : Hid (CS = ls.map (Value.int .i64)) := hCS
    have HB : Hid (wc.heap[bc]? = some (.cells (codeA ls (.slice none 0 0) (.slice (some ⟨gl, 0, none⟩) ls.length ls.length) (.slice (some ⟨gc, 0, none⟩) ls.length ls.length) 0) 104 (0, 0))) := hb
    have HG : Hid (wc.heap[gc]? = some (.cells (valA (List.replicate ls.length 0)) 3 (0, 0))) := hg
    have HK : Hid (Kept (fun i => i = gl) wc wc) := Kept.refl _ _
    have HBW : Hid (Below w2.heap.size w2 wc) := hbel
    clear hCS hi' hZS hl hl' hb hg hbd hmk hz R2
    go_wp2_with (first
      | (refine wpList_copy_kept rfl (.tmp 35) (.tmp 36) 43 43 rfl 3 Tryd.underlying43 hsz1 _ _ _ _ _ _ (by rfl) (by rfl) gl 0 ZS 3 HL.out CS (by rw [hcl]; exact (Nat.min_self _).symm) (fun hp => ⟨rfl, (HP.out hp).2⟩) (by omega) HO.out ?_; intro w3 HG2 HK3; have HB3 : Hid _ := HK3.out.heap HB.out (Ne.symm n1); have HG3 : Hid _ := HK3.out.heap HG.out (Ne.symm n2); have HL3 : Hid (w3.heap[gl]? = some (.cells (valA ls) 3 (0, 0))) := by (have := HG2.out; rw [splice_all _ _ (by omega), HC.out] at this; exact this))
      | (go_at_call 65; refine (number_any bc gc gl ls.length ls.length ls w3 hn hws HB3.out HG3.out HL3.out n1 n2 n3).mono ?_; rintro e w4 ⟨rfl, vo, N, hnum⟩))
    go_ret2
    obtain ⟨q1, q2⟩ := make_end HF.out B2.out HBW.out HK3.out HL3.out n1 n2 l1 l2 l3 hnum
    exact ⟨bc, gl, gc, vo, N, rfl, q1, q2⟩

/-- What is amiss with lengths. -/
def check (ls : List Int) (lone : Bool) : Int := if 320 < ls.length ∨ ¬ (∀ x ∈ ls, 0 ≤ x ∧ x ≤ 15) then 1 else amiss ls lone
theorem check_bad {ls : List Int} {lone : Bool} (h : 320 < ls.length ∨ ¬ Fit ls) : check ls lone = 1 := if_pos h
theorem check_fit {ls : List Int} {lone : Bool} (h : ls.length ≤ 320) (hf : Fit ls) : check ls lone = amiss ls lone := if_neg (by rintro (h1 | h1); omega; exact h1 hf)
theorem check_ok {ls : List Int} {lone : Bool} (h : check ls lone = 0) : ls.length ≤ 320 ∧ Fit ls ∧ amiss ls lone = 0 := by
  by_cases hb : 320 < ls.length ∨ ¬ Fit ls
  · rw [check_bad hb] at h; simp at h
  · have h1 : ls.length ≤ 320 := by omega
    have h2 : Fit ls := Classical.byContradiction fun h' => hb (.inr h')
    exact ⟨h1, h2, by rw [← check_fit h1 h2]; exact h⟩
theorem check_good {ls : List Int} {lone : Bool} (h : check ls lone = 0) : Good ls := by
  obtain ⟨h1, h2, h3⟩ := check_ok h
  unfold amiss at h3
  split at h3
  · simp at h3
  · rename_i hw
    split at h3
    · simp at h3
    · rename_i hl
      refine ⟨h2, by omega, ?_⟩
      by_cases he : ws ls 15 = 32768
      · exact .inl he
      · right
        have hlo : loneB ls = true := by
          by_cases hq : lone = true ∧ loneB ls = true
          · exact hq.2
          · exact absurd ⟨by omega, hq⟩ hl
        intro s hs
        have hb := ln_fit h2 s
        by_cases hx : ln ls s ≤ 1
        · exact hx
        · exfalso
          have e : ((ln ls s).toNat : Int) = ln ls s := Int.toNat_of_nonneg (by omega)
          have hr := rk_lt hs (by omega)
          have m1 : sh ls 1 ≤ sh ls ((ln ls s).toNat - 1) := sh_mono ls (by omega)
          have m2 : sh ls (ln ls s).toNat ≤ sh ls 15 := sh_mono ls (by omega)
          have m3 : sh ls (ln ls s).toNat = sh ls ((ln ls s).toNat - 1) + ct ls (ln ls s).toNat := by
            obtain ⟨m, hm⟩ : ∃ m, (ln ls s).toNat = m + 1 := ⟨(ln ls s).toNat - 1, by omega⟩
            rw [hm]; rfl
          have m4 : sh ls 1 = ct ls 1 := by simp [sh]
          simp [loneB] at hlo
          omega

theorem make_err (B : Nat) (a : Option Addr) (cap : Nat) (ls : List Int) (lone : Bool) (w : World) (hc : check ls lone ≠ 0) (hi : Ints 0 B w a ls) :
    Calls Tryd.prog 53 #[.slice a ls.length cap, .bool lone] w fun e w' => e = .returned (.tuple #[.pointer none, .int .i64 (check ls lone)]) ∧ Below w.heap.size w w' := by
  by_cases hb : 320 < ls.length ∨ ¬ Fit ls
  · rw [check_bad hb]; exact make_bad B a cap ls lone w hb hi
  · have h1 : ls.length ≤ 320 := by omega
    have h2 : Fit ls := Classical.byContradiction fun h' => hb (.inr h')
    rw [check_fit h1 h2] at hc ⊢
    exact make_no B a cap ls lone w h1 h2 hc hi
theorem make_ok (B : Nat) (a : Option Addr) (cap : Nat) (ls : List Int) (lone : Bool) (w : World) (hc : check ls lone = 0) (hi : Ints 0 B w a ls) :
    Calls Tryd.prog 53 #[.slice a ls.length cap, .bool lone] w fun e w' => ∃ bc gl gc vo N, e = .returned (.tuple #[.pointer (some ⟨bc, 0, none⟩), .int .i64 0]) ∧ CodeAt w.heap.size w'.heap.size w' bc gl gc vo N ls ∧ Below w.heap.size w w' := by
  obtain ⟨h1, h2, h3⟩ := check_ok hc
  exact make_yes B a cap ls lone w h1 h2 h3 hi

end Go.Proofs.YtibolmgijaploaaDoor

/- The reference's many, Check and Same: contracts. -/
namespace Go.Proofs.YtibolmgijaploaaDoor
set_option maxRecDepth 100000
open Go Go.RowKit

/-- How many lengths are above 0. -/
def pos (ls : List Int) : Nat := ls.countP (fun x => decide (0 < x))
theorem pos_cons (x : Int) (r : List Int) : pos (x :: r) = (if 0 < x then 1 else 0) + pos r := by
  unfold pos
  by_cases h : 0 < x <;> simp [h]; omega
theorem sh_cons (x : Int) (r : List Int) (hx : 0 ≤ x ∧ x ≤ 15) : sh (x :: r) 15 = (if 0 < x then 1 else 0) + sh r 15 := by
  obtain ⟨n, rfl⟩ := Int.eq_ofNat_of_zero_le hx.1
  have hn : n ≤ 15 := by omega
  have e : ∀ m : Nat, ct ((n : Int) :: r) (m + 1) = ct r (m + 1) + if n = m + 1 then 1 else 0 := by
    intro m
    simp only [ct, List.count_cons]
    by_cases h : n = m + 1
    · subst h; simp
    · have : ¬ (n : Int) = (m : Int) + 1 := by omega
      simp [h, this]
  simp only [sh, e]
  rcases (show n = 0 ∨ n = 1 ∨ n = 2 ∨ n = 3 ∨ n = 4 ∨ n = 5 ∨ n = 6 ∨ n = 7 ∨ n = 8 ∨ n = 9 ∨ n = 10 ∨ n = 11 ∨ n = 12 ∨ n = 13 ∨ n = 14 ∨ n = 15 by omega) with h | h | h | h | h | h | h | h | h | h | h | h | h | h | h | h <;> subst h <;> simp <;> omega
theorem pos_sh (ls : List Int) (h : Fit ls) : pos ls = sh ls 15 := by
  induction ls with
  | nil => rfl
  | cons x r ih => rw [pos_cons, sh_cons x r (h x (by simp)), ih (fun y hy => h y (by simp [hy]))]
theorem pos_succ (ls : List Int) (k : Nat) (h : k < ls.length) : pos (ls.take (k + 1)) = pos (ls.take k) + if 0 < ln ls k then 1 else 0 := by
  have e : ln ls k = ls[k] := by simp [ln, List.getD, h]
  rw [List.take_succ_eq_append_getElem h, pos, pos, List.countP_append, e]
  by_cases hx : 0 < ls[k] <;> simp [hx]
theorem pos_le (ls : List Int) : pos ls ≤ ls.length := List.countP_le_length

theorem many0_c (B : Nat) (a : Option Addr) (cap : Nat) (ls : List Int) (w : World) (hn : ls.length ≤ 320) (hi : Ints 0 B w a ls) :
    Calls Tryd.prog 60 #[.slice a ls.length cap, .int .i64 0] w fun e w' => e = .returned (.int .i64 (pos ls : Int)) ∧ w' = w := by
  go_enter Tryd.func60, Tryd.ntmps60
  go_wp2
  go_loop [5, 6] (fun s i => ∃ k : Nat, k ≤ ls.length ∧ i = .int .i64 k ∧ s = .int .i64 (pos (ls.take k) : Int)) (fun _ i => ls.length - (intOf i).toNat)
  case atStart => exact ⟨0, by omega, rfl, rfl⟩
  case round =>
    obtain ⟨k, hk, rfl, rfl⟩ := hrel
    have hp : pos (ls.take k) ≤ 320 := by have := pos_le (ls.take k); simp at this; omega
    by_cases hlt : k < ls.length
    · obtain ⟨b, off, _, _, hb, rfl, hcell⟩ := hi.resolve_left (by omega)
      have hc := hcell k hlt
      have HS : Hid (pos (ls.take (k + 1)) = pos (ls.take k) + if 0 < ln ls k then 1 else 0) := pos_succ ls k hlt
      clear hcell hi
      generalize ln ls k = X at hc HS
      generalize pos (ls.take k) = P at hp HS ⊢
      by_cases hx : 0 < X
      · go_wp2
        go_round
        case rel => exact ⟨k + 1, by omega, by go_num, by rw [HS.out, if_pos hx]; go_num⟩
        case measure => simp [intOf]; omega
      · go_wp2
        go_round
        case rel => exact ⟨k + 1, by omega, by go_num, by rw [HS.out, if_neg hx]; go_num⟩
        case measure => simp [intOf]; omega
    · obtain rfl : k = ls.length := by omega
      go_wp2
      go_ret
      exact ⟨ret_int rfl, rfl⟩

theorem many1_c (B : Nat) (a : Option Addr) (cap : Nat) (ls : List Int) (w : World) (hn : ls.length ≤ 320) (hi : Ints 0 B w a ls) :
    Calls Tryd.prog 60 #[.slice a ls.length cap, .int .i64 1] w fun e w' => e = .returned (.int .i64 (ct ls 1 : Int)) ∧ w' = w := by
  have HC : Hid (ct ls 1 = ls.count 1) := rfl
  generalize ct ls 1 = C at HC ⊢
  go_enter Tryd.func60, Tryd.ntmps60
  go_wp2
  go_loop [5, 6] (fun s i => ∃ k : Nat, k ≤ ls.length ∧ i = .int .i64 k ∧ s = .int .i64 ((ls.take k).count 1 : Nat)) (fun _ i => ls.length - (intOf i).toNat)
  case atStart => exact ⟨0, by omega, rfl, rfl⟩
  case round =>
    obtain ⟨k, hk, rfl, rfl⟩ := hrel
    have hp : (ls.take k).count 1 ≤ 320 := by have := take_count_le ls k 1; have := List.count_le_length (a := 1) (l := ls); omega
    by_cases hlt : k < ls.length
    · obtain ⟨b, off, _, _, hb, rfl, hcell⟩ := hi.resolve_left (by omega)
      have hc := hcell k hlt
      have HS : Hid ((ls.take (k + 1)).count 1 = (ls.take k).count 1 + if ln ls k = 1 then 1 else 0) := take_count_succ ls k 1 hlt
      clear hcell hi
      generalize ln ls k = X at hc HS
      generalize (ls.take k).count 1 = P at hp HS ⊢
      by_cases hx : X = 1
      · have HS' : Hid ((ls.take (k + 1)).count 1 = P + 1) := by have := HS.out; rw [if_pos hx] at this; exact this
        subst hx
        go_wp2
        go_round
        case rel => exact ⟨k + 1, by omega, by go_num, by rw [HS'.out]; go_num⟩
        case measure => simp [intOf]; omega
      · have HS' : Hid ((ls.take (k + 1)).count 1 = P) := by have := HS.out; rw [if_neg hx] at this; exact this
        by_cases h0 : 0 < X
        all_goals
          go_wp2
          go_round
          case rel => exact ⟨k + 1, by omega, by go_num, by rw [HS'.out]⟩
          case measure => simp [intOf]; omega
    · obtain rfl : k = ls.length := by omega
      go_wp2
      go_ret
      exact ⟨ret_int (by rw [HC.out]), rfl⟩

theorem wt_append (a b : List Int) : wt (a ++ b) = wt a + wt b := by
  induction a with
  | nil => simp [wt]
  | cons x r ih => rw [List.cons_append, wt, ih, wt]; omega
theorem wt_succ (ls : List Int) (k : Nat) (h : k < ls.length) : wt (ls.take (k + 1)) = wt (ls.take k) + if ln ls k = 0 then 0 else 2 ^ (15 - (ln ls k).toNat) := by
  have e : ln ls k = ls[k] := by simp [ln, List.getD, h]
  rw [List.take_succ_eq_append_getElem h, wt_append, e]
  simp [wt]
theorem wt_le (ls : List Int) : wt ls ≤ ls.length * 32768 := by
  induction ls with
  | nil => simp [wt]
  | cons x r ih =>
    rw [wt, List.length_cons]
    have p : 2 ^ (15 - x.toNat) ≤ 2 ^ 15 := Nat.pow_le_pow_right (by decide) (by omega)
    split <;> omega
theorem shr_pow (x : Nat) (h : x ≤ 15) : (32768 : Int) / 2 ^ x = ((2 ^ (15 - x) : Nat) : Int) := by
  have e : (32768 : Nat) = 2 ^ (15 - x) * 2 ^ x := by rw [← Nat.pow_add, show 15 - x + x = 15 by omega]
  have : (32768 : Nat) / 2 ^ x = 2 ^ (15 - x) := by rw [e, Nat.mul_div_cancel _ (Nat.two_pow_pos x)]
  rw [← this, Int.natCast_ediv, Int.natCast_pow]; rfl
theorem amiss_wt (ls : List Int) (lone : Bool) (hf : Fit ls) : amiss ls lone = if 32768 < wt ls then 40 else if wt ls < 32768 ∧ ¬ (lone = true ∧ loneB ls = true) then 41 else 0 := by
  unfold amiss; rw [ws_wt ls hf]
theorem loneB_pos (ls : List Int) (hf : Fit ls) : loneB ls = (((pos ls : Int) == 0) || (((pos ls : Int) == 1) && ((ct ls 1 : Int) == 1))) := by
  unfold loneB; rw [pos_sh ls hf, Bool.eq_iff_iff]; simp; omega

set_option maxHeartbeats 1000000 in
set_option maxRecDepth 100000 in
theorem check_c (B : Nat) (a : Option Addr) (cap : Nat) (ls : List Int) (lone : Bool) (w : World) (hi : Ints 0 B w a ls) :
    Calls Tryd.prog 48 #[.slice a ls.length cap, .bool lone] w fun e w' => e = .returned (.int .i64 (check ls lone)) ∧ w' = w := by
  by_cases h3 : 320 < ls.length
  · rw [check_bad (.inl h3)]
    go_enter Tryd.func48, Tryd.ntmps48
    go_wp2
    go_ret
    exact ⟨rfl, rfl⟩
  · have h3' : ls.length ≤ 320 := by omega
    obtain ⟨CK, hCK⟩ : ∃ CK, CK = check ls lone := ⟨_, rfl⟩
    rw [← hCK]
    have HCK : Hid (CK = check ls lone) := hCK
    have HI : Hid (Ints 0 B w a ls) := hi
    clear h3 hCK
    go_enter Tryd.func48, Tryd.ntmps48
    go_wp2
    go_loop [5, 6] (fun s i => ∃ k : Nat, k ≤ ls.length ∧ i = .int .i64 k ∧ (∀ j, j < k → 0 ≤ ln ls j ∧ ln ls j ≤ 15) ∧ s = .int .i64 (wt (ls.take k) : Int)) (fun _ i => ls.length - (intOf i).toNat)
    case atStart => exact ⟨0, by omega, rfl, fun j h => absurd h (by omega), rfl⟩
    case round =>
      obtain ⟨k, hk, rfl, hso, rfl⟩ := hrel
      have hp : wt (ls.take k) ≤ 10485760 := by have := wt_le (ls.take k); simp at this; omega
      by_cases hlt : k < ls.length
      · obtain ⟨b, off, _, _, hb, rfl, hcell⟩ := hi.resolve_left (by omega)
        have hc := hcell k hlt
        have HS : Hid (wt (ls.take (k + 1)) = wt (ls.take k) + if ln ls k = 0 then 0 else 2 ^ (15 - (ln ls k).toNat)) := wt_succ ls k hlt
        have HSO : Hid (∀ j, j < k → 0 ≤ ln ls j ∧ ln ls j ≤ 15) := hso
        clear hcell hi hso
        generalize wt (ls.take k) = P at hp HS ⊢
        obtain ⟨X, hX⟩ : ∃ X, X = ln ls k := ⟨_, rfl⟩
        rw [← hX] at hc HS
        have HX : Hid (X = ln ls k) := hX
        clear hX
        by_cases hx0 : X < 0
        · have hbad : CK = 1 := by
            rw [HCK.out]; refine check_bad (.inr fun hf => ?_)
            have := ln_fit hf k; rw [← HX.out] at this; omega
          subst hbad
          go_wp2
          go_ret
          exact ⟨rfl, rfl⟩
        · by_cases hx1 : 15 < X
          · have hbad : CK = 1 := by
              rw [HCK.out]; refine check_bad (.inr fun hf => ?_)
              have := ln_fit hf k; rw [← HX.out] at this; omega
            subst hbad
            go_wp2
            go_ret
            exact ⟨rfl, rfl⟩
          · have hnew : Hid (∀ j, j < k + 1 → 0 ≤ ln ls j ∧ ln ls j ≤ 15) := fun j hj => by
              by_cases e : j = k
              · subst e; rw [← HX.out]; omega
              · exact HSO.out j (by omega)
            obtain ⟨x, rfl⟩ := Int.eq_ofNat_of_zero_le (show 0 ≤ X by omega)
            by_cases hz : 0 < x
            · have hsp := shr_pow x (by omega)
              have hq : 2 ^ (15 - x) ≤ 2 ^ 15 := Nat.pow_le_pow_right (by decide) (by omega)
              have HS' : Hid (wt (ls.take (k + 1)) = P + 2 ^ (15 - x)) := by have := HS.out; rw [if_neg (by omega), Int.toNat_natCast] at this; exact this
              generalize 2 ^ (15 - x) = Q at hsp hq HS'
              have hq' : (Q : Int) ≤ 32768 := by omega
              clear hq
              go_wp2
              go_round
              case rel => exact ⟨k + 1, by omega, by go_num, hnew.out, by rw [HS'.out]; go_num⟩
              case measure => simp [intOf]; omega
            · obtain rfl : x = 0 := by omega
              have HS' : Hid (wt (ls.take (k + 1)) = P) := by have := HS.out; simp at this; exact this
              go_wp2
              go_round
              case rel => exact ⟨k + 1, by omega, by go_num, hnew.out, by rw [HS'.out]⟩
              case measure => simp [intOf]; omega
      · obtain rfl : k = ls.length := by omega
        rw [List.take_length] at hp ⊢
        have hf : Fit ls := by
          intro x hx
          obtain ⟨j, hj, rfl⟩ := List.getElem_of_mem hx
          have := hso j hj
          simpa [ln, List.getD, hj] using this
        have HA : Hid (CK = if 32768 < wt ls then 40 else if wt ls < 32768 ∧ ¬ (lone = true ∧ loneB ls = true) then 41 else 0) := by
          have := HCK.out; rw [check_fit h3' hf, amiss_wt ls lone hf] at this; exact this
        have HL : Hid (loneB ls = (((pos ls : Int) == 0) || (((pos ls : Int) == 1) && ((ct ls 1 : Int) == 1)))) := loneB_pos ls hf
        obtain ⟨mz, hmz⟩ : ∃ mz : Int → Nat, mz = fun n => if n = 0 then pos ls else ct ls 1 := ⟨_, rfl⟩
        have MM : ∀ W n, (n = 0 ∨ n = 1) → W = w → Hid (Calls Tryd.prog 60 #[.slice a ls.length cap, .int .i64 n] W fun e w' => e = .returned (.int .i64 (mz n : Int)) ∧ w' = W) := fun W n hn hW => by
          subst hW
          rcases hn with rfl | rfl
          · have := many0_c B a cap ls W h3' HI.out
            rw [hmz]; exact this
          · have := many1_c B a cap ls W h3' HI.out
            rw [hmz]; exact this
        have z0 : mz 0 = pos ls := by rw [hmz]; rfl
        have z1 : mz 1 = ct ls 1 := by rw [hmz]; rfl
        clear hmz
        clear hso HCK hf hi
        have hLB : ∀ b, loneB ls = b → CK = if 32768 < wt ls then 40 else if wt ls < 32768 ∧ ¬ (lone = true ∧ b = true) then 41 else 0 := fun b hb => by rw [← hb]; exact HA.out
        clear HA
        have HLB : Hid _ := hLB
        clear hLB
        have hpl := pos_le ls
        have hcl := ct_le ls 1
        generalize pos ls = P at HL z0 hpl
        generalize ct ls 1 = C at HL z1 hcl
        generalize loneB ls = LB at HL HLB
        generalize wt ls = S at HLB hp ⊢
        by_cases hgt : 32768 < S
        · have : CK = 40 := by rw [HLB.out LB rfl, if_pos hgt]
          subst this
          have hgt' : 32768 < (S : Int) := by omega
          clear hgt HLB
          generalize (S : Int) = T at hgt' ⊢
          go_wp2
          go_ret
          exact ⟨rfl, rfl⟩
        · have hle' : (S : Int) ≤ 32768 := by omega
          have HC : Hid (CK = if (S : Int) < 32768 ∧ ¬ (lone = true ∧ LB = true) then 41 else 0) := by
            have := HLB.out LB rfl
            rw [if_neg hgt] at this
            rw [this]
            congr 1
            exact propext ⟨fun h => ⟨by omega, h.2⟩, fun h => ⟨by omega, h.2⟩⟩
          clear hgt HLB hp
          generalize (S : Int) = T at hle' HC ⊢
          go_upto_region 13 with fail
          go_cut [7] (fun v7 wx => v7 = .bool LB ∧ wx = w)
          case first =>
            have hLB := HL.out
            clear HL HC
            rcases P with _ | _ | P
            · have hh : LB = true := by rw [hLB]; simp
              subst hh
              clear hLB
              go_wp2_with (go_at_call 60; refine (MM _ _ (by simp) rfl).out.mono ?_; rintro e w1 ⟨rfl, rfl⟩)
              go_meet
              case rel => exact ⟨rfl, rfl⟩
            · have hh : LB = ((C : Int) == 1) := by rw [hLB]; simp
              subst hh
              clear hLB
              go_wp2_with (go_at_call 60; refine (MM _ _ (by simp) rfl).out.mono ?_; rintro e w1 ⟨rfl, rfl⟩)
              go_meet
              case rel => exact ⟨rfl, rfl⟩
            · have q0 : (((P + 1 + 1 : Nat) : Int) == 0) = false := by simp; omega
              have q1 : (((P + 1 + 1 : Nat) : Int) == 1) = false := by simp; omega
              have hh : LB = false := by rw [hLB, q0, q1]; rfl
              subst hh
              clear hLB
              have z0' : (mz 0 : Int) = ((P + 1 + 1 : Nat) : Int) := by rw [z0]
              clear z0
              generalize ((P + 1 + 1 : Nat) : Int) = T2 at q0 q1 z0'
              have q0' : ¬ T2 = 0 := by simpa using q0
              have q1' : ¬ T2 = 1 := by simpa using q1
              go_wp2_with (go_at_call 60; refine (MM _ _ (by simp) rfl).out.mono ?_; rintro e w1 ⟨rfl, rfl⟩)
              go_meet
              case rel => exact ⟨by simp, rfl⟩
          case rest =>
            obtain ⟨rfl, rfl⟩ := hcut
            have hCK := HC.out
            clear HC HL
            by_cases hlt' : T < 32768
            · cases lone <;> cases LB
              all_goals
                simp [hlt'] at hCK
                subst hCK
                go_wp2
                go_ret
                exact ⟨rfl, rfl⟩
            · have hge : 32768 ≤ T := by omega
              rw [if_neg (by rintro ⟨h1, _⟩; exact hlt' h1)] at hCK
              subst hCK
              go_wp2
              go_ret
              exact ⟨rfl, rfl⟩
end Go.Proofs.YtibolmgijaploaaDoor
