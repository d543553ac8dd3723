/- huff's lay and Put: contracts. -/
import Derived.Test.YtoeebdjmedkldaaHBits
import Derived.Test.YtoeebdjmedkldaaWrite
namespace Go.Proofs.Ytoeebdjmedkldaa
open Go Go.RowKit

/-- A code, turned round, has its own bits, the highest first. -/
theorem turn_row (c n : Nat) : bitsN (turnI (c : Int) n) n = rowL c n := by
  apply List.ext_getElem?
  intro j
  by_cases h : j < n
  · have h1 : j < (bitsN (turnI (c : Int) n) n).length := by rw [bitsN_length]; exact h
    have h2 : j < (rowL c n).length := by rw [rowL_length]; exact h
    have e1 := bitsN_getD (turnI (c : Int) n) n j
    have e2 := rowL_at c n h
    rw [if_pos h, turn_bit _ n j h] at e1
    unfold ln at e2
    rw [List.getElem?_eq_getElem h1, List.getElem?_eq_getElem h2]
    simp only [List.getD, List.getElem?_eq_getElem h1, Option.getD_some] at e1
    simp only [List.getD, List.getElem?_eq_getElem h2, Option.getD_some] at e2
    rw [e1, e2]
    unfold bitC
    push_cast; rfl
  · rw [List.getElem?_eq_none (by rw [bitsN_length]; omega), List.getElem?_eq_none (by rw [rowL_length]; omega)]

theorem lay_c (base bw : Nat) (v : Value) (bs : List Int) (t : Int) (m c n : Nat) (w : World) (h : Wr base bw w v bs t m) (hn : n ≤ 15) (hb : bs.length ≤ 1000000000) (hbase : base ≤ w.heap.size) :
    Calls Try.prog 32 #[.func (.func 33) #[.pointer (some ⟨bw, 0, none⟩)] #[], .int .i64 (c : Int), .int .i64 (n : Int)] w fun e w' => e = .returned (.tuple #[]) ∧ ∃ v' bs' t' m', Wr base bw w' v' bs' t' m' ∧ rowOf bs' ++ bitsN t' m' = rowOf bs ++ bitsN t m ++ rowL c n ∧ Kept (fun k => k = bw ∨ v.ownBlock = some k) w w' ∧ (v'.ownBlock = v.ownBlock ∨ ∀ g, v'.ownBlock = some g → w.heap.size ≤ g) := by
  have HW : Hid (Wr base bw w v bs t m) := h
  have HT := turn_yes (c : Int) (n : Int) w (by omega) (by omega)
  rw [Int.toNat_natCast] at HT
  have HB := wbits_yes base bw v bs t m (turnI (c : Int) n) n w h (by omega) (by omega) hbase
  rw [turn_row] at HB
  generalize turnI (c : Int) n = X at HT HB
  have HTT : Hid (Calls Try.prog 38 #[.int .i64 (c : Int), .int .i64 (n : Int)] w fun e w' => e = .returned (.int .i64 X) ∧ w' = w) := HT
  have HBB : Hid (Calls Try.prog 33 #[.pointer (some ⟨bw, 0, none⟩), .int .i64 X, .int .i64 (n : Int)] w fun e w' => e = .returned (.tuple #[]) ∧ ∃ v' bs' t' m', Wr base bw w' v' bs' t' m' ∧ rowOf bs' ++ bitsN t' m' = rowOf bs ++ bitsN t m ++ rowL c n ∧ Kept (fun k => k = bw ∨ v.ownBlock = some k) w w' ∧ (v'.ownBlock = v.ownBlock ∨ ∀ g, v'.ownBlock = some g → w.heap.size ≤ g)) := HB
  clear h HT HB
  go_enter Try.func32, Try.ntmps32
  go_wp2_with (first
    | (go_at_call 38; refine HTT.out.mono ?_; rintro e w1 ⟨rfl, hw1⟩; obtain rfl : w = w1 := hw1.symm)
    | (go_at_call 33; refine HBB.out.mono ?_; rintro e w2 ⟨rfl, h2⟩; have H2 : Hid (∃ v' bs' t' m', Wr base bw w2 v' bs' t' m' ∧ rowOf bs' ++ bitsN t' m' = rowOf bs ++ bitsN t m ++ rowL c n ∧ Kept (fun k => k = bw ∨ v.ownBlock = some k) w w2 ∧ (v'.ownBlock = v.ownBlock ∨ ∀ g, v'.ownBlock = some g → w.heap.size ≤ g)) := h2; clear h2))
  go_end0
  exact ⟨rfl, H2.out⟩

theorem put_no (lo hi bc gl gc bw : Nat) (vo : Value) (N : Nat) (ls : List Int) (x : Int) (w : World) (hc : CodeAt lo hi w bc gl gc vo N ls) (hx : x < 0 ∨ (ls.length : Int) ≤ x ∨ ln ls x.toNat = 0) :
    Calls Try.prog 20 #[.pointer (some ⟨bc, 0, none⟩), .pointer (some ⟨bw, 0, none⟩), .int .i64 x] w fun e w' => e = .returned (.bool false) ∧ w' = w := by
  have c17 := cells_of hc.block 17
  rw [codeA_17] at c17
  by_cases h0 : x < 0
  · go_enter Try.func20, Try.ntmps20
    go_wp2
    go_ret
    exact ⟨rfl, rfl⟩
  · by_cases h1 : (ls.length : Int) ≤ x
    · go_enter Try.func20, Try.ntmps20
      go_wp2
      go_ret
      exact ⟨rfl, rfl⟩
    · obtain ⟨s, rfl⟩ := Int.eq_ofNat_of_zero_le (show 0 ≤ x by omega)
      have hs : s < ls.length := by omega
      have hz : ln ls s = 0 := by rcases hx with q | q | q; omega; omega; simpa using q
      have cl := cells_of hc.lens s
      rw [valA_at ls hs, hz] at cl
      clear hx hz h0 h1
      go_enter Try.func20, Try.ntmps20
      go_wp2
      go_ret
      exact ⟨rfl, rfl⟩

set_option maxHeartbeats 2000000 in
theorem put_yes (lo hi bc gl gc bw base : Nat) (vo v : Value) (N : Nat) (ls bs : List Int) (t : Int) (m s n : Nat) (w : World) (hc : CodeAt lo hi w bc gl gc vo N ls) (hg : Good ls) (hs : s < ls.length) (hl : ln ls s = (n : Int)) (hn : 1 ≤ n)
    (h : Wr base bw w v bs t m) (hb : bs.length ≤ 1000000000) (hbase : base ≤ w.heap.size) (hbw : hi ≤ bw) (hbs : hi ≤ base) :
    Calls Try.prog 20 #[.pointer (some ⟨bc, 0, none⟩), .pointer (some ⟨bw, 0, none⟩), .int .i64 (s : Int)] w fun e w' => e = .returned (.bool true) ∧ ∃ v' bs' t' m', Wr base bw w' v' bs' t' m' ∧ rowOf bs' ++ bitsN t' m' = rowOf bs ++ bitsN t m ++ rowL (cd ls s) n ∧ Kept (fun k => k = bw ∨ v.ownBlock = some k) w w' ∧ (v'.ownBlock = v.ownBlock ∨ ∀ g, v'.ownBlock = some g → w.heap.size ≤ g) := by
  have hmf : ∀ (fn : Fn) (first cap : Array Value) (w : World), (Instr.makeFunc fn first cap).run Try.prog w = .ok (.func fn first cap) w := fun _ _ _ _ => rfl
  have hn15 : n ≤ 15 := by have := ln_fit hg.fit s; omega
  have hcd := (cd_lt hg.le hg.fit hs (by omega)).2
  rw [hl, Int.toNat_natCast] at hcd
  have c17 := cells_of hc.block 17
  have c18 := cells_of hc.block 18
  have cl := cells_of hc.lens s
  have cg := cells_of hc.codes s
  rw [codeA_17] at c17
  rw [codeA_18] at c18
  rw [valA_at ls hs, hl] at cl
  rw [valA_at _ (by rw [codesL_length]; exact hs), codesL_at ls hs, if_pos (by omega)] at cg
  have hown : ∀ g, v.ownBlock = some g → base ≤ g := fun g hg => (ownsRow_lt h.owns hg).1
  have HOUT : Hid (∀ k, lo ≤ k → k < hi → ¬ (k = bw ∨ v.ownBlock = some k)) := fun k h1 h2 e => by
    rcases e with e | e
    · omega
    · have := hown k e; omega
  have HLAY : Hid (Calls Try.prog 32 #[.func (.func 33) #[.pointer (some ⟨bw, 0, none⟩)] #[], .int .i64 (cd ls s : Int), .int .i64 (n : Int)] w.drew fun e w' => e = .returned (.tuple #[]) ∧ ∃ v' bs' t' m', Wr base bw w' v' bs' t' m' ∧ rowOf bs' ++ bitsN t' m' = rowOf bs ++ bitsN t m ++ rowL (cd ls s) n ∧ Kept (fun k => k = bw ∨ v.ownBlock = some k) w.drew w' ∧ (v'.ownBlock = v.ownBlock ∨ ∀ g, v'.ownBlock = some g → w.drew.heap.size ≤ g)) :=
    lay_c base bw v bs t m (cd ls s) n w.drew ⟨h.block, h.owns.drew, h.t0, h.t1, h.m1, h.bytes⟩ hn15 hb hbase
  have HC : Hid (CodeAt lo hi w bc gl gc vo N ls) := hc
  have i1 : (0 : Int) ≤ (s : Int) := by omega
  have i2 : (s : Int) < (ls.length : Int) := by omega
  have i3 : ((n : Int) == 0) = false := by simp; omega
  have i4 : ((ls.length : Int) ≤ (s : Int)) = False := by simp; omega
  have hbcw := HOUT.out bc hc.inb.1 hc.inb.2
  have hglw := HOUT.out gl hc.inl.1 hc.inl.2
  have hgcw := HOUT.out gc hc.inc.1 hc.inc.2
  have lb := lt_of_block hc.block
  have ll := lt_of_block hc.lens
  have lc := lt_of_block hc.codes
  have HO : Hid (¬ (bc = bw ∨ v.ownBlock = some bc) ∧ ¬ (gl = bw ∨ v.ownBlock = some gl) ∧ ¬ (gc = bw ∨ v.ownBlock = some gc)) := ⟨hbcw, hglw, hgcw⟩
  generalize cd ls s = C at cg HLAY ⊢
  clear h hc hown hl hcd hbcw hglw hgcw
  go_enter Try.func20, Try.ntmps20
  go_wp2
  go_region_held3 (fun w' => w'.cell? ⟨bc, 17, none⟩ = some (.slice (some ⟨gl, 0, none⟩) ls.length ls.length) ∧ w'.cell? ⟨bc, 18, none⟩ = some (.slice (some ⟨gc, 0, none⟩) ls.length ls.length) ∧ w'.cell? ⟨gl, s, none⟩ = some (.int .i64 (n : Int)) ∧ w'.cell? ⟨gc, s, none⟩ = some (.int .i64 (C : Int))) (first | go_keep | assumption) ((go_at_call 32; refine HLAY.out.mono ?_; rintro e w1 ⟨rfl, v', bs', t', m', hwr, hrow, hk, hob⟩; have H1 : Hid (∃ v' bs' t' m', Wr base bw w1 v' bs' t' m' ∧ rowOf bs' ++ bitsN t' m' = rowOf bs ++ bitsN t m ++ rowL C n ∧ Kept (fun k => k = bw ∨ v.ownBlock = some k) w w1 ∧ (v'.ownBlock = v.ownBlock ∨ ∀ g, v'.ownBlock = some g → w.heap.size ≤ g)) := ⟨v', bs', t', m', hwr, hrow, ⟨hk.os, hk.tape, hk.output, hk.size, hk.block⟩, hob⟩; have q1 : w1.cell? ⟨bc, 17, none⟩ = some (.slice (some ⟨gl, 0, none⟩) ls.length ls.length) := (hk.cell (p := ⟨bc, 17, none⟩) (by exact lb) HO.out.1).trans c17; have q2 : w1.cell? ⟨bc, 18, none⟩ = some (.slice (some ⟨gc, 0, none⟩) ls.length ls.length) := (hk.cell (p := ⟨bc, 18, none⟩) (by exact lb) HO.out.1).trans c18; have q3 : w1.cell? ⟨gl, s, none⟩ = some (.int .i64 (n : Int)) := (hk.cell (p := ⟨gl, s, none⟩) (by exact ll) HO.out.2.1).trans cl; have q4 : w1.cell? ⟨gc, s, none⟩ = some (.int .i64 (C : Int)) := (hk.cell (p := ⟨gc, s, none⟩) (by exact lc) HO.out.2.2).trans cg; clear hwr hrow hk hob))
  all_goals go_wp2
  all_goals go_ret
  all_goals exact ⟨rfl, H1.out⟩
end Go.Proofs.Ytoeebdjmedkldaa
