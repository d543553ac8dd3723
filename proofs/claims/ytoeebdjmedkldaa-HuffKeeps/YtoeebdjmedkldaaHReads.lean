/- Symbols read one behind the other: what they are is fixed; the reference's Read: contract. -/
import Derived.Test.YtoeebdjmedkldaaHRefNext
import Derived.Test.YtoeebdjmedkldaaHOpen
namespace Go.Proofs.Ytoeebdjmedkldaa
open Go Go.RowKit

/-- k symbols are read: they are O, and the reader stands at p. -/
def RdTo (ls : List Int) (N : Nat) (b : Nat → Nat → Nat) (T : Nat) : Nat → List Int → Nat → Prop
  | 0, O, p => O = [] ∧ p = 0
  | k + 1, O, p => ∃ O' p' s n, RdTo ls N b T k O' p' ∧ NextIs ls (b p') (T - p') N s n 0 ∧ O = O' ++ [(s : Int)] ∧ p = p' + n
theorem RdTo.one {ls : List Int} {N : Nat} {b : Nat → Nat → Nat} {T : Nat} (hb : ∀ p i, b p i ≤ 1) {k : Nat} {O O2 : List Int} {p p2 : Nat} (h : RdTo ls N b T k O p) (h2 : RdTo ls N b T k O2 p2) : O = O2 ∧ p = p2 := by
  induction k generalizing O O2 p p2 with
  | zero => obtain ⟨rfl, rfl⟩ := h; obtain ⟨rfl, rfl⟩ := h2; exact ⟨rfl, rfl⟩
  | succ k ih =>
    obtain ⟨O', p', s, n, a1, a2, rfl, rfl⟩ := h
    obtain ⟨Q', q', t, m, c1, c2, rfl, rfl⟩ := h2
    obtain ⟨rfl, rfl⟩ := ih a1 c1
    obtain ⟨rfl, rfl, _⟩ := NextIs.one (hb _) a2 c2
    exact ⟨rfl, rfl⟩
theorem RdTo.length {ls : List Int} {N : Nat} {b : Nat → Nat → Nat} {T k : Nat} {O : List Int} {p : Nat} (h : RdTo ls N b T k O p) : O.length = k ∧ p ≤ T := by
  induction k generalizing O p with
  | zero => obtain ⟨rfl, rfl⟩ := h; exact ⟨rfl, by omega⟩
  | succ k ih =>
    obtain ⟨O', p', s, n, a1, a2, rfl, rfl⟩ := h
    have i := ih a1
    rcases a2 with ⟨_, h2, _⟩ | ⟨_, _, _, h4⟩
    · simp; omega
    · exfalso; omega
theorem RdTo.at_ {ls : List Int} {N : Nat} {b : Nat → Nat → Nat} {T k : Nat} {O : List Int} {p : Nat} (h : RdTo ls N b T k O p) (j : Nat) (hj : j < k) : ∃ O' p' s n, RdTo ls N b T j O' p' ∧ NextIs ls (b p') (T - p') N s n 0 := by
  induction k generalizing O p with
  | zero => omega
  | succ k ih =>
    obtain ⟨O', p', s, n, a1, a2, rfl, rfl⟩ := h
    by_cases e : j = k
    · subst e; exact ⟨O', p', s, n, a1, a2⟩
    · exact ih a1 (by omega)
/-- At most M symbols are read: they are O; why there are no more: err. -/
def RdEnd (ls : List Int) (N : Nat) (b : Nat → Nat → Nat) (T M : Nat) (O : List Int) (err : Int) : Prop :=
  ∃ k p, RdTo ls N b T k O p ∧ ((k = M ∧ err = 0) ∨ (k < M ∧ ∃ s n, NextIs ls (b p) (T - p) N s n err ∧ err ≠ 0))
theorem RdEnd.one {ls : List Int} {N : Nat} {b : Nat → Nat → Nat} {T M : Nat} (hb : ∀ p i, b p i ≤ 1) {O O2 : List Int} {e e2 : Int} (h : RdEnd ls N b T M O e) (h2 : RdEnd ls N b T M O2 e2) : O = O2 ∧ e = e2 := by
  obtain ⟨k, p, a1, a2⟩ := h
  obtain ⟨k2, p2, c1, c2⟩ := h2
  have lt : ∀ {k k2 p p2 : Nat} {O O2 : List Int} {e : Int}, RdTo ls N b T k O p → RdTo ls N b T k2 O2 p2 → k < k2 → k2 ≤ M → ((k = M ∧ e = 0) ∨ (k < M ∧ ∃ s n, NextIs ls (b p) (T - p) N s n e ∧ e ≠ 0)) → False := by
    intro k k2 p p2 O O2 e a1 c1 hk hM a2
    rcases a2 with ⟨q, _⟩ | ⟨_, s, n, q1, q2⟩
    · omega
    · obtain ⟨O', p', t, m, d1, d2⟩ := c1.at_ k hk
      obtain ⟨rfl, rfl⟩ := RdTo.one hb a1 d1
      exact q2 (NextIs.one (hb _) q1 d2).2.2
  have hM : k ≤ M := by rcases a2 with q | q <;> omega
  have hM2 : k2 ≤ M := by rcases c2 with q | q <;> omega
  rcases Nat.lt_trichotomy k k2 with l | l | l
  · exact (lt a1 c1 l hM2 a2).elim
  · subst l
    obtain ⟨rfl, rfl⟩ := RdTo.one hb a1 c1
    refine ⟨rfl, ?_⟩
    rcases a2 with ⟨q1, q2⟩ | ⟨q1, s, n, q2, q3⟩ <;> rcases c2 with ⟨r1, r2⟩ | ⟨r1, t, m, r2, r3⟩
    · omega
    · omega
    · omega
    · exact (NextIs.one (hb _) q2 r2).2.2
  · exact (lt c1 a1 l hM c2).elim

theorem Owns.ints {w : World} {base : Nat} {v : Value} {L : List Int} (h : Owns w base v L) : ∃ a cap, v = .slice a L.length cap ∧ Ints base w.heap.size w a L := by
  obtain ⟨a, cap, hv, hf⟩ := h.form
  refine ⟨a, cap, hv, ?_⟩
  by_cases h0 : L.length = 0
  · exact .inl h0
  · obtain ⟨g, _, h2, h3, ha, hc⟩ := hf (by omega)
    exact .inr ⟨g, 0, h2, h3, h3, ha, fun i hi => by rw [Nat.zero_add]; exact hc i hi⟩

set_option maxHeartbeats 2000000 in
set_option maxRecDepth 100000 in
theorem read_c (B : Nat) (a ab : Option Addr) (cap len capb : Nat) (ls zs : List Int) (N : Nat) (w : World) (h3 : ls.length ≤ 320) (hg : Good ls) (hN : Longest ls N) (hlen : len ≤ 200) (hi : Ints 0 B w a ls) (ht : Text w.heap.size w ab len zs) :
    Calls Try.prog 17 #[.slice a ls.length cap, .slice ab len capb, .int .i64 2000] w fun e w' => ∃ O err v, e = .returned (.tuple #[v, .int .i64 err]) ∧ Owns w' w.heap.size v O ∧ RdEnd ls N (bz zs) (8 * len) 2000 O err ∧ Below w.heap.size w w' := by
  obtain ⟨i0, hi0, hz0, hz1', hz2'⟩ := info_parts Try.info3
  have HG : Hid (Good ls) := hg
  have HN : Hid (Longest ls N) := hN
  have HI : Hid (Ints 0 B w a ls) := hi
  have HT : Hid (Text w.heap.size w ab len zs) := ht
  have hzl := ht.1
  clear hg hN hi ht
  go_enter Try.func17, Try.ntmps17
  go_wp2_with (go_at_call 30; refine (row_any w.heap.size ab len capb zs _ HT.out (by omega) (Nat.le_refl _)).mono ?_; rintro e w1 ⟨vL, rfl, hoL, b1⟩; obtain ⟨aL, cL, rfl, iL⟩ := hoL.ints; have IL : Hid (Ints w.heap.size w1.heap.size w1 aL (rowOf zs)) := iL; have B1 : Hid (Below w.heap.size w w1) := b1; clear hoL iL b1)
  have HRL : Hid ((rowOf zs).length = 8 * len) := by show _ = _; rw [rowOf_length, hzl]
  go_loopw [9, 10] (fun v9 v10 wr => ∃ (k : Nat) (O : List Int) (p : Nat), k ≤ 2000 ∧ Owns wr w1.heap.size v9 O ∧ v10 = .int .i64 p ∧ RdTo ls N (bz zs) (8 * len) k O p ∧ Below w1.heap.size w1 wr) (fun v9 _ _ => match v9 with | .slice _ n _ => 2000 - n | _ => 0)
  case atStart => exact ⟨0, [], 0, by omega, Owns.nil _ _, rfl, ⟨rfl, rfl⟩, Below.refl _ _⟩
  case round =>
    obtain ⟨k, O, p, hk, hown, rfl, hrd, hbel⟩ := hrel
    obtain ⟨hOl, hpT⟩ := hrd.length
    obtain ⟨a9, c9, rfl⟩ := own_form hown
    have HO : Hid (Owns wr w1.heap.size (.slice a9 O.length c9) O) := hown
    have HR : Hid (RdTo ls N (bz zs) (8 * len) k O p) := hrd
    have BR : Hid (Below w1.heap.size w1 wr) := hbel
    have BW : Hid (Below w.heap.size w wr) := B1.out.trans (hbel.mono B1.out.size)
    have HOL : Hid (O.length = k) := hOl
    have hOb : O.length ≤ 2000 := by omega
    have hs1 := B1.out.size
    clear hown hrd hbel
    by_cases hlt : k < 2000
    · have hlt' : (O.length : Int) < 2000 := by omega
      have hpl : p ≤ (rowOf zs).length := by rw [HRL.out]; exact hpT
      have HNXT : Hid (Calls Try.prog 31 #[.slice a ls.length cap, .slice aL (rowOf zs).length cL, .int .i64 (p : Int)] wr fun e w' => ∃ s n err, NextIs ls (bz zs p) (8 * len - p) N s n err ∧ e = .returned (.tuple #[.int .i64 (s : Int), .int .i64 ((p + n : Nat) : Int), .int .i64 err]) ∧ Below wr.heap.size wr w') := by
        have := refNext_c B w.heap.size w1.heap.size a aL cap cL ls (rowOf zs) p N wr h3 HG.out HN.out (by rw [HRL.out]; omega) (bin_rowOf zs) hpl (HI.out.stay BW.out) (IL.out.below BR.out (Nat.le_refl _))
        rw [row_bits] at this
        have e : (rowOf zs).length - p = 8 * len - p := by rw [HRL.out]
        rw [e] at this
        exact this
      clear hOl hpl
      generalize (rowOf zs).length = RL at HNXT HRL IL ⊢
      go_wp2_with (first
        | (go_at_call 31; refine HNXT.out.mono ?_; rintro e w2 ⟨s, n, err, hnx, rfl, b2⟩; have HNX : Hid (NextIs ls (bz zs p) (8 * len - p) N s n err) := hnx; have B2 : Hid (Below w1.heap.size w1 w2) := BR.out.trans (b2.mono BR.out.size); have O2 : Hid (Owns w2 w1.heap.size (.slice a9 O.length c9) O) := HO.out.kept (Kept.of_below b2) (fun g hg e => by have := (ownsRow_lt HO.out hg).2; omega); have hs2 := b2.size; clear hnx b2)
        | (at_builtin; refine wpList_append_own _ rfl _ _ 22 rfl w1.heap.size 3 i0 (.int .i64 0) 1 8 Try.underlying22 hi0 hz0 hz1' hz2' rfl (by decide) _ _ _ rfl (World.ownsRow.alloc O2.out _) ⟨_, 0, none⟩ 1 1 [.int .i64 (s : Int)] rfl rfl (one_int' _ _ _ (by simp)) (by intro u hu; simp at hu; subst hu; rfl) (by unfold maxLen; omega) (by omega) (by have := B2.out.size; simp; omega) ?_; intro v' w4 hown' hgrow hnil; obtain ⟨a4, c4, rfl⟩ := own_form hown'))
      · have he : err ≠ 0 := by simpa using (‹(err != 0) = true›)
        go_ret2
        exact ⟨O, err, _, rfl, O2.out.low hs1, ⟨k, p, HR.out, .inr ⟨hlt, s, n, HNX.out, he⟩⟩, B1.out.trans (B2.out.mono hs1)⟩
      · have he : err = 0 := by first | assumption | simpa using ‹(err != 0) = false› | simpa using ‹¬(err != 0) = true›
        subst he
        go_roundw
        case rel =>
          refine ⟨k + 1, O ++ [(s : Int)], p + n, by omega, Owns.push hown', by go_num, ⟨O, p, s, n, HR.out, HNX.out, rfl, rfl⟩, ?_⟩
          exact (B2.out.alloc B2.out.size _).grown hgrow (by have := B2.out.size; simp; omega) (fun g e => (ownsRow_lt O2.out e).1)
        case measure => simp only []; omega
    · have hge' : ¬ (O.length : Int) < 2000 := by omega
      have HK2 : Hid (k = 2000) := by show _ = _; omega
      clear hOl hOb
      go_wp2
      go_ret2
      exact ⟨O, 0, _, rfl, HO.out.low hs1, ⟨k, p, HR.out, .inl ⟨HK2.out, rfl⟩⟩, BW.out⟩
end Go.Proofs.Ytoeebdjmedkldaa
