/- HuffReads' walk. -/
import Derived.Test.YtoeebdjmedkldaaHReads
namespace Go.Proofs.Ytoeebdjmedkldaa
open Go Go.RowKit

theorem text_up {B B' : Nat} {w : World} {a : Option Addr} {len : Nat} {zs : List Int} (h : Text B w a len zs) (hb : B ≤ B') : Text B' w a len zs := by
  obtain ⟨h1, h2, h3⟩ := h
  refine ⟨h1, h2, ?_⟩
  rcases h3 with h3 | ⟨b, off, hb', r⟩
  · exact .inl h3
  · exact .inr ⟨b, off, by omega, r⟩
theorem same_own (b1 b2 : Nat) (a a' : Option Addr) (cap cap' : Nat) (A : List Int) (w : World) (hA : A.length ≤ 1000000) (h : Owns w b1 (.slice a A.length cap) A) (h' : Owns w b2 (.slice a' A.length cap') A) :
    Calls Try.prog 13 #[.slice a A.length cap, .slice a' A.length cap'] w fun e w' => e = .returned (.bool true) ∧ ∃ n, w' = w.drewN n := by
  obtain ⟨x, c, e, i⟩ := h.ints
  obtain ⟨x', c', e', i'⟩ := h'.ints
  simp at e e'
  obtain ⟨rfl, rfl⟩ := e
  obtain ⟨rfl, rfl⟩ := e'
  exact same_c _ _ _ _ a a' cap cap' A w hA i i'

set_option maxHeartbeats 2000000 in
set_option maxRecDepth 100000 in
theorem reads_walk (B : Nat) (a ab : Option Addr) (cap len capb : Nat) (ls zs : List Int) (w : World) (hi : Ints 0 B w a ls) (ht : Text w.heap.size w ab len zs) (hl : len ≤ 140737488351232) :
    Calls Try.prog 5 #[.slice a ls.length cap, .slice ab len capb] w fun e w' => e = .returned (.bool true) ∧ Below w.heap.size w w' := by
  obtain ⟨i0, hi0, hz0, hz1', hz2'⟩ := info_parts Try.info3
  by_cases hc : check ls true = 0
  · have HH : Hid (Calls Try.prog 9 #[.slice a ls.length cap, .bool true] w fun e w' => ∃ bc gl gc vo N, e = .returned (.tuple #[.pointer (some ⟨bc, 0, none⟩), .int .i64 0]) ∧ CodeAt w.heap.size w'.heap.size w' bc gl gc vo N ls ∧ Below w.heap.size w w') := make_ok B a cap ls true w hc hi
    by_cases hlen : len ≤ 200
    · have h3 := (check_ok hc).1
      have HG : Hid (Good ls) := check_good hc
      have HI : Hid (Ints 0 B w a ls) := hi
      have HT : Hid (Text w.heap.size w ab len zs) := ht
      clear hc hi ht
      go_enter Try.func5, Try.ntmps5
      go_wp2_with (first
        | (go_at_call 9; refine HH.out.mono ?_; rintro e w1 ⟨bc, gl, gc, vo, N, rfl, c1, b1⟩; have B1 : Hid (Below w.heap.size w w1) := b1; have C1 : Hid (CodeAt w.heap.size w1.heap.size w1 bc gl gc vo N ls) := c1; clear b1 c1)
        | (go_at_call 15; refine (newReader_any _ _ _ _).mono ?_; rintro e wn ⟨rfl, rfl⟩))
      have hbw2 : Below w1.heap.size w1 (w1.alloc (.cells #[.slice ab len capb, .int .i64 0] 60)) := (Below.refl _ w1).alloc (Nat.le_refl _) _
      have RD2 : Hid ((w1.alloc (.cells #[.slice ab len capb, .int .i64 0] 60)).heap[w1.heap.size]? = some (.cells #[.slice ab len capb, .int .i64 ((0 : Nat) : Int)] 60 (0, 0))) := heap_new _ _
      have C2 : Hid (CodeAt w.heap.size w1.heap.size (w1.alloc (.cells #[.slice ab len capb, .int .i64 0] 60)) bc gl gc vo N ls) := C1.out.below hbw2 (Nat.le_refl _)
      have B2 : Hid (Below w.heap.size w (w1.alloc (.cells #[.slice ab len capb, .int .i64 0] 60))) := B1.out.trans (hbw2.mono B1.out.size)
      have T2 : Hid (Text w.heap.size (w1.alloc (.cells #[.slice ab len capb, .int .i64 0] 60)) ab len zs) := HT.out.kept (Kept.of_below B2.out) (fun b hb e => by omega)
      have hs1 := B1.out.size
      have hbr : w1.heap.size < (w1.alloc (.cells #[.slice ab len capb, .int .i64 0] 60)).heap.size := by simp
      have HLo : Hid (Longest ls N) := C1.out.long
      clear hbw2 C1 B1
      generalize w1.alloc (.cells #[.slice ab len capb, .int .i64 0] 60) = w2 at RD2 C2 B2 T2 hbr ⊢
      generalize w1.heap.size = br at RD2 C2 hs1 hbr ⊢
      go_loopw [8, 9] (fun v8 v9 wr => ∃ (k : Nat) (O : List Int) (p : Nat), k ≤ 2000 ∧ Owns wr w2.heap.size v8 O ∧ v9 = .int .i64 0 ∧ RdTo ls N (bz zs) (8 * len) k O p ∧ wr.heap[br]? = some (.cells #[.slice ab len capb, .int .i64 (p : Int)] 60 (0, 0)) ∧ Kept (fun i => i = br) w2 wr) (fun v8 _ _ => match v8 with | .slice _ n _ => 2000 - n | _ => 0)
      case atStart => exact ⟨0, [], 0, by omega, Owns.nil _ _, rfl, ⟨rfl, rfl⟩, RD2.out, Kept.refl _ _⟩
      case round =>
        obtain ⟨k, O, p, hk, hown, rfl, hrd, hrb, hkp⟩ := hrel
        obtain ⟨hOl, hpT⟩ := hrd.length
        obtain ⟨a9, c9, rfl⟩ := own_form hown
        have HO : Hid (Owns wr w2.heap.size (.slice a9 O.length c9) O) := hown
        have HR : Hid (RdTo ls N (bz zs) (8 * len) k O p) := hrd
        have KW : Hid (Kept (fun i => i = br) w2 wr) := hkp
        have RW : Hid (wr.heap[br]? = some (.cells #[.slice ab len capb, .int .i64 (p : Int)] 60 (0, 0))) := hrb
        have HOL : Hid (O.length = k) := hOl
        have hs2 := hkp.size
        have BWR : Hid (Below w.heap.size w wr) := B2.out.trans (hkp.below (by have := B2.out.size; omega) (fun i hi e => by omega))
        have hOb : O.length ≤ 2000 := by omega
        clear hown hrd hkp hrb
        by_cases hlt : k < 2000
        · have hlt' : (O.length : Int) < 2000 := by omega
          have HNXT : Hid (Calls Try.prog 16 #[.pointer (some ⟨bc, 0, none⟩), .pointer (some ⟨br, 0, none⟩)] wr fun e w' => ∃ s n err, NextIs ls (bz zs p) (8 * len - p) N s n err ∧ e = .returned (.tuple #[.int .i64 (s : Int), .int .i64 err]) ∧ (∃ q : Nat, w'.heap[br]? = some (.cells #[.slice ab len capb, .int .i64 (q : Int)] 60 (0, 0)) ∧ q ≤ len * 8 ∧ (err = 0 → q = p + n)) ∧ Kept (fun k => k = br) wr w') := by
            have := next_any w.heap.size br bc gl gc vo N ls br ab len capb p zs w.heap.size wr (C2.out.kept KW.out (fun b h1 h2 e => by omega)) HG.out h3 RW.out (T2.out.kept KW.out (fun b h1 e => by omega)) (by omega) (by omega) (.inr (Nat.le_refl _)) (by omega)
            rw [show len * 8 - p = 8 * len - p by omega] at this
            exact this
          clear hOl
          go_wp2_with (first
            | (go_at_call 16; refine HNXT.out.mono ?_; rintro e w3 ⟨s, n, err, hnx, rfl, ⟨q, hq1, hq2, hq3⟩, k3⟩; have HNX : Hid (NextIs ls (bz zs p) (8 * len - p) N s n err) := hnx; have K3 : Hid (Kept (fun i => i = br) w2 w3) := KW.out.trans k3 (fun _ _ h => h); have O3 : Hid (Owns w3 w2.heap.size (.slice a9 O.length c9) O) := HO.out.kept k3 (fun g hg e => by have := (ownsRow_lt HO.out hg).1; omega); have RE : Hid (err ≠ 0 → RdEnd ls N (bz zs) (8 * len) 2000 O err) := fun he => ⟨k, p, HR.out, .inr ⟨hlt, s, n, hnx, he⟩⟩; have R3 : Hid (w3.heap[br]? = some (.cells #[.slice ab len capb, .int .i64 (q : Int)] 60 (0, 0))) := hq1; have Q3 : Hid (err = 0 → q = p + n) := hq3; have B3 : Hid (Below w.heap.size w w3) := BWR.out.trans (k3.below (by have := BWR.out.size; omega) (fun i hi e => by omega)); have hs3 := k3.size; clear hnx hq1 hq3 k3)
            | (at_builtin; refine wpList_append_own _ rfl _ _ 22 rfl w2.heap.size 3 i0 (.int .i64 0) 1 8 Try.underlying22 hi0 hz0 hz1' hz2' rfl (by decide) _ _ _ rfl (World.ownsRow.alloc O3.out _) ⟨_, 0, none⟩ 1 1 [.int .i64 (s : Int)] rfl rfl (one_int' _ _ _ (by simp)) (by intro u hu; simp at hu; subst hu; rfl) (by unfold maxLen; omega) (by omega) (by simp; omega) ?_; intro v' w4 hown' hgrow hnil; obtain ⟨a4, c4, rfl⟩ := own_form hown')
            | (go_at_call 17; refine (read_c B a ab cap len capb ls zs N _ h3 HG.out HLo.out hlen (HI.out.stay B3.out) ((text_up (HT.out.kept (Kept.of_below B3.out) (fun b hb e => by omega)) B3.out.size))).mono ?_; rintro e w5 ⟨O5, err5, v5, rfl, o5, re5, b5⟩; obtain ⟨rfl, rfl⟩ := RdEnd.one (bz_le zs) re5 (RE.out (by simpa using (‹(err != 0) = true›))); obtain ⟨a5, c5, rfl⟩ := own_form o5; have O5' : Hid (Owns w5 w3.heap.size (.slice a5 O5.length c5) O5) := o5; have O5l : Hid (Owns w5 w2.heap.size (.slice a9 O5.length c9) O5) := O3.out.kept (Kept.of_below b5) (fun g hg e => by have := (ownsRow_lt O3.out hg).2; omega); have B5 : Hid (Below w.heap.size w w5) := (B3.out).trans (b5.mono (B3.out).size); clear re5 o5 b5)
            | (go_at_call 10; refine (alive_any _).mono ?_; rintro e w6 ⟨rfl, b6⟩; have O6 : Hid (Owns w6 w3.heap.size (.slice a5 O5.length c5) O5) := O5'.out.kept (Kept.of_below b6) (fun g hg e => by have := (ownsRow_lt O5'.out hg).2; omega); have O6l : Hid (Owns w6 w2.heap.size (.slice a9 O5.length c9) O5) := O5l.out.kept (Kept.of_below b6) (fun g hg e => by have := (ownsRow_lt O5l.out hg).2; omega); have B6 : Hid (Below w.heap.size w w6) := B5.out.trans (b6.mono B5.out.size); clear b6)
            | (go_at_call 13; refine (same_own _ _ _ _ _ _ O5 _ (by omega) O6l.out O6.out).mono ?_; rintro e w7 ⟨rfl, n7, rfl⟩))
          · go_ret
            exact ⟨rfl, below_drewN B6.out _⟩
          · have he : err = 0 := by first | assumption | simpa using ‹(err != 0) = false› | simpa using ‹¬(err != 0) = true›
            subst he
            go_roundw
            case rel =>
              have hg := Kept.of_grown hgrow
              refine ⟨k + 1, O ++ [(s : Int)], p + n, by omega, Owns.push hown', rfl, ⟨O, p, s, n, HR.out, HNX.out, rfl, rfl⟩, ?_, ?_⟩
              · rw [← Q3.out rfl]
                exact hg.heap (heap_old R3.out) (fun e => by have := (ownsRow_lt O3.out e.symm).1; omega)
              · exact (K3.out.alloc _ _).trans hg (fun i hi e => by have := (ownsRow_lt O3.out e.symm).1; omega)
            case measure => simp only []; omega
        · have hge' : ¬ (O.length : Int) < 2000 := by omega
          have RE : Hid (RdEnd ls N (bz zs) (8 * len) 2000 O 0) := ⟨k, p, HR.out, .inl ⟨by omega, rfl⟩⟩
          clear hOl
          go_wp2_with (first
            | (go_at_call 17; refine (read_c B a ab cap len capb ls zs N _ h3 HG.out HLo.out hlen (HI.out.stay BWR.out) ((text_up (HT.out.kept (Kept.of_below BWR.out) (fun b hb e => by omega)) BWR.out.size))).mono ?_; rintro e w5 ⟨O5, err5, v5, rfl, o5, re5, b5⟩; obtain ⟨rfl, rfl⟩ := RdEnd.one (bz_le zs) re5 (RE.out); obtain ⟨a5, c5, rfl⟩ := own_form o5; have O5' : Hid (Owns w5 wr.heap.size (.slice a5 O5.length c5) O5) := o5; have O5l : Hid (Owns w5 w2.heap.size (.slice a9 O5.length c9) O5) := HO.out.kept (Kept.of_below b5) (fun g hg e => by have := (ownsRow_lt HO.out hg).2; omega); have B5 : Hid (Below w.heap.size w w5) := (BWR.out).trans (b5.mono (BWR.out).size); clear re5 o5 b5)
            | (go_at_call 10; refine (alive_any _).mono ?_; rintro e w6 ⟨rfl, b6⟩; have O6 : Hid (Owns w6 wr.heap.size (.slice a5 O5.length c5) O5) := O5'.out.kept (Kept.of_below b6) (fun g hg e => by have := (ownsRow_lt O5'.out hg).2; omega); have O6l : Hid (Owns w6 w2.heap.size (.slice a9 O5.length c9) O5) := O5l.out.kept (Kept.of_below b6) (fun g hg e => by have := (ownsRow_lt O5l.out hg).2; omega); have B6 : Hid (Below w.heap.size w w6) := B5.out.trans (b6.mono B5.out.size); clear b6)
            | (go_at_call 13; refine (same_own _ _ _ _ _ _ O5 _ (by omega) O6l.out O6.out).mono ?_; rintro e w7 ⟨rfl, n7, rfl⟩))
          go_ret
          exact ⟨rfl, below_drewN B6.out _⟩
    · have hlen' : 200 < (len : Int) := by omega
      clear hc hi ht hlen
      go_enter Try.func5, Try.ntmps5
      go_wp2_with (first
        | (go_at_call 9; refine HH.out.mono ?_; rintro e w1 ⟨bc, gl, gc, vo, N, rfl, c1, b1⟩; have B1 : Hid (Below w.heap.size w w1) := b1; clear b1 c1)
        | (go_at_call 10; refine (alive_any _).mono ?_; rintro e w6 ⟨rfl, b6⟩; have B6 : Hid (Below w.heap.size w w6) := B1.out.trans (b6.mono B1.out.size); clear b6))
      go_ret
      exact ⟨rfl, B6.out⟩
  · have HH : Hid (Calls Try.prog 9 #[.slice a ls.length cap, .bool true] w fun e w' => e = .returned (.tuple #[.pointer none, .int .i64 (check ls true)]) ∧ Below w.heap.size w w') := make_err B a cap ls true w hc hi
    generalize check ls true = C at hc HH
    go_enter Try.func5, Try.ntmps5
    go_wp2_with (first
      | (go_at_call 9; refine HH.out.mono ?_; rintro e w1 ⟨rfl, b1⟩; have B1 : Hid (Below w.heap.size w w1) := b1; clear b1)
      | (go_at_call 10; refine (alive_any _).mono ?_; rintro e w6 ⟨rfl, b6⟩; have B6 : Hid (Below w.heap.size w w6) := B1.out.trans (b6.mono B1.out.size); clear b6))
    go_ret
    exact ⟨rfl, B6.out⟩
end Go.Proofs.Ytoeebdjmedkldaa
