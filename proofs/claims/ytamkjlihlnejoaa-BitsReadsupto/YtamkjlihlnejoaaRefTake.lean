/- The reference's Take: contracts. -/
import Derived.Test.YtamkjlihlnejoaaRefRead
namespace Go.Proofs.Ytamkjlihlnejoaa
open Go.RowKit

theorem bytes_arg (a : Option Addr) (n cap : Nat) (L : List Int) (w : World) (hL : n = L.length) (hn : Nums w a L) (hb : Bin L) (hl : L.length ≤ 1000000000000) (E : List Int) (hE : E = bytesL L ((L.length + 7) / 8)) :
    Calls Try.prog 24 #[.slice a n cap] w fun e w' => ∃ v, e = .returned v ∧ OwnsB w' w.heap.size v E ∧ Below w.heap.size w w' := by
  subst hL
  subst hE
  exact bytes_any a cap L w hn hb hl

set_option maxHeartbeats 1000000 in
theorem refTake_no (a : Option Addr) (n cap p : Nat) (x : Int) (w : World) (hp : 8 * ((p + 7) / 8) ≤ n) (hn : n ≤ 1000000000000) (h : x < 0 ∨ (n : Int) / 8 - ((p + 7) / 8 : Nat) < x) :
    Calls Try.prog 16 #[.agg #[.slice a n cap, .int .i64 (p : Int)], .int .i64 x] w fun e w' => e = .returned (.tuple #[.agg #[.slice a n cap, .int .i64 (p : Int)], .slice none 0 0, .bool false]) ∧ Below w.heap.size w w' := by
  obtain ⟨q, hq⟩ : ∃ q, q = 8 * ((p + 7) / 8) := ⟨_, rfl⟩
  have HQ : Hid (q = 8 * ((p + 7) / 8)) := hq
  have hqn : q ≤ n := by omega
  have hx : x < 0 ∨ ((n : Int) - q) / 8 < x := by omega
  have hp1 : p ≤ 1000000000000 := by omega
  clear h hq hp
  go_enter Try.func16, Try.ntmps16
  go_wp2_with fail
  refine (refAlign_any a n cap p _ hp1).mono ?_
  rintro e w1 ⟨rfl, b1⟩
  rw [← HQ.out]
  have r1 := (b1.block w.heap.size (by simp; omega)).trans (heap_new1 w _ _)
  have o1 := (b1.block (w.heap.size + 1) (by simp)).trans (heap_new2 w _ _)
  have hs1 : w.heap.size + 1 < w1.heap.size := by have := b1.size; simp at this; omega
  have hs0 : w.heap.size < w1.heap.size := by omega
  have c0 := cells_of r1 0
  have c1 := cells_of r1 1
  have d0 := cells_of o1 0
  have d1 := cells_of o1 1
  have e0 := free_of o1 0
  have e1 := free_of o1 1
  simp at c0 c1 d0 d1
  have HB : Hid (Below w.heap.size w w1) := (((Below.refl _ _).alloc (Nat.le_refl _) _).alloc (by simp) _).trans (b1.mono (by simp; omega))
  clear b1
  have hb2 := set_of (set_of o1 0 (.slice a n cap)) 1 (.int .i64 p)
  have g0 := cells_of hb2 0
  have g1 := cells_of hb2 1
  simp at g0 g1
  have HB2 : Hid (Below w.heap.size w ((w1.setCell ⟨w.heap.size + 1, 0, none⟩ (.slice a n cap)).setCell ⟨w.heap.size + 1, 1, none⟩ (.int .i64 p))) := (HB.out.setCell (by simp) _).setCell (by simp) _
  have HS : Hid (w.heap.size ≤ ((w1.setCell ⟨w.heap.size + 1, 0, none⟩ (.slice a n cap)).setCell ⟨w.heap.size + 1, 1, none⟩ (.int .i64 p)).heap.size) := HB2.out.size
  have G0 : Hid (((w1.setCell ⟨w.heap.size + 1, 0, none⟩ (.slice a n cap)).setCell ⟨w.heap.size + 1, 1, none⟩ (.int .i64 p)).cell? ⟨w.heap.size + 1, 0, none⟩ = some (.slice a n cap)) := g0
  have G1 : Hid (((w1.setCell ⟨w.heap.size + 1, 0, none⟩ (.slice a n cap)).setCell ⟨w.heap.size + 1, 1, none⟩ (.int .i64 p)).cell? ⟨w.heap.size + 1, 1, none⟩ = some (.int .i64 p)) := g1
  clear hb2 g0 g1
  by_cases h0 : x < 0
  · go_wp2
    have k0 := G0.out
    have k1 := G1.out
    exact bodyPost_ret (v := .tuple #[.agg #[.slice a n cap, .int .i64 (p : Int)], .slice none 0 0, .bool false]) (by simp [results, Try.results16, go_sem, k0, k1, hs1]) rfl ⟨rfl, HB2.out.alloc HS.out _⟩
  · have h1 : ((n : Int) - q) / 8 < x := by omega
    clear hx
    go_wp2_with (go_at_call 19; refine (refLeft_any _ _ _ _ _ hqn hn).mono ?_; rintro e w' ⟨rfl, rfl⟩)
    have k0 := G0.out
    have k1 := G1.out
    exact bodyPost_ret (v := .tuple #[.agg #[.slice a n cap, .int .i64 (p : Int)], .slice none 0 0, .bool false]) (by simp [results, Try.results16, go_sem, k0, k1, hs1, hs0]) rfl ⟨rfl, (HB2.out.alloc HS.out _).alloc (Nat.le_trans HS.out (by simp)) _⟩

set_option maxHeartbeats 1000000 in
theorem refTake_yes (a : Option Addr) (cap p m : Nat) (L : List Int) (w : World) (hL : Nums w a L) (hb : Bin L) (hcap : L.length ≤ cap) (hn : L.length ≤ 1000000000000) (hm : 8 * ((p + 7) / 8) + 8 * m ≤ L.length) (E : List Int) (hE : E = bytesL ((L.drop (8 * ((p + 7) / 8))).take (8 * m)) m) :
    Calls Try.prog 16 #[.agg #[.slice a L.length cap, .int .i64 (p : Int)], .int .i64 (m : Int)] w fun e w' => ∃ v, e = .returned (.tuple #[.agg #[.slice a L.length cap, .int .i64 ((8 * ((p + 7) / 8 + m) : Nat) : Int)], v, .bool true]) ∧ OwnsB w' w.heap.size v E ∧ Below w.heap.size w w' := by
  obtain ⟨q, hq⟩ : ∃ q, q = 8 * ((p + 7) / 8) := ⟨_, rfl⟩
  rw [← hq] at hm hE
  have HQ : Hid (q = 8 * ((p + 7) / 8)) := hq
  have HE : Hid (E = bytesL ((L.drop q).take (8 * m)) m) := hE
  have hp1 : p ≤ 1000000000000 := by omega
  have hqn : q ≤ L.length := by omega
  have HN : Hid (Bin L) := hb
  have HL : Hid (Nums w a L) := hL
  clear hq hE hb hL
  go_enter Try.func16, Try.ntmps16
  go_wp2_with fail
  refine (refAlign_any a L.length cap p _ hp1).mono ?_
  rintro e w1 ⟨rfl, b1⟩
  rw [← HQ.out]
  have r1 := (b1.block w.heap.size (by simp; omega)).trans (heap_new1 w _ _)
  have o1 := (b1.block (w.heap.size + 1) (by simp)).trans (heap_new2 w _ _)
  have hs1 : w.heap.size + 1 < w1.heap.size := by have := b1.size; simp at this; omega
  have hs0 : w.heap.size < w1.heap.size := by omega
  have HB : Hid (Below w.heap.size w w1) := (((Below.refl _ _).alloc (Nat.le_refl _) _).alloc (by simp) _).trans (b1.mono (by simp; omega))
  clear b1
  have BINN : Hid (Bin ((L.drop q).take (8 * m))) := by
    intro i
    by_cases hi : i < 8 * m
    · have := HN.out (q + i)
      simpa [List.getD, List.getElem?_take, hi] using this
    · simp [List.getD, List.getElem?_take, hi]
  have hlen' : ((L.drop q).take (8 * m)).length = 8 * m := by rw [List.length_take, List.length_drop]; omega
  have HLEN : Hid (8 * m = ((L.drop q).take (8 * m)).length) := hlen'.symm
  have HLE : Hid (((L.drop q).take (8 * m)).length ≤ 1000000000000) := by rw [hlen']; exact (show 8 * m ≤ 1000000000000 by omega)
  have HEE : Hid (E = bytesL ((L.drop q).take (8 * m)) ((((L.drop q).take (8 * m)).length + 7) / 8)) := by rw [hlen', show (8 * m + 7) / 8 = m by omega]; exact HE.out
  clear hlen'
  by_cases hcq : cap = q
  · have hm0 : m = 0 := by omega
    have HCQ : Hid (cap = q) := hcq
    have hcq1 : cap ≤ q := by omega
    have NN : ∀ (W : World) (b : Option Addr), Nums W b ((L.drop q).take (8 * m)) := fun W b => .inl (by rw [hm0]; simp)
    clear hm0 hcq
    have NH : Hid (∀ (W : World) (b : Option Addr), Nums W b ((L.drop q).take (8 * m))) := NN
    clear NN
    go_wp2_with (go_at_call 19; refine (refLeft_any _ _ _ _ _ hqn hn).mono ?_; rintro e w' ⟨rfl, rfl⟩)
    refine (bytes_arg _ _ _ ((L.drop q).take (8 * m)) _ HLEN.out (NH.out _ _) BINN.out HLE.out E HEE.out).mono ?_
    rintro e w4 ⟨v, rfl, o4, b4⟩
    obtain ⟨a4, cp4, rfl⟩ := own_form o4
    have hs4 : w1.heap.size + 1 < w4.heap.size := by have := b4.size; simp at this; omega
    have t4 := (b4.block w1.heap.size (by simp; omega)).trans (heap_new1 w1 _ _)
    have p4 := (b4.block (w.heap.size + 1) (by simp; omega)).trans ((Below.heap_alloc _ _ _ (by simp; omega)).trans ((Below.heap_alloc _ _ _ hs1).trans o1))
    have c0 := cells_of t4 0
    have c1 := cells_of t4 1
    have f1 := free_of t4 1
    have d0 := cells_of p4 0
    have d1 := cells_of p4 1
    have e0 := free_of p4 0
    have e1 := free_of p4 1
    simp at c0 c1 d0 d1
    have hap1 : (Value.slice a4 E.length cp4).ownBlock ≠ some w1.heap.size := ownsRow_apart o4 t4 (by decide)
    have hap2 : (Value.slice a4 E.length cp4).ownBlock ≠ some (w.heap.size + 1) := ownsRow_apart o4 p4 (by decide)
    have HA1 : Hid ((Value.slice a4 E.length cp4).ownBlock ≠ some w1.heap.size) := hap1
    have HA2 : Hid ((Value.slice a4 E.length cp4).ownBlock ≠ some (w.heap.size + 1)) := hap2
    have O4 : Hid (OwnsB w4 w1.heap.size (.slice a4 E.length cp4) E) := by
      refine ⟨o4.1, ?_⟩
      rcases o4.2 with h | ⟨g, cp, cur, hv, hg, r⟩
      · exact .inl h
      · exact .inr ⟨g, cp, cur, hv, by simp at hg; omega, r⟩
    have HB4 : Hid (Below w.heap.size w w4) := ((HB.out.alloc (by omega) _).alloc (by simp; omega) _).trans (b4.mono (by simp; omega))
    have T4 : Hid (w4.heap[w1.heap.size]? = some (.cells #[.slice a L.length cap, .int .i64 (q : Int)] 28 (0, 0))) := t4
    have P4 : Hid (w4.heap[w.heap.size + 1]? = some (.cells #[.slice none 0 0, .int .i64 0] 28 (0, 0))) := p4
    have hne : w1.heap.size ≠ w.heap.size + 1 := by omega
    clear o4 b4 t4 p4 hap1 hap2 r1 o1
    go_wp2
    have hz2 := set_of (set_of ((set_other (b := w.heap.size + 1) (c := w1.heap.size) (i := 1) (u := .int .i64 ((q : Int) + 8 * m)) (w := w4) (by omega)).trans P4.out) 0 (.slice a L.length cap)) 1 (.int .i64 ((q : Int) + 8 * m))
    have g0 := cells_of hz2 0
    have g1 := cells_of hz2 1
    simp at g0 g1
    have eq8 : ((q : Int) + 8 * m) = ((8 * ((p + 7) / 8 + m) : Nat) : Int) := by have := HQ.out; omega
    refine bodyPost_ret (v := .tuple #[.agg #[.slice a L.length cap, .int .i64 ((q : Int) + 8 * m)], .slice a4 E.length cp4, .bool true]) (by simp [results, Try.results16, go_sem, g0, g1]) rfl ⟨.slice a4 E.length cp4, by rw [eq8], ?_, ?_⟩
    · have := ownsRow_setCell_other (ownsRow_setCell_other (ownsRow_setCell_other O4.out (a := ⟨w1.heap.size, 1, none⟩) HA1.out (.int .i64 ((q : Int) + 8 * m))) (a := ⟨w.heap.size + 1, 0, none⟩) HA2.out (.slice a L.length cap)) (a := ⟨w.heap.size + 1, 1, none⟩) HA2.out (.int .i64 ((q : Int) + 8 * m))
      refine ⟨this.1, ?_⟩
      rcases this.2 with h | ⟨g, cp, cur, hv, hg, r⟩
      · exact .inl h
      · exact .inr ⟨g, cp, cur, hv, by omega, r⟩
    · exact ((HB4.out.setCell (by show w.heap.size ≤ w1.heap.size; omega) _).setCell (by simp) _).setCell (by simp) _
  · have NUMS : Nums ((w1.alloc (.cells #[.slice a L.length cap, .int .i64 (q : Int)] 28)).alloc (.cells #[.slice a L.length cap, .int .i64 (q : Int)] 28)) (a.map fun x => x.add q) ((L.drop q).take (8 * m)) := by
      by_cases h0 : m = 0
      · exact .inl (by simp [h0])
      · obtain ⟨g, off, hlt, rfl, hc⟩ := HL.out.resolve_left (by omega)
        refine .inr ⟨g, off + q, by simp; omega, ?_, fun i hi => ?_⟩
        · simp [Addr.add]
        · have hi' : i < 8 * m := by simp at hi; omega
          have := hc (q + i) (by omega)
          rw [Nat.add_assoc, Below.cell (B := w.heap.size) (w := w) ((HB.out.alloc (by omega) _).alloc (by simp; omega) _) (p := ⟨g, off + (q + i), none⟩) hlt, this]
          simp [List.getD, hi']
    have NN : Hid (Nums ((w1.alloc (.cells #[.slice a L.length cap, .int .i64 (q : Int)] 28)).alloc (.cells #[.slice a L.length cap, .int .i64 (q : Int)] 28)) (a.map fun x => x.add q) ((L.drop q).take (8 * m))) := NUMS
    clear NUMS
    go_wp2_with (go_at_call 19; refine (refLeft_any _ _ _ _ _ hqn hn).mono ?_; rintro e w' ⟨rfl, rfl⟩)
    refine (bytes_arg _ _ _ ((L.drop q).take (8 * m)) _ HLEN.out NN.out BINN.out HLE.out E HEE.out).mono ?_
    rintro e w4 ⟨v, rfl, o4, b4⟩
    obtain ⟨a4, cp4, rfl⟩ := own_form o4
    have hs4 : w1.heap.size + 1 < w4.heap.size := by have := b4.size; simp at this; omega
    have t4 := (b4.block w1.heap.size (by simp; omega)).trans (heap_new1 w1 _ _)
    have p4 := (b4.block (w.heap.size + 1) (by simp; omega)).trans ((Below.heap_alloc _ _ _ (by simp; omega)).trans ((Below.heap_alloc _ _ _ hs1).trans o1))
    have c0 := cells_of t4 0
    have c1 := cells_of t4 1
    have f1 := free_of t4 1
    have d0 := cells_of p4 0
    have d1 := cells_of p4 1
    have e0 := free_of p4 0
    have e1 := free_of p4 1
    simp at c0 c1 d0 d1
    have hap1 : (Value.slice a4 E.length cp4).ownBlock ≠ some w1.heap.size := ownsRow_apart o4 t4 (by decide)
    have hap2 : (Value.slice a4 E.length cp4).ownBlock ≠ some (w.heap.size + 1) := ownsRow_apart o4 p4 (by decide)
    have HA1 : Hid ((Value.slice a4 E.length cp4).ownBlock ≠ some w1.heap.size) := hap1
    have HA2 : Hid ((Value.slice a4 E.length cp4).ownBlock ≠ some (w.heap.size + 1)) := hap2
    have O4 : Hid (OwnsB w4 w1.heap.size (.slice a4 E.length cp4) E) := by
      refine ⟨o4.1, ?_⟩
      rcases o4.2 with h | ⟨g, cp, cur, hv, hg, r⟩
      · exact .inl h
      · exact .inr ⟨g, cp, cur, hv, by simp at hg; omega, r⟩
    have HB4 : Hid (Below w.heap.size w w4) := ((HB.out.alloc (by omega) _).alloc (by simp; omega) _).trans (b4.mono (by simp; omega))
    have T4 : Hid (w4.heap[w1.heap.size]? = some (.cells #[.slice a L.length cap, .int .i64 (q : Int)] 28 (0, 0))) := t4
    have P4 : Hid (w4.heap[w.heap.size + 1]? = some (.cells #[.slice none 0 0, .int .i64 0] 28 (0, 0))) := p4
    have hne : w1.heap.size ≠ w.heap.size + 1 := by omega
    clear o4 b4 t4 p4 hap1 hap2 r1 o1
    go_wp2
    have hz2 := set_of (set_of ((set_other (b := w.heap.size + 1) (c := w1.heap.size) (i := 1) (u := .int .i64 ((q : Int) + 8 * m)) (w := w4) (by omega)).trans P4.out) 0 (.slice a L.length cap)) 1 (.int .i64 ((q : Int) + 8 * m))
    have g0 := cells_of hz2 0
    have g1 := cells_of hz2 1
    simp at g0 g1
    have eq8 : ((q : Int) + 8 * m) = ((8 * ((p + 7) / 8 + m) : Nat) : Int) := by have := HQ.out; omega
    refine bodyPost_ret (v := .tuple #[.agg #[.slice a L.length cap, .int .i64 ((q : Int) + 8 * m)], .slice a4 E.length cp4, .bool true]) (by simp [results, Try.results16, go_sem, g0, g1]) rfl ⟨.slice a4 E.length cp4, by rw [eq8], ?_, ?_⟩
    · have := ownsRow_setCell_other (ownsRow_setCell_other (ownsRow_setCell_other O4.out (a := ⟨w1.heap.size, 1, none⟩) HA1.out (.int .i64 ((q : Int) + 8 * m))) (a := ⟨w.heap.size + 1, 0, none⟩) HA2.out (.slice a L.length cap)) (a := ⟨w.heap.size + 1, 1, none⟩) HA2.out (.int .i64 ((q : Int) + 8 * m))
      refine ⟨this.1, ?_⟩
      rcases this.2 with h | ⟨g, cp, cur, hv, hg, r⟩
      · exact .inl h
      · exact .inr ⟨g, cp, cur, hv, by omega, r⟩
    · exact ((HB4.out.setCell (by show w.heap.size ≤ w1.heap.size; omega) _).setCell (by simp) _).setCell (by simp) _
#print axioms refTake_yes
end Go.Proofs.Ytamkjlihlnejoaa
