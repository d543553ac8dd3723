/- The law's own probe, 'alive': it answers true, and writes nothing that was there. -/
import Derived.Test.YtamkjlihlnejoaaData
import Derived.Test.YtamkjlihlnejoaaReadBits
namespace Go.Proofs.Ytamkjlihlnejoaa
open Go.RowKit

/-- The state of the probe: a reader of two bytes, a writer beside it. -/
structure St (H : Nat) (w0 w : World) (p : Nat) (v : Value) (bs : List Int) (t : Int) (m : Nat) : Prop where
  rd : w.heap[H + 1]? = some (.cells #[.slice (some ⟨H, 0, none⟩) 2 2, .int .i64 (p : Int)] 55 (0, 0))
  tx : Text (H + 1) w (some ⟨H, 0, none⟩) 2 [5, 129]
  wr : Wr (H + 3) (H + 2) w v bs t m
  bel : Below H w0 w
  sz : H + 3 ≤ w.heap.size

theorem Wr.kept {base bw : Nat} {w w' : World} {v : Value} {bs : List Int} {t : Int} {m : Nat} {M : Nat → Prop} (h : Wr base bw w v bs t m) (k : Kept M w w') (h1 : ¬ M bw) (h2 : ∀ g, v.ownBlock = some g → ¬ M g) : Wr base bw w' v bs t m :=
  ⟨k.heap h.block h1, ownsRow_kept h.owns k h2, h.t0, h.t1, h.m1, h.bytes⟩

theorem St.drewN {H : Nat} {w0 w : World} {p : Nat} {v : Value} {bs : List Int} {t : Int} {m : Nat} (s : St H w0 w p v bs t m) (q : Nat) : St H w0 (w.drewN q) p v bs t m :=
  ⟨s.rd, s.tx.kept (Kept.drewN (Kept.refl (fun _ => False) w) q) (fun _ _ h => h), s.wr.kept (Kept.drewN (Kept.refl (fun _ => False) w) q) (fun h => h) (fun _ _ h => h), ⟨s.bel.os, s.bel.tape, s.bel.output, s.bel.size, s.bel.block⟩, s.sz⟩

theorem st_bits {H : Nat} {w0 w : World} {p : Nat} {v : Value} {bs : List Int} {t : Int} {m : Nat} (s : St H w0 w p v bs t m) (n : Nat) (hn : n ≤ 24) (hp : p + n ≤ 16) :
    Calls Try.prog 13 #[.pointer (some ⟨H + 1, 0, none⟩), .int .i64 n] w fun e w' => e = .returned (.tuple #[.int .i64 (bitsVal [5, 129] p n), .bool true]) ∧ St H w0 w' (p + n) v bs t m := by
  refine (bits_yes (H + 1) (H + 1) _ 2 2 p n [5, 129] w s.rd s.tx (by omega) hn (by omega)).mono ?_
  rintro e w' ⟨rfl, hb, hk⟩
  have ha := ownsRow_apart s.wr.owns s.rd (by decide)
  exact ⟨rfl, hb, s.tx.kept hk (fun b hb e => by omega), s.wr.kept hk (by omega) (fun g hg e => ha (by rw [hg, e])), s.bel.trans (hk.below (by have := s.sz; omega) (fun i hi e => by omega)), by have := s.sz; have := hk.size; omega⟩

theorem st_wbits {H : Nat} {w0 w : World} {p : Nat} {v : Value} {bs : List Int} {t : Int} {m : Nat} (s : St H w0 w p v bs t m) (x : Int) (n : Nat) (hn : n ≤ 24) (hb : bs.length ≤ 1000) :
    Calls Try.prog 29 #[.pointer (some ⟨H + 2, 0, none⟩), .int .i64 x, .int .i64 n] w fun e w' => e = .returned (.tuple #[]) ∧ ∃ v' bs' t' m', St H w0 w' p v' bs' t' m' ∧ rowOf bs' ++ bitsN t' m' = rowOf bs ++ bitsN t m ++ bitsN x n := by
  refine (wbits_yes (H + 3) (H + 2) v bs t m x n w s.wr hn (by omega) s.sz).mono ?_
  rintro e w' ⟨rfl, v', bs', t', m', hw, hr, hk, _⟩
  have hl : ∀ g, v.ownBlock = some g → H + 3 ≤ g := fun g hg => (ownsRow_lt s.wr.owns hg).1
  refine ⟨rfl, v', bs', t', m', ⟨hk.heap s.rd (fun e => ?_), s.tx.kept hk (fun b hb e => ?_), hw, s.bel.trans (hk.below (by have := s.sz; omega) (fun i hi e => ?_)), by have := s.sz; have := hk.size; omega⟩, hr⟩
  all_goals (rcases e with e | e; omega; have := hl _ e; omega)

theorem row4 (bs : List Int) (t : Int) (m : Nat) (h0 : 0 ≤ t) (h1 : t < 2 ^ m) (hr : rowOf bs ++ bitsN t m = [1, 0, 1, 1]) : bs = [] ∧ t = 13 ∧ m = 4 := by
  have hl := congrArg List.length hr
  simp [rowOf_length, bitsN_length] at hl
  have hb : bs = [] := by
    cases bs with
    | nil => rfl
    | cons a r => simp at hl; omega
  subst hb
  have hm : m = 4 := by simp at hl; omega
  subst hm
  simp [rowOf, bitsN] at hr
  exact ⟨rfl, by omega, rfl⟩

theorem str13 : strOfNums [13] = ⟨#[13]⟩ := by rfl

theorem st_new (w : World) : St w.heap.size w (((w.alloc (.cells #[.int .u8 5, .int .u8 129] 5)).alloc (.cells #[.slice (some ⟨w.heap.size, 0, none⟩) 2 2, .int .i64 0] 55)).alloc (.cells #[.slice none 0 0, .int .i64 0, .int .i64 0] 67)) 0 (.slice none 0 0) [] 0 0 := by
  have z1 : (w.alloc (.cells #[.int .u8 5, .int .u8 129] 5)).heap.size = w.heap.size + 1 := by simp
  have z2 : ((w.alloc (.cells #[.int .u8 5, .int .u8 129] 5)).alloc (.cells #[.slice (some ⟨w.heap.size, 0, none⟩) 2 2, .int .i64 0] 55)).heap.size = w.heap.size + 2 := by simp
  refine ⟨?_, ⟨rfl, ?_, .inr ⟨w.heap.size, 0, by omega, rfl, ?_⟩⟩, ⟨?_, World.ownsRow_nil _ _ _ _, by decide, by decide, by decide, by simp⟩, ?_, by simp⟩
  · have := heap_new1 (w.alloc (.cells #[.int .u8 5, .int .u8 129] 5)) (.cells #[.slice (some ⟨w.heap.size, 0, none⟩) 2 2, .int .i64 0] 55) (.cells #[.slice none 0 0, .int .i64 0, .int .i64 0] 67)
    rw [z1] at this
    exact this
  · intro i
    match i with
    | 0 => decide
    | 1 => decide
    | i + 2 => simp [List.getD]
  · have hb : (((w.alloc (.cells #[.int .u8 5, .int .u8 129] 5)).alloc (.cells #[.slice (some ⟨w.heap.size, 0, none⟩) 2 2, .int .i64 0] 55)).alloc (.cells #[.slice none 0 0, .int .i64 0, .int .i64 0] 67)).heap[w.heap.size]? = some (.cells #[.int .u8 5, .int .u8 129] 5 (0, 0)) := by
      rw [Below.heap_alloc _ _ _ (by simp; omega)]; exact heap_new1 w _ _
    intro i hi
    rw [cells_of hb]
    match i, hi with
    | 0, _ => rfl
    | 1, _ => rfl
  · have := heap_new ((w.alloc (.cells #[.int .u8 5, .int .u8 129] 5)).alloc (.cells #[.slice (some ⟨w.heap.size, 0, none⟩) 2 2, .int .i64 0] 55)) (.cells #[.slice none 0 0, .int .i64 0, .int .i64 0] 67)
    rw [z2] at this
    exact this
  · exact (((Below.refl _ _).alloc (Nat.le_refl _) _).alloc (by simp) _).alloc (by simp; omega) _

set_option maxHeartbeats 1000000 in
theorem alive_any (w : World) : Calls Try.prog 11 #[] w fun e w' => e = .returned (.bool true) ∧ Below w.heap.size w w' := by
  have HS : Hid (St w.heap.size w (((w.alloc (.cells #[.int .u8 5, .int .u8 129] 5)).alloc (.cells #[.slice (some ⟨w.heap.size, 0, none⟩) 2 2, .int .i64 0] 55)).alloc (.cells #[.slice none 0 0, .int .i64 0, .int .i64 0] 67)) 0 (.slice none 0 0) [] 0 0) := st_new w
  go_enter Try.func11, Try.ntmps11
  go_wp2_with (first
    | (go_at_call 9; refine (newReader_any _ _ _ _).mono ?_; rintro e w1 ⟨rfl, rfl⟩)
    | (go_at_call 28; refine (newWriter_any _).mono ?_; rintro e w1 ⟨rfl, rfl⟩))
  refine (st_bits HS.out 3 (by omega) (by omega)).mono ?_
  rintro e w1 ⟨rfl, s1⟩
  go_wp2_with fail
  refine (st_bits s1 6 (by omega) (by omega)).mono ?_
  rintro e w2 ⟨rfl, s2⟩
  go_wp2_with fail
  refine (st_wbits s2 5 3 (by omega) (by simp)).mono ?_
  rintro e w3 ⟨rfl, v3, bs3, t3, m3, s3, r3⟩
  go_wp2_with fail
  have hl3 : bs3.length ≤ 1000 := by
    have := congrArg List.length r3
    simp [rowOf_length, bitsN_length] at this
    omega
  refine (st_wbits s3 1 1 (by omega) hl3).mono ?_
  rintro e w4 ⟨rfl, v4, bs4, t4, m4, s4, r4⟩
  obtain ⟨rfl, rfl, rfl⟩ := row4 bs4 t4 m4 s4.wr.t0 s4.wr.t1 (by rw [r4, r3]; decide)
  clear s1 s2 s3 HS r3 r4 hl3
  have q1 : (bitsVal [5, 129] 0 3 == 5) = true := by decide
  have q2 : (bitsVal [5, 129] (0 + 3) 6 == 32) = true := by decide
  go_wp2_with fail
  have c0 := cells_of s4.rd 0
  have c1 := cells_of s4.rd 1
  simp at c0 c1
  refine (left_any (w.heap.size + 1) _ 2 2 9 w4 c0 c1 (by omega) (by omega) (by omega)).mono ?_
  rintro e w5 ⟨rfl, q, rfl⟩
  clear c0 c1
  have s5 := s4.drewN q
  clear s4
  generalize w4.drewN q = w5 at s5 ⊢
  go_wp2_with fail
  refine (data_any (w.heap.size + 3) (w.heap.size + 2) v4 [] 13 4 w5 s5.wr (by simp)).mono ?_
  rintro e w6 ⟨g, cap, rfl, hown, hbel⟩
  have hd : dataOf [] 13 4 = [13] := rfl
  rw [hd] at hown ⊢
  have hcv : (convert 22 9 (.slice (some ⟨g, 0, none⟩) 1 cap)).run Try.prog w6 = .ok (.string ⟨#[13]⟩) w6 := by
    rw [← str13]
    refine run_convert_bytes_arg w6 22 5 Try.underlying22 Try.underlying5 g 0 1 cap [13] rfl (fun i hi => ?_) 9 Try.underlying9
    have := hown.cellAt i (by simpa using hi)
    have e0 : i = 0 := by omega
    subst e0
    rw [Nat.zero_add, this]; rfl
  have q3 : turnI 1 4 = 8 := by decide
  have HB : Hid (Below w.heap.size w w6) := s5.bel.trans (hbel.mono (by have := s5.sz; omega))
  clear hown hbel s5 hd
  go_wp2_with (go_at_call 25; refine (turn_yes 1 4 _ (by omega) (by omega)).mono ?_; rintro e w6 ⟨rfl, rfl⟩)
  go_ret
  exact ⟨rfl, HB.out⟩
#print axioms alive_any
end Go.Proofs.Ytamkjlihlnejoaa
