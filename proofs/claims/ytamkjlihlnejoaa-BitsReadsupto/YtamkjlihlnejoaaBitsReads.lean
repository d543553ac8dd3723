/-
  PROVED: 'wainloadlaw01.BitsReads' answers true for every b and script that together are of bulk at most 1048576 (the second form): every call on a reader is answered as the reference's reader answers it.
-/
import Derived.Test.YtamkjlihlnejoaaReads
import Derived.Test.YtamkjlihlnejoaaOpenOps
import Derived.JoinedCond
namespace Go.Proofs.Ytamkjlihlnejoaa.bitsReads
open Go.ChangeShapes Go.WideShapes Go.ChangeAt Go.RowKit
set_option linter.unusedVariables false

section
variable {br sb : Nat} {w4 wr w' : World} {a : Option Addr} {len cap : Nat} {zs : List Int} {al : Option Addr} {cl : Nat} {L : List Int} {p q : Nat}

theorem rw_bits (s : Rw br sb w4 wr a len cap zs al cl L p q) (n : Nat) (hl : len ≤ 4000) (hn : n ≤ 24) (hp : p + n ≤ 8 * len) (V : Int) (hV : V = bitsVal zs p n) :
    Calls Try.prog 13 #[.pointer (some ⟨br, 0, none⟩), .int .i64 (n : Int)] wr fun e w' => e = .returned (.tuple #[.int .i64 V, .bool true]) ∧ Rw br sb w4 w' a len cap zs al cl L (p + n) q ∧ Same wr w' := by
  subst hV
  refine (bits_yes br br a len cap p n zs wr s.rd s.tx (by omega) hn (by omega)).mono ?_
  rintro e w' ⟨rfl, hb, hk⟩
  exact ⟨rfl, s.read hb hk⟩

theorem rw_bits_no (s : Rw br sb w4 wr a len cap zs al cl L p q) (n : Int) (hl : len ≤ 4000) (hp : p ≤ 8 * len) (hn : n < 0 ∨ 24 < n ∨ (len : Int) * 8 - p < n) :
    Calls Try.prog 13 #[.pointer (some ⟨br, 0, none⟩), .int .i64 n] wr fun e w' => e = .returned (.tuple #[.int .i64 0, .bool false]) ∧ Rw br sb w4 w' a len cap zs al cl L p q ∧ Same wr w' := by
  refine (bits_no br a len cap p n wr s.rd (by omega) (by omega) hn).mono ?_
  rintro e w' ⟨rfl, k, rfl⟩
  exact ⟨rfl, s.drewN k, Nat.le_refl _, fun _ _ h => h⟩

theorem rw_align (s : Rw br sb w4 wr a len cap zs al cl L p q) (p' : Nat) (hq : p' = 8 * ((p + 7) / 8)) (hp : p ≤ 100000000) :
    Calls Try.prog 15 #[.pointer (some ⟨br, 0, none⟩)] wr fun e w' => e = .returned (.tuple #[]) ∧ Rw br sb w4 w' a len cap zs al cl L p' q ∧ Same wr w' := by
  subst hq
  refine (ralign_any br a len cap p wr s.rd (by omega)).mono ?_
  rintro e w' ⟨rfl, hb, hk⟩
  exact ⟨rfl, s.read hb hk⟩

theorem rw_bytes (s : Rw br sb w4 wr a len cap zs al cl L p q) (n : Nat) (hl : len ≤ 4000) (hcap : len ≤ cap) (hp : p ≤ 8 * len) (hn : (p + 7) / 8 + n ≤ len) (E : List Int) (hE : (zs.drop ((p + 7) / 8)).take n = E) (p' : Nat) (hq : p' = 8 * ((p + 7) / 8 + n)) :
    Calls Try.prog 17 #[.pointer (some ⟨br, 0, none⟩), .int .i64 (n : Int)] wr fun e w' => ∃ g, e = .returned (.tuple #[.slice (some ⟨g, 0, none⟩) n n, .bool true]) ∧ OwnsB w' g (.slice (some ⟨g, 0, none⟩) n n) E ∧ Rw br sb w4 w' a len cap zs al cl L p' q ∧ Same wr w' ∧ Kept (fun k => k = br) wr w' := by
  subst hE
  subst hq
  refine (rbytes_yes br br a len cap p n n rfl zs wr s.rd s.tx hcap (by omega) (by omega) hn).mono ?_
  rintro e w' ⟨rfl, ho, hb, hk⟩
  exact ⟨wr.heap.size, rfl, ho, (s.read hb hk).1, (s.read hb hk).2, hk⟩

theorem rw_bytes_no (s : Rw br sb w4 wr a len cap zs al cl L p q) (n : Int) (hl : len ≤ 4000) (hp : p ≤ 8 * len) (hn : n < 0 ∨ (len : Int) - ((p + 7) / 8 : Nat) < n) :
    Calls Try.prog 17 #[.pointer (some ⟨br, 0, none⟩), .int .i64 n] wr fun e w' => e = .returned (.tuple #[.slice none 0 0, .bool false]) ∧ Rw br sb w4 w' a len cap zs al cl L p q := by
  refine (rbytes_no br a len cap p n wr s.rd (by omega) (by omega) hn).mono ?_
  rintro e w' ⟨rfl, rfl⟩
  exact ⟨rfl, s⟩

theorem own_through {base sb' : Nat} {w : World} {v : Value} {E : List Int} {cs : Array Value} {x y : Value} {o : Obj} (h : OwnsB w base v E) (hs : w.heap[sb']? = some (.cells cs 28 (0, 0))) : OwnsB (((w.setCell ⟨sb', 0, none⟩ x).setCell ⟨sb', 1, none⟩ y).alloc o) 0 v E := by
  have ha := ownsRow_apart h hs (by decide)
  have h1 := World.ownsRow.alloc (ownsRow_setCell_other (ownsRow_setCell_other h (a := ⟨sb', 0, none⟩) ha x) (a := ⟨sb', 1, none⟩) ha y) o
  refine ⟨h1.1, ?_⟩
  rcases h1.2 with h | ⟨g, cp, cur, hv, _, r⟩
  · exact .inl h
  · exact .inr ⟨g, cp, cur, hv, Nat.zero_le _, r⟩

theorem own_kept2 {base : Nat} {w w1 : World} {v : Value} {E : List Int} {cs : Array Value} (h : OwnsB w base v E) (hb : w.heap[br]? = some (.cells cs 55 (0, 0))) (k : Kept (fun k => k = br) w w1) : OwnsB w1 base v E :=
  ownsRow_kept h k (fun g hg e => by subst e; exact ownsRow_apart h hb (by decide) hg)
end

theorem refLeft_arg (a : Option Addr) (n cap : Nat) (p : Nat) (pi : Int) (hpi : pi = p) (w : World) (hp : p ≤ n) (hn : n ≤ 1000000000000) :
    Calls Try.prog 19 #[.agg #[.slice a n cap, .int .i64 pi]] w fun e w' => e = .returned (.int .i64 ((n : Int) - pi)) ∧ w' = w.alloc (.cells #[.slice a n cap, .int .i64 pi] 28) := by
  subst hpi
  exact refLeft_any a n cap p w hp hn

theorem refAlign_arg (a : Option Addr) (n cap : Nat) (p q : Nat) (hq : q = 8 * ((p + 7) / 8)) (w : World) (hn : p ≤ 1000000000000) :
    Calls Try.prog 14 #[.agg #[.slice a n cap, .int .i64 (p : Int)]] w fun e w' => e = .returned (.agg #[.slice a n cap, .int .i64 (q : Int)]) ∧ Below w.heap.size w w' := by
  subst hq
  exact refAlign_any a n cap p w hn

theorem refTake_arg (a : Option Addr) (cap p m : Nat) (L : List Int) (w : World) (hL : Nums w a L) (hb : Bin L) (hcap : L.length ≤ cap) (hn : L.length ≤ 1000000000000) (hm : 8 * ((p + 7) / 8) + 8 * m ≤ L.length) (E : List Int) (hE : E = bytesL ((L.drop (8 * ((p + 7) / 8))).take (8 * m)) m) (q : Nat) (hq : q = 8 * ((p + 7) / 8 + m)) :
    Calls Try.prog 16 #[.agg #[.slice a L.length cap, .int .i64 (p : Int)], .int .i64 (m : Int)] w fun e w' => ∃ v, e = .returned (.tuple #[.agg #[.slice a L.length cap, .int .i64 (q : Int)], v, .bool true]) ∧ OwnsB w' w.heap.size v E ∧ Below w.heap.size w w' := by
  subst hq
  exact refTake_yes a cap p m L w hL hb hcap hn hm E hE

set_option maxHeartbeats 1000000 in
theorem walk_long (a0 : Option Addr) (len0 cap0 : Nat) (z0 : List Int) (a : Option Addr) (len cap : Nat) (w : World) (h0 : Text w.heap.size w a0 len0 z0) (hl0 : len0 ≤ 1048576) (hml : len ≤ maxLen) (hlong : 4000 < len0 ∨ 500 < len) :
    Calls Try.prog 3 #[.slice a0 len0 cap0, .slice a len cap] w fun e w' => e = .returned (.bool true) ∧ Below w.heap.size w w' := by
  unfold maxLen at hml
  have T1 : Hid (Text w.heap.size (w.alloc (.cells #[.slice a0 len0 cap0, .int .i64 0] 55)) a0 len0 z0) := h0.kept (Kept.alloc _ (Kept.refl (fun _ => False) w) _) (fun _ _ h => h)
  clear h0
  have hc : 4000 < len0 ∨ (len0 ≤ 4000 ∧ 500 < len) := by omega
  clear hlong
  rcases hc with h | ⟨h, h'⟩
  all_goals
    go_enter Try.func3, Try.ntmps3
    go_wp2_with (go_at_call 9; refine (newReader_any _ _ _ _).mono ?_; rintro e w1 ⟨rfl, rfl⟩)
    refine (refNew_any w.heap.size a0 len0 cap0 z0 _ T1.out (by omega) (by simp)).mono ?_
    rintro e w2 ⟨v, rfl, ho, b2⟩
    obtain ⟨al, cl, rfl⟩ := own_form ho
    have hs2 := b2.size
    have HB : Hid (Below w.heap.size w w2) := ((Below.refl _ _).alloc (Nat.le_refl _) _).trans (b2.mono (by simp))
    have hs3 : w.heap.size ≤ w2.heap.size := HB.out.size
    clear ho b2 hs2
    go_wp2_with fail
    refine (alive_any _).mono ?_
    rintro e w3 ⟨rfl, b3⟩
    have HB3 : Hid (Below w.heap.size w w3) := (HB.out.alloc hs3 _).trans (b3.mono (by simp; omega))
    clear b3
    go_wp2
    go_ret
    exact ⟨rfl, HB3.out⟩

set_option maxHeartbeats 4000000 in
set_option maxRecDepth 100000 in
theorem walk_in (a0 : Option Addr) (len0 cap0 : Nat) (z0 : List Int) (a : Option Addr) (len cap : Nat) (os : Nat → OpD) (w : World) (h0 : Text w.heap.size w a0 len0 z0) (hc0 : len0 ≤ cap0) (hl0 : len0 ≤ 4000) (h : Ops w.heap.size w a len os) (hl : len ≤ 500) :
    Calls Try.prog 3 #[.slice a0 len0 cap0, .slice a len cap] w fun e w' => e = .returned (.bool true) ∧ Below w.heap.size w w' := by
  have HZ : Hid (∀ i, 0 ≤ z0.getD i 0 ∧ z0.getD i 0 ≤ 255) := h0.2.1
  have hz1 : z0.length = len0 := h0.1
  have HZ1 : Hid (z0.length = len0) := hz1
  have T1 : Hid (Text w.heap.size (w.alloc (.cells #[.slice a0 len0 cap0, .int .i64 0] 55)) a0 len0 z0) := h0.kept (Kept.alloc _ (Kept.refl (fun _ => False) w) _) (fun _ _ h => h)
  have HO : Hid (Ops w.heap.size w a len os) := h
  clear h0 h
  go_enter Try.func3, Try.ntmps3
  go_wp2_with (go_at_call 9; refine (newReader_any _ _ _ _).mono ?_; rintro e w1 ⟨rfl, rfl⟩)
  refine (refNew_any w.heap.size a0 len0 cap0 z0 _ T1.out (by omega) (by simp)).mono ?_
  rintro e w2 ⟨v, rfl, ho, b2⟩
  obtain ⟨L, hL⟩ : ∃ L, L = rowOf z0 := ⟨_, rfl⟩
  rw [← hL] at ho
  have hLl : L.length = 8 * len0 := by rw [hL, rowOf_length, hz1]
  have hL1 : L.length ≤ 8 * len0 := by omega
  have hL2 : 8 * len0 ≤ L.length := by omega
  have HL : Hid (L = rowOf z0) := hL
  have HB : Hid (Bin L) := by rw [hL]; exact bin_rowOf _
  clear hL hLl hz1
  obtain ⟨al, cl, rfl⟩ := own_form ho
  have hcl : L.length ≤ cl := by
    rcases ho.2 with ⟨hv, h0⟩ | ⟨g, cp, cur, hv, _, _, hle, _⟩
    · omega
    · simp at hv; omega
  have hs2 : w.heap.size < w2.heap.size := by have := b2.size; simp at this; omega
  have B2 : Hid (Below w.heap.size w w2) := ((Below.refl _ _).alloc (Nat.le_refl _) _).trans (b2.mono (by simp))
  have r2 := (b2.block w.heap.size (by simp)).trans (heap_new w _)
  have o2 : Owns w2 0 (.slice al L.length cl) L := ho.low (by omega)
  have t2 : Text w.heap.size w2 a0 len0 z0 := T1.out.kept (Kept.of_below b2) (fun b hb e => by simp at e; omega)
  have k3 : Kept (fun _ => False) w2 (w2.alloc (.cells #[.slice al L.length cl, .int .i64 0] 28)) := Kept.alloc _ (Kept.refl _ w2) _
  have s0 : Rw w.heap.size w2.heap.size (w2.alloc (.cells #[.slice al L.length cl, .int .i64 0] 28)) (w2.alloc (.cells #[.slice al L.length cl, .int .i64 0] 28)) a0 len0 cap0 z0 al cl L 0 0 :=
    ⟨k3.heap r2 (fun h => h), heap_new w2 _, t2.kept k3 (fun _ _ h => h), o2.kept k3 (fun _ _ h => h), Kept.refl _ _⟩
  obtain ⟨w4, hw4⟩ : ∃ w4, w4 = w2.alloc (.cells #[.slice al L.length cl, .int .i64 0] 28) := ⟨_, rfl⟩
  have B4 : Hid (Below w.heap.size w w4) := by rw [hw4]; exact B2.out.alloc (by omega) _
  have S0 : Hid (Rw w.heap.size w2.heap.size w4 (w2.alloc (.cells #[.slice al L.length cl, .int .i64 0] 28)) a0 len0 cap0 z0 al cl L 0 0) := by rw [hw4] ; exact s0
  have O4 : Hid (Ops w.heap.size w4 a len os) := HO.out.kept (Kept.of_below B4.out) (fun b hb e => by omega)
  have hs4 : w2.heap.size < w4.heap.size := by rw [hw4]; simp
  clear ho b2 T1 s0 k3 t2 o2 r2 B2 hw4
  obtain ⟨sb, hsb⟩ : ∃ sb, sb = w2.heap.size := ⟨_, rfl⟩
  have HSB : Hid (sb = w2.heap.size) := hsb
  clear hsb
  go_wp2
  go_loopw [42] (fun i wr => ∃ k : Nat, k ≤ len ∧ i = .int .i64 k ∧ ∃ p, p ≤ 8 * len0 ∧ Rw w.heap.size w2.heap.size w4 wr a0 len0 cap0 z0 al cl L p p) (fun i _ => len - (intOf i).toNat)
  case atStart => exact ⟨0, Nat.zero_le _, rfl, 0, Nat.zero_le _, S0.out⟩
  case round =>
    clear S0
    obtain ⟨k, hk, rfl, p, hp, s⟩ := hrel
    by_cases hlt : k < len
    · obtain ⟨_, h2⟩ := O4.out.kept s.kp (fun b hb e => by rcases e with e | e <;> omega)
      obtain ⟨b, off, hb, rfl, hc⟩ := h2.resolve_left (by omega)
      obtain ⟨ck, cv, cn, cs, _, _, _⟩ := hc k hlt
      clear hc h2
      obtain ⟨d, hd⟩ : ∃ d, d = os k := ⟨_, rfl⟩
      rw [← hd] at ck cv cn cs
      clear hd
      obtain ⟨kind, v, n, da, dl, dc, zs⟩ := d
      simp only at ck cv cn cs
      have hsz0 := s.kp.size
      have hsz : w2.heap.size < wr.heap.size := by omega
      have hsz1 : w.heap.size < wr.heap.size := by omega
      have S1 : Hid (Rw w.heap.size w2.heap.size w4 (wr.alloc (.cells #[.int .i64 kind, .int .i64 v, .int .i64 n, .slice da dl dc] 32)) a0 len0 cap0 z0 al cl L p p) := s.alloc _
      have q0 := cells_of s.sd 0
      have q1 := cells_of s.sd 1
      have g0 := free_of s.sd 0
      have g1 := free_of s.sd 1
      simp at q0 q1
      clear s hsz0
      by_cases h0 : kind = 0
      · subst h0
        by_cases hn : (0 ≤ n ∧ n ≤ 24) ∧ n ≤ 8 * (len0 : Int) - p
        · obtain ⟨n', rfl⟩ := Int.eq_ofNat_of_zero_le hn.1.1
          obtain ⟨V, hV⟩ : ∃ V, V = packB L p n' := ⟨_, rfl⟩
          have HV : Hid (V = packB L p n') := hV
          have HV2 : Hid (V = bitsVal z0 p n') := by rw [hV, HL.out]; exact (row_val z0 p n' (by rw [HZ1.out]; omega)).symm
          clear hV
          go_wp2_with fail
          refine (refBits_yes al cl p n' L _ S1.out.nums HB.out (by omega) (by omega) (by omega) V HV.out).mono ?_
          rintro e w5 ⟨rfl, b5⟩
          have S5 : Hid (Rw w.heap.size w2.heap.size w4 w5 a0 len0 cap0 z0 al cl L p p) := S1.out.below b5
          have hs5 : wr.heap.size < w5.heap.size := by have := b5.size; simp at this; omega
          have o5 := (b5.block wr.heap.size (by simp)).trans (heap_new wr _)
          have x2 := cells_of o5 2
          have y0 := cells_of S5.out.sd 0
          have y1 := cells_of S5.out.sd 1
          have f0 := free_of S5.out.sd 0
          have f1 := free_of S5.out.sd 1
          simp at x2 y0 y1
          have hs52 : w2.heap.size < w5.heap.size := by omega
          clear b5 o5 S1 q0 q1 g0 g1
          have S6 : Hid (Rw w.heap.size w2.heap.size w4 (((w5.setCell ⟨w2.heap.size, 0, none⟩ (.slice al L.length cl)).setCell ⟨w2.heap.size, 1, none⟩ (.int .i64 ((p : Int) + n'))).alloc (.cells #[.slice al L.length cl, .int .i64 ((p : Int) + n')] 28)) a0 len0 cap0 z0 al cl L p (p + n')) := (S5.out.set (by omega) (p + n')).alloc _
          clear S5
          go_wp2_with fail
          refine (rw_bits S6.out n' hl0 (by omega) (by omega) V HV2.out).mono ?_
          rintro e w7 ⟨rfl, s7, sm7⟩
          have SF : Hid (Rw w.heap.size w2.heap.size w4 w7 a0 len0 cap0 z0 al cl L (p + n') (p + n')) := s7
          clear s7 sm7 S6 y0 y1 f0 f1 x2
          have r0 := cells_of SF.out.rd 0
          have r1 := cells_of SF.out.rd 1
          have t0 := cells_of SF.out.sd 0
          have t1 := cells_of SF.out.sd 1
          simp at r0 r1 t0 t1
          have hpb : p + n' ≤ 8 * len0 := by omega
          go_wp2_with fail
          go_region_held3 (fun w' => w'.cell? ⟨w2.heap.size, 0, none⟩ = some (.slice al L.length cl) ∧ w'.cell? ⟨w2.heap.size, 1, none⟩ = some (.int .i64 ((p : Int) + n'))) (go_keep) ((first | (go_at_call 18; refine (left_any w.heap.size a0 len0 cap0 ((p : Int) + n') _ (by first | assumption | simpa using r0) (by first | assumption | simpa using r1) (by omega) (by omega) (by omega)).mono ?_; rintro e w8 ⟨rfl, q8, rfl⟩) | (go_at_call 19; refine (refLeft_arg al L.length cl (p + n') ((p : Int) + n') (by omega) _ (by omega) (by omega)).mono ?_; rintro e w9 ⟨rfl, rfl⟩)))
          all_goals
            go_wp2
            go_roundw
            case rel => exact ⟨k + 1, by omega, by go_num, p + n', hpb, by first | exact (SF.out.drewN _).alloc _ | exact (SF.out.alloc _).drewN _⟩
            case measure => simp [intOf]; omega
        · have hno : n < 0 ∨ 24 < n ∨ (L.length : Int) - p < n := by omega
          go_wp2_with fail
          refine (refBits_no al L.length cl p n _ (by omega) (by omega) hno).mono ?_
          rintro e w5 ⟨rfl, b5⟩
          have S5 : Hid (Rw w.heap.size w2.heap.size w4 w5 a0 len0 cap0 z0 al cl L p p) := S1.out.below b5
          have hs5 : wr.heap.size < w5.heap.size := by have := b5.size; simp at this; omega
          have o5 := (b5.block wr.heap.size (by simp)).trans (heap_new wr _)
          have x2 := cells_of o5 2
          have y0 := cells_of S5.out.sd 0
          have y1 := cells_of S5.out.sd 1
          have f0 := free_of S5.out.sd 0
          have f1 := free_of S5.out.sd 1
          simp at x2 y0 y1
          have hs52 : w2.heap.size < w5.heap.size := by omega
          have S6 : Hid (Rw w.heap.size w2.heap.size w4 (((w5.setCell ⟨w2.heap.size, 0, none⟩ (.slice al L.length cl)).setCell ⟨w2.heap.size, 1, none⟩ (.int .i64 (p : Int))).alloc (.cells #[.slice al L.length cl, .int .i64 (p : Int)] 28)) a0 len0 cap0 z0 al cl L p p) := (S5.out.set (by omega) p).alloc _
          clear b5 o5 S1 q0 q1 g0 g1 S5
          go_wp2_with fail
          refine (rw_bits_no S6.out n hl0 (by omega) (by omega)).mono ?_
          rintro e w7 ⟨rfl, s7, sm7⟩
          have SF : Hid (Rw w.heap.size w2.heap.size w4 w7 a0 len0 cap0 z0 al cl L p p) := s7
          clear s7 sm7 S6 y0 y1 f0 f1 x2
          have r0 := cells_of SF.out.rd 0
          have r1 := cells_of SF.out.rd 1
          have t0 := cells_of SF.out.sd 0
          have t1 := cells_of SF.out.sd 1
          simp at r0 r1 t0 t1
          have hpb : p ≤ 8 * len0 := hp
          go_wp2_with fail
          go_region_held3 (fun w' => w'.cell? ⟨w2.heap.size, 0, none⟩ = some (.slice al L.length cl) ∧ w'.cell? ⟨w2.heap.size, 1, none⟩ = some (.int .i64 ((p : Int)))) (go_keep) ((first | (go_at_call 18; refine (left_any w.heap.size a0 len0 cap0 ((p : Int)) _ (by first | assumption | simpa using r0) (by first | assumption | simpa using r1) (by omega) (by omega) (by omega)).mono ?_; rintro e w8 ⟨rfl, q8, rfl⟩) | (go_at_call 19; refine (refLeft_arg al L.length cl (p) ((p : Int)) (by omega) _ (by omega) (by omega)).mono ?_; rintro e w9 ⟨rfl, rfl⟩)))
          all_goals
            go_wp2
            go_roundw
            case rel => exact ⟨k + 1, by omega, by go_num, p, hpb, by first | exact (SF.out.drewN _).alloc _ | exact (SF.out.alloc _).drewN _⟩
            case measure => simp [intOf]; omega
      · have b0 : (kind == 0) = false := by simpa using h0
        by_cases h1 : kind = 1
        · subst h1
          clear b0 h0
          obtain ⟨q, hq⟩ : ∃ q, q = 8 * ((p + 7) / 8) := ⟨_, rfl⟩
          have hqb : q ≤ 8 * len0 := by omega
          have HQ : Hid (q = 8 * ((p + 7) / 8)) := hq
          clear hq
          go_wp2_with fail
          refine (refAlign_arg al L.length cl p q HQ.out _ (by omega)).mono ?_
          rintro e w5 ⟨rfl, b5⟩
          have S5 : Hid (Rw w.heap.size w2.heap.size w4 w5 a0 len0 cap0 z0 al cl L p p) := S1.out.below b5
          have y0 := cells_of S5.out.sd 0
          have y1 := cells_of S5.out.sd 1
          have f0 := free_of S5.out.sd 0
          have f1 := free_of S5.out.sd 1
          simp at y0 y1
          have S6 : Hid (Rw w.heap.size w2.heap.size w4 ((w5.setCell ⟨w2.heap.size, 0, none⟩ (.slice al L.length cl)).setCell ⟨w2.heap.size, 1, none⟩ (.int .i64 (q : Int))) a0 len0 cap0 z0 al cl L p q) := S5.out.set (by omega) q
          clear b5 S1 q0 q1 g0 g1 S5
          go_wp2_with fail
          refine (rw_align S6.out q HQ.out (by omega)).mono ?_
          rintro e w7 ⟨rfl, s7, sm7⟩
          have SF : Hid (Rw w.heap.size w2.heap.size w4 w7 a0 len0 cap0 z0 al cl L q q) := s7
          clear s7 sm7 S6 y0 y1 f0 f1
          have r0 := cells_of SF.out.rd 0
          have r1 := cells_of SF.out.rd 1
          have t0 := cells_of SF.out.sd 0
          have t1 := cells_of SF.out.sd 1
          simp at r0 r1 t0 t1
          have hpb : q ≤ 8 * len0 := hqb
          go_wp2_with fail
          go_region_held3 (fun w' => w'.cell? ⟨w2.heap.size, 0, none⟩ = some (.slice al L.length cl) ∧ w'.cell? ⟨w2.heap.size, 1, none⟩ = some (.int .i64 ((q : Int)))) (go_keep) ((first | (go_at_call 18; refine (left_any w.heap.size a0 len0 cap0 ((q : Int)) _ (by first | assumption | simpa using r0) (by first | assumption | simpa using r1) (by omega) (by omega) (by omega)).mono ?_; rintro e w8 ⟨rfl, q8, rfl⟩) | (go_at_call 19; refine (refLeft_arg al L.length cl (q) ((q : Int)) (by omega) _ (by omega) (by omega)).mono ?_; rintro e w9 ⟨rfl, rfl⟩)))
          all_goals
            go_wp2
            go_roundw
            case rel => exact ⟨k + 1, by omega, by go_num, q, hpb, by first | exact (SF.out.drewN _).alloc _ | exact (SF.out.alloc _).drewN _⟩
            case measure => simp [intOf]; omega
        · have b1 : (kind == 1) = false := by simpa using h1
          by_cases h2 : kind = 2
          · subst h2
            clear b0 b1 h0 h1
            have hcvn : ∀ W : World, (convert 22 9 (.slice none 0 0)).run Try.prog W = .ok (.string (strOfNums [])) W := fun W => conv_own (OwnsB.nil W 0)
            by_cases hn : 0 ≤ n ∧ n ≤ (len0 : Int) - ((p + 7) / 8 : Nat)
            · obtain ⟨n', rfl⟩ := Int.eq_ofNat_of_zero_le hn.1
              obtain ⟨f, hf⟩ : ∃ f, f = (p + 7) / 8 := ⟨_, rfl⟩
              have hfn : f + n' ≤ len0 := by omega
              obtain ⟨E, hE⟩ : ∃ E, E = (z0.drop f).take n' := ⟨_, rfl⟩
              have HE : Hid (E = bytesL ((L.drop (8 * ((p + 7) / 8))).take (8 * n')) n') := by rw [hE, ← hf, HL.out]; exact (row_take z0 f n' (by rw [HZ1.out]; omega) HZ.out).symm
              have HE2 : Hid ((z0.drop ((p + 7) / 8)).take n' = E) := by rw [hE, hf]; rfl
              obtain ⟨q, hq⟩ : ∃ q, q = 8 * ((p + 7) / 8 + n') := ⟨_, rfl⟩
              have hqb : q ≤ 8 * len0 := by omega
              have HQ : Hid (q = 8 * ((p + 7) / 8 + n')) := hq
              have hfit : 8 * ((p + 7) / 8) + 8 * n' ≤ L.length := by omega
              have hfit2 : (p + 7) / 8 + n' ≤ len0 := by omega
              clear hq hE hf hfn hn
              go_wp2_with fail
              refine (refTake_arg al cl p n' L _ S1.out.nums HB.out hcl (by omega) hfit E HE.out q HQ.out).mono ?_
              rintro e w5 ⟨v5, rfl, ov5, b5⟩
              obtain ⟨a5, cp5, rfl⟩ := own_form ov5
              have S5 : Hid (Rw w.heap.size w2.heap.size w4 w5 a0 len0 cap0 z0 al cl L p p) := S1.out.below b5
              have hs5 : wr.heap.size < w5.heap.size := by have := b5.size; simp at this; omega
              have o5 := (b5.block wr.heap.size (by simp)).trans (heap_new wr _)
              have x2 := cells_of o5 2
              have y0 := cells_of S5.out.sd 0
              have y1 := cells_of S5.out.sd 1
              have f0 := free_of S5.out.sd 0
              have f1 := free_of S5.out.sd 1
              simp at x2 y0 y1
              have hs52 : w2.heap.size < w5.heap.size := by omega
              have S6 : Hid (Rw w.heap.size w2.heap.size w4 (((w5.setCell ⟨w2.heap.size, 0, none⟩ (.slice al L.length cl)).setCell ⟨w2.heap.size, 1, none⟩ (.int .i64 (q : Int))).alloc (.cells #[.slice al L.length cl, .int .i64 (q : Int)] 28)) a0 len0 cap0 z0 al cl L p q) := (S5.out.set (by omega) q).alloc _
              have O6 : Hid (OwnsB (((w5.setCell ⟨w2.heap.size, 0, none⟩ (.slice al L.length cl)).setCell ⟨w2.heap.size, 1, none⟩ (.int .i64 (q : Int))).alloc (.cells #[.slice al L.length cl, .int .i64 (q : Int)] 28)) 0 (.slice a5 E.length cp5) E) := own_through ov5 S5.out.sd
              clear b5 o5 S1 q0 q1 g0 g1 S5 ov5
              go_wp2_with fail
              refine (rw_bytes S6.out n' hl0 hc0 (by omega) hfit2 E HE2.out q HQ.out).mono ?_
              rintro e w7 ⟨g7, rfl, ob7, s7, sm7, kk7⟩
              have hcv1 := conv_own ob7
              have hcv2 := conv_own (own_kept2 O6.out S6.out.rd kk7)
              have SF : Hid (Rw w.heap.size w2.heap.size w4 w7 a0 len0 cap0 z0 al cl L q q) := s7
              clear s7 sm7 S6 y0 y1 f0 f1 x2 ob7 O6 kk7
              have r0 := cells_of SF.out.rd 0
              have r1 := cells_of SF.out.rd 1
              have t0 := cells_of SF.out.sd 0
              have t1 := cells_of SF.out.sd 1
              simp at r0 r1 t0 t1
              have hpb : q ≤ 8 * len0 := hqb
              go_wp2_with fail
              go_region_held3 (fun w' => w'.cell? ⟨w2.heap.size, 0, none⟩ = some (.slice al L.length cl) ∧ w'.cell? ⟨w2.heap.size, 1, none⟩ = some (.int .i64 ((q : Int)))) (go_keep) ((first | (go_at_call 18; refine (left_any w.heap.size a0 len0 cap0 ((q : Int)) _ (by first | assumption | simpa using r0) (by first | assumption | simpa using r1) (by omega) (by omega) (by omega)).mono ?_; rintro e w8 ⟨rfl, q8, rfl⟩) | (go_at_call 19; refine (refLeft_arg al L.length cl (q) ((q : Int)) (by omega) _ (by omega) (by omega)).mono ?_; rintro e w9 ⟨rfl, rfl⟩)))
              all_goals
                go_wp2
                go_roundw
                case rel => exact ⟨k + 1, by omega, by go_num, q, hpb, by first | exact (SF.out.drewN _).alloc _ | exact (SF.out.alloc _).drewN _⟩
                case measure => simp [intOf]; omega
            · have hno1 : n < 0 ∨ (L.length : Int) / 8 - ((p + 7) / 8 : Nat) < n := by omega
              have hno2 : n < 0 ∨ (len0 : Int) - ((p + 7) / 8 : Nat) < n := by omega
              have HN1 : Hid (n < 0 ∨ (L.length : Int) / 8 - ((p + 7) / 8 : Nat) < n) := hno1
              have HN2 : Hid (n < 0 ∨ (len0 : Int) - ((p + 7) / 8 : Nat) < n) := hno2
              clear hno1 hno2 hn
              go_wp2_with fail
              refine (refTake_no al L.length cl p n _ (by omega) (by omega) HN1.out).mono ?_
              rintro e w5 ⟨rfl, b5⟩
              have S5 : Hid (Rw w.heap.size w2.heap.size w4 w5 a0 len0 cap0 z0 al cl L p p) := S1.out.below b5
              have hs5 : wr.heap.size < w5.heap.size := by have := b5.size; simp at this; omega
              have o5 := (b5.block wr.heap.size (by simp)).trans (heap_new wr _)
              have x2 := cells_of o5 2
              have y0 := cells_of S5.out.sd 0
              have y1 := cells_of S5.out.sd 1
              have f0 := free_of S5.out.sd 0
              have f1 := free_of S5.out.sd 1
              simp at x2 y0 y1
              have hs52 : w2.heap.size < w5.heap.size := by omega
              have S6 : Hid (Rw w.heap.size w2.heap.size w4 (((w5.setCell ⟨w2.heap.size, 0, none⟩ (.slice al L.length cl)).setCell ⟨w2.heap.size, 1, none⟩ (.int .i64 (p : Int))).alloc (.cells #[.slice al L.length cl, .int .i64 (p : Int)] 28)) a0 len0 cap0 z0 al cl L p p) := (S5.out.set (by omega) p).alloc _
              clear b5 o5 S1 q0 q1 g0 g1 S5
              go_wp2_with fail
              refine (rw_bytes_no S6.out n hl0 (by omega) HN2.out).mono ?_
              rintro e w7 ⟨rfl, s7⟩
              have SF : Hid (Rw w.heap.size w2.heap.size w4 w7 a0 len0 cap0 z0 al cl L p p) := s7
              clear s7 S6 y0 y1 f0 f1 x2
              have r0 := cells_of SF.out.rd 0
              have r1 := cells_of SF.out.rd 1
              have t0 := cells_of SF.out.sd 0
              have t1 := cells_of SF.out.sd 1
              simp at r0 r1 t0 t1
              have hpb : p ≤ 8 * len0 := hp
              go_wp2_with fail
              go_region_held3 (fun w' => w'.cell? ⟨w2.heap.size, 0, none⟩ = some (.slice al L.length cl) ∧ w'.cell? ⟨w2.heap.size, 1, none⟩ = some (.int .i64 ((p : Int)))) (go_keep) ((first | (go_at_call 18; refine (left_any w.heap.size a0 len0 cap0 ((p : Int)) _ (by first | assumption | simpa using r0) (by first | assumption | simpa using r1) (by omega) (by omega) (by omega)).mono ?_; rintro e w8 ⟨rfl, q8, rfl⟩) | (go_at_call 19; refine (refLeft_arg al L.length cl (p) ((p : Int)) (by omega) _ (by omega) (by omega)).mono ?_; rintro e w9 ⟨rfl, rfl⟩)))
              all_goals
                go_wp2
                go_roundw
                case rel => exact ⟨k + 1, by omega, by go_num, p, hpb, by first | exact (SF.out.drewN _).alloc _ | exact (SF.out.alloc _).drewN _⟩
                case measure => simp [intOf]; omega
          · have b2 : (kind == 2) = false := by simpa using h2
            have SF : Hid (Rw w.heap.size w2.heap.size w4 (wr.alloc (.cells #[.int .i64 kind, .int .i64 v, .int .i64 n, .slice da dl dc] 32)) a0 len0 cap0 z0 al cl L p p) := S1.out
            clear S1
            have r0 := cells_of SF.out.rd 0
            have r1 := cells_of SF.out.rd 1
            have t0 := cells_of SF.out.sd 0
            have t1 := cells_of SF.out.sd 1
            simp at r0 r1 t0 t1
            have hpb : p ≤ 8 * len0 := hp
            go_wp2_with fail
            go_region_held3 (fun w' => w'.cell? ⟨w2.heap.size, 0, none⟩ = some (.slice al L.length cl) ∧ w'.cell? ⟨w2.heap.size, 1, none⟩ = some (.int .i64 ((p : Int)))) (go_keep) ((first | (go_at_call 18; refine (left_any w.heap.size a0 len0 cap0 ((p : Int)) _ (by first | assumption | simpa using r0) (by first | assumption | simpa using r1) (by omega) (by omega) (by omega)).mono ?_; rintro e w8 ⟨rfl, q8, rfl⟩) | (go_at_call 19; refine (refLeft_arg al L.length cl (p) ((p : Int)) (by omega) _ (by omega) (by omega)).mono ?_; rintro e w9 ⟨rfl, rfl⟩)))
            all_goals
              go_wp2
              go_roundw
              case rel => exact ⟨k + 1, by omega, by go_num, p, hpb, by first | exact (SF.out.drewN _).alloc _ | exact (SF.out.alloc _).drewN _⟩
              case measure => simp [intOf]; omega
    · go_wp2_with fail
      refine (alive_any _).mono ?_
      rintro e w6 ⟨rfl, b6⟩
      have hk6 := s.kp.size
      have hf6 : Below w.heap.size w w6 := (B4.out.trans (s.kp.below (by omega) (fun i hi e => by rcases e with e | e <;> omega))).trans (b6.mono (by omega))
      clear s b6
      go_wp2
      go_ret
      exact ⟨rfl, hf6⟩

theorem bulk_one {H : Type} (d : DataW H) : 1 ≤ Rows.uptoBulk d := by
  cases d with
  | lit l => cases l <;> simp [Rows.uptoBulk]
  | nil => simp [Rows.uptoBulk]
  | ptr d => simp [Rows.uptoBulk]
  | slice elems spare => simp [Rows.uptoBulk]
  | agg parts => simp [Rows.uptoBulk]
  | iface t d => simp [Rows.uptoBulk]
  | map entries => simp [Rows.uptoBulk]
  | held h => simp [Rows.uptoBulk]

theorem bulk_len {H : Type} (l : List (DataW H)) : l.length ≤ Rows.uptoBulkAll l := by
  induction l with
  | nil => simp [Rows.uptoBulkAll]
  | cons x r ih => have := bulk_one x; simp only [Rows.uptoBulkAll, List.length_cons]; omega

theorem open_small {H : Type} {enc : TypeId × Value → H} {W : World} {a : Option Addr} {len cap : Nat} {d : DataW H} {r : List (DataW H)} {p : List MemPlace} (hk : Rows.uptoSmall H (d :: r) = true) (h : DataW.Trod enc Try.prog W 0 (fun _ => true) true 22 (.slice a len cap) d p) :
    ∃ zs, Text W.heap.size W a len zs ∧ len ≤ 1048576 ∧ len ≤ cap := by
  have hb := of_decide_eq_true hk
  simp only [Rows.uptoBulkAll] at hb
  obtain ⟨fuel, hf⟩ := h
  have hcap : len ≤ cap := by
    rcases open_ints Try.underlying22 Try.underlying5 Try.cells5 hf with ⟨hcs, _⟩ | ⟨x, l, c, zs, hcs, _, hl, _⟩
    · simp [Value.cells] at hcs; omega
    · simp [Value.cells] at hcs; omega
  obtain ⟨a', len', cap', zs, hcs, htx, _, hx⟩ := trod_text hf
  simp [Value.cells] at hcs
  obtain ⟨rfl, rfl, rfl⟩ := hcs
  refine ⟨zs, htx, ?_, hcap⟩
  rcases hx with ⟨_, h0⟩ | ⟨els, sp, hx, hl⟩
  · omega
  · simp only at hx
    subst hx
    have := bulk_len els
    simp only [Rows.uptoBulk] at hb
    omega

theorem walk (a0 : Option Addr) (len0 cap0 : Nat) (z0 : List Int) (a : Option Addr) (len cap : Nat) (os : Nat → OpD) (w : World) (h0 : Text w.heap.size w a0 len0 z0) (hl0 : len0 ≤ 1048576) (hc0 : len0 ≤ cap0) (h : Ops w.heap.size w a len os) :
    Calls Try.prog 3 #[.slice a0 len0 cap0, .slice a len cap] w fun e w' => e = .returned (.bool true) ∧ Below w.heap.size w w' := by
  by_cases hs : len0 ≤ 4000 ∧ len ≤ 500
  · exact walk_in a0 len0 cap0 z0 a len cap os w h0 hc0 hs.1 h hs.2
  · exact walk_long a0 len0 cap0 z0 a len cap w h0 hl0 h.1 (by omega)

theorem contract (H : Type) (enc : TypeId × Value → H) (W : World) (base : Nat) (args : Array Value) (ds gs : List (DataW H)) (before : List MemPlace)
    (hval : ∀ (j : Nat) t v, Try.f3.params[j]? = some t → args[j]? = some v → Value.okWide Try.prog W .any base t v)
    (hW : DataW.Whole enc Try.prog Try.f3.params.toList Rows.bitsReadsSpec.vars false W args.toList ds gs before) (hk : Rows.uptoSmall H (ds ++ gs) = true) :
    Calls Try.prog 3 args W fun e W' => ∃ v, e = .returned v ∧ Rows.bitsReadsSpec.post enc Try.prog Try.f3 false true false false W args v W' := by
  have hW' := hW
  obtain ⟨p, q, hA0, hV, rfl, hfz, hnd⟩ := hW
  have hA : DataW.TrodAll enc Try.prog W 0 (fun _ => true) true Try.f3.params.toList args.toList ds p := hA0
  rw [Try.params3] at hA hval
  obtain ⟨v0, vs0, d0, ds0, p0, q0, hargs, rfl, rfl, h0, r0⟩ := trodAll_cons hA
  obtain ⟨v1, vs1, d1, ds1, p1, q1, rfl, rfl, rfl, h1, r1⟩ := trodAll_cons r0
  obtain ⟨rfl, rfl, rfl⟩ := trodAll_nil r1
  obtain rfl : args = #[v0, v1] := by cases args; simp_all
  obtain ⟨rfl, rfl⟩ := trodVars_none hV
  obtain ⟨a0, len0, cap0, rfl⟩ := okWide_slice Try.underlying22 (hval 0 22 v0 rfl rfl)
  have k0 := h0
  have lt0 : ∀ x ∈ p0, x.block < W.heap.size := by obtain ⟨m, hm⟩ := k0; exact DataW.trod_lt m _ _ _ hm
  obtain ⟨z0, t0, hl0, hc0⟩ := open_small hk h0
  obtain ⟨a1, len1, cap1, rfl⟩ := okWide_slice Try.underlying23 (hval 1 23 v1 rfl rfl)
  have k1 := h1
  have lt1 : ∀ x ∈ p1, x.block < W.heap.size := by obtain ⟨m, hm⟩ := k1; exact DataW.trod_lt m _ _ _ hm
  obtain ⟨o1, t1⟩ := open_ops h1
  clear hA0
  refine (walk a0 len0 cap0 z0 a1 len1 cap1 o1 W t0 hl0 hc0 t1).mono fun e W' ⟨he, bel⟩ => ?_
  subst he
  exact ⟨_, rfl, _, _, _, [], _, [], hW', trodAll_mk1 (shut_bool Try.underlying4 _), (trodAll_cons_mk (Below.trod laidOut (by kernel_rfl) (of_decide_eq_true (by kernel_rfl)) k0 bel lt0) (trodAll_cons_mk (Below.trod laidOut (by kernel_rfl) (of_decide_eq_true (by kernel_rfl)) k1 bel lt1) trodAll_mk0)), rfl, bel.frame _, fun h => by cases h⟩

set_option maxRecDepth 100000 in
theorem lifted (os : Os) (started : os.Started) (H : Type) (enc : TypeId × Value → H) (F : Stop.Interp) :
    ReturnsInHanded {} Try.checked os 3 .any ((Rows.OpenSpec.upto Rows.bitsReadsSpec).pre6 enc Try.prog Try.f3 Rows.bitsReadsUptoRow.domain false) (((Rows.OpenSpec.upto Rows.bitsReadsSpec).at F).post enc Try.prog Try.f3 false true false false) := by
  refine returnsInHanded_of_cond (C := Try.checked) (s := Rows.OpenSpec.upto Rows.bitsReadsSpec) (k := Rows.uptoSmall) rfl own started (by kernel_rfl) Try.func3
    (OpenSpec.witness (enc := enc) (C := Try.checked) (s := Rows.OpenSpec.upto Rows.bitsReadsSpec) (k := Rows.uptoSmall) rfl false ⟨#[], #[.slice none 0 0, .slice none 0 0], []⟩ 8 (by kernel_rfl) (by kernel_rfl) (by kernel_rfl)
      (x := ([.nil, .nil], [], [])) (by kernel_rfl) rfl (by kernel_rfl)) ?_
  intro W base args ds gs before hval hW _ hk _
  exact contract H enc W base args ds gs before hval hW hk

theorem over : Rows.bitsReadsUptoRow.holds Try.pinned (Rows.OpenSpec.upto Rows.bitsReadsSpec) :=
  OpenClaim.holds_of_cond 3 Try.f3 rfl rfl rfl rfl rfl rfl rfl ⟨rfl, rfl, rfl, rfl, rfl⟩ rfl rfl rfl rfl rfl (by kernel_rfl) Try.func3 (by kernel_rfl)
    (of_decide_eq_true (by kernel_rfl)) (by unfold Func.isWrapper; first | (rw [if_pos (by decide +kernel)]; kernel_rfl) | (rw [if_neg (by decide +kernel)]; exact ⟨rfl, rfl⟩))
    (fun os started H enc _ F => lifted os started H enc F)

theorem proved : Rows.BitsReadsUptoSaid := over
end Go.Proofs.Ytamkjlihlnejoaa.bitsReads
namespace Go.Proofs.Ytamkjlihlnejoaa
theorem bitsReadsUpto_holds : Rows.BitsReadsUptoSaid := bitsReads.proved
#print axioms bitsReadsUpto_holds
end Go.Proofs.Ytamkjlihlnejoaa
