/- The law on keys: walked. -/
import Derived.Test.YtgafejgmjenfaaaMAlive
import Derived.Test.YtgafejgmjenfaaaPKey
import Derived.Test.YtgafejgmjenfaaaHAsk
namespace Go.Proofs.Ytgafejgmjenfaaa.S
set_option maxRecDepth 100000
open Go Go.RowKit

/-- What both Keys answer: the like bytes, or both refuse. -/
def KeyRes (pw salt : List Nat) (r l : Int) (w : World) (e : Ending) (w' : World) : Prop :=
  ∃ a c ys ok, e = .returned (.tuple #[.slice a ys.length c, .bool ok]) ∧ TextAt w' a ys ∧ (ok = false ∧ ys = [] ∧ (r < 1 ∨ 5000 < r ∨ l < 0 ∨ 1000 < l) ∨ ok = true ∧ ¬ (r < 1 ∨ 5000 < r ∨ l < 0 ∨ 1000 < l) ∧ ys = keyK pw salt r.toNat l.toNat) ∧ Below w.heap.size w w'
theorem key_any (a sa : Option Addr) (ca sc : Nat) (pw salt : List Nat) (r l : Int) (w : World) (h0 : BIn w a ca pw) (h1 : BIn w sa sc salt) (hl0 : pw.length ≤ 140737488351232) (hl1 : salt.length ≤ 140737488351232) :
    Calls Try.prog 13 #[.slice a pw.length ca, .slice sa salt.length sc, .int .i64 r, .int .i64 l] w (KeyRes pw salt r l w) := by
  by_cases h : r < 1 ∨ 5000 < r ∨ l < 0 ∨ 1000 < l
  · refine (key_no _ _ r l w h).mono ?_
    rintro e w' ⟨rfl, rfl⟩
    exact ⟨none, 0, [], false, rfl, .inl rfl, .inl ⟨rfl, rfl, h⟩, Below.refl _ _⟩
  · obtain ⟨R, hR⟩ : ∃ R : Nat, r = (R : Int) + 1 := ⟨(r - 1).toNat, by omega⟩
    obtain ⟨L, hL⟩ : ∃ L : Nat, l = (L : Int) := ⟨l.toNat, by omega⟩
    subst hR hL
    refine (key_c a sa ca sc pw salt R L w h0.by_ h0.text h0.cap_ h0.most (by omega) h1.by_ h1.text h1.nil hl1 (by omega) (by omega)).mono ?_
    rintro e w' ⟨k, rfl, ht, _, hb⟩
    exact ⟨k, L, keyK pw salt (R + 1) L, true, by rw [keyK_length], ht, .inr ⟨rfl, h, by rw [show ((R : Int) + 1).toNat = R + 1 by omega, Int.toNat_natCast]⟩, hb⟩
theorem rkey_any (a sa : Option Addr) (ca sc : Nat) (pw salt : List Nat) (r l : Int) (w : World) (h0 : BIn w a ca pw) (h1 : BIn w sa sc salt) (hl0 : pw.length ≤ 3000) (hl1 : salt.length ≤ 3000) :
    Calls Try.prog 14 #[.slice a pw.length ca, .slice sa salt.length sc, .int .i64 r, .int .i64 l] w (KeyRes pw salt r l w) := by
  by_cases h : r < 1 ∨ 5000 < r ∨ l < 0 ∨ 1000 < l
  · refine (rkey_no _ _ r l w h).mono ?_
    rintro e w' ⟨rfl, rfl⟩
    exact ⟨none, 0, [], false, rfl, .inl rfl, .inl ⟨rfl, rfl, h⟩, Below.refl _ _⟩
  · obtain ⟨R, hR⟩ : ∃ R : Nat, r = (R : Int) + 1 := ⟨(r - 1).toNat, by omega⟩
    obtain ⟨L, hL⟩ : ∃ L : Nat, l = (L : Int) := ⟨l.toNat, by omega⟩
    subst hR hL
    refine (rkey_c a sa ca sc pw salt R L w h0.by_ h0.text h0.nil hl0 h1.by_ h1.text h1.nil hl1 (by omega) (by omega)).mono ?_
    rintro e w' ⟨k, c, rfl, ht, _, _, _, hb⟩
    exact ⟨k, c, keyK pw salt (R + 1) L, true, by rw [keyK_length], ht, .inr ⟨rfl, h, by rw [show ((R : Int) + 1).toNat = R + 1 by omega, Int.toNat_natCast]⟩, hb⟩
theorem BIn.below {w w' : World} {a : Option Addr} {c : Nat} {ys : List Nat} (h : BIn w a c ys) (k : Below w.heap.size w w') : BIn w' a c ys := ⟨h.text.below k, h.by_, h.cap_, h.most, h.nil⟩

set_option maxHeartbeats 4000000 in
theorem macKeys_walk (a b : Option Addr) (ca cb : Nat) (pw salt : List Nat) (r l : Int) (w : World) (h0 : BIn w a ca pw) (h1 : BIn w b cb salt) (hl0 : pw.length ≤ 140737488351232) (hl1 : salt.length ≤ 140737488351232) :
    Calls Try.prog 5 #[.slice a pw.length ca, .slice b salt.length cb, .agg #[.int .i64 r, .int .i64 l]] w (Yes w) := by
  have BA := hide ((Below.refl _ w).alloc (Nat.le_refl _) (.cells #[.int .i64 r, .int .i64 l] 28) : Below w.heap.size w _)
  have R0 := hide (heap_new w (.cells #[.int .i64 r, .int .i64 l] 28))
  have c0 := cells_of R0.out 0
  have c1 := cells_of R0.out 1
  simp only [List.getElem?_toArray, List.getElem?_cons_zero, List.getElem?_cons_succ] at c0 c1
  have H0 := hide h0
  have H1 := hide h1
  have HL1 := hide hl1
  have HL0 := hide hl0
  obtain ⟨N, hN⟩ : ∃ N, N = pw.length := ⟨_, rfl⟩
  obtain ⟨M, hM⟩ : ∃ M, M = salt.length := ⟨_, rfl⟩
  have HN := hide hN
  have HM := hide hM
  rw [← hN, ← hM]
  clear h0 h1 hl0 hl1 hN hM
  have fin1 : ∀ (hb : (60 < r ∧ r ≤ 5000) ∨ 3000 < N ∨ 3000 < M), Calls Try.prog 5 #[.slice a N ca, .slice b M cb, .agg #[.int .i64 r, .int .i64 l]] w (Yes w) := by
    intro hb
    by_cases p1 : 60 < r
    · by_cases p2 : r ≤ 5000
      · go_enter Try.func5, Try.ntmps5
        go_wp2_with (go_at_call 9; refine (alive_c _).mono ?_; rintro e w1 ⟨rfl, b1⟩)
        go_ret
        exact ⟨rfl, BA.out.trans (b1.mono BA.out.size)⟩
      · by_cases p3 : (3000 : Int) < (N : Int)
        · go_enter Try.func5, Try.ntmps5
          go_wp2_with (go_at_call 9; refine (alive_c _).mono ?_; rintro e w1 ⟨rfl, b1⟩)
          go_ret
          exact ⟨rfl, BA.out.trans (b1.mono BA.out.size)⟩
        · have p4 : (3000 : Int) < (M : Int) := by omega
          go_enter Try.func5, Try.ntmps5
          go_wp2_with (go_at_call 9; refine (alive_c _).mono ?_; rintro e w1 ⟨rfl, b1⟩)
          go_ret
          exact ⟨rfl, BA.out.trans (b1.mono BA.out.size)⟩
    · by_cases p3 : (3000 : Int) < (N : Int)
      · go_enter Try.func5, Try.ntmps5
        go_wp2_with (go_at_call 9; refine (alive_c _).mono ?_; rintro e w1 ⟨rfl, b1⟩)
        go_ret
        exact ⟨rfl, BA.out.trans (b1.mono BA.out.size)⟩
      · have p4 : (3000 : Int) < (M : Int) := by omega
        go_enter Try.func5, Try.ntmps5
        go_wp2_with (go_at_call 9; refine (alive_c _).mono ?_; rintro e w1 ⟨rfl, b1⟩)
        go_ret
        exact ⟨rfl, BA.out.trans (b1.mono BA.out.size)⟩
  by_cases hb : (60 < r ∧ r ≤ 5000) ∨ 3000 < N ∨ 3000 < M
  · exact fin1 hb
  · clear fin1
    have p3 : ¬ (3000 : Int) < (N : Int) := by omega
    have p4 : ¬ (3000 : Int) < (M : Int) := by omega
    have HK := hide (key_any a b ca cb pw salt r l _ (H0.out.below BA.out) (H1.out.below BA.out) HL0.out HL1.out)
    rw [← HN.out, ← HM.out] at HK
    by_cases p1 : 60 < r
    · have p2 : ¬ r ≤ 5000 := by omega
      go_enter Try.func5, Try.ntmps5
      go_upto_region 4 with (go_at_call 13; refine HK.out.mono ?_; rintro e w1 ⟨k1, x1, ys1, ok1, rfl, t1, res1, b1⟩; have T1 := hide t1; have RS1 := hide res1; have B1 := hide (BA.out.trans (b1.mono BA.out.size)); have d0 := (b1.cell (p := ⟨w.heap.size, 0, none⟩) (by simp)).trans c0; have d1 := (b1.cell (p := ⟨w.heap.size, 1, none⟩) (by simp)).trans c1; clear b1 t1 res1)
      have HQ := hide (rkey_any a b ca cb pw salt r l w1 (H0.out.below B1.out) (H1.out.below B1.out) (by rw [← HN.out]; omega) (by rw [← HM.out]; omega))
      rw [← HN.out, ← HM.out] at HQ
      obtain ⟨n1, hn1⟩ : ∃ n1, n1 = ys1.length := ⟨_, rfl⟩
      have HN1 := hide hn1
      rw [← hn1]
      clear HK c0 c1 hn1
      go_upto_region 5 with (go_at_call 14; refine HQ.out.mono ?_; rintro e w2 ⟨k2, x2, ys2, ok2, rfl, t2, res2, b2⟩; have T2 := hide t2; have RS2 := hide res2; have T1' := hide (T1.out.below b2); have B2 := hide (B1.out.trans (b2.mono B1.out.size)); clear b2 t2 res2)
      have hok : ok2 = ok1 ∧ ys2 = ys1 := by
        rcases RS1.out with ⟨e1, e2, h⟩ | ⟨e1, h, e2⟩ <;> rcases RS2.out with ⟨f1, f2, g⟩ | ⟨f1, g, f2⟩ <;> first | exact absurd h g | exact absurd g h | exact ⟨f1.trans e1.symm, f2.trans e2.symm⟩
      obtain ⟨rfl, rfl⟩ := hok
      rw [← HN1.out]
      have HV1 := fun W (k : Below w2.heap.size w2 W) => hide (conv_at (cap := x1) (T1'.out.below k))
      have HV2 := fun W (k : Below w2.heap.size w2 W) => hide (conv_at (cap := x2) (T2.out.below k))
      rw [← HN1.out] at HV1 HV2
      generalize strOfNums (ys2.map fun (x : Nat) => (x : Int)) = S at HV1 HV2
      clear HQ RS1 RS2 T1 T1' T2 d0 d1
      go_wp2_with (go_at_call 9; refine (alive_c _).mono ?_; rintro e w3 ⟨rfl, b3⟩; have B3 := hide (B2.out.trans (b3.mono B2.out.size)); have hv1 := (HV1 w3 b3).out; have hv2 := (HV2 w3 b3).out; clear b3)
      go_ret
      exact ⟨rfl, B3.out⟩
    · go_enter Try.func5, Try.ntmps5
      go_upto_region 4 with (go_at_call 13; refine HK.out.mono ?_; rintro e w1 ⟨k1, x1, ys1, ok1, rfl, t1, res1, b1⟩; have T1 := hide t1; have RS1 := hide res1; have B1 := hide (BA.out.trans (b1.mono BA.out.size)); have d0 := (b1.cell (p := ⟨w.heap.size, 0, none⟩) (by simp)).trans c0; have d1 := (b1.cell (p := ⟨w.heap.size, 1, none⟩) (by simp)).trans c1; clear b1 t1 res1)
      have HQ := hide (rkey_any a b ca cb pw salt r l w1 (H0.out.below B1.out) (H1.out.below B1.out) (by rw [← HN.out]; omega) (by rw [← HM.out]; omega))
      rw [← HN.out, ← HM.out] at HQ
      obtain ⟨n1, hn1⟩ : ∃ n1, n1 = ys1.length := ⟨_, rfl⟩
      have HN1 := hide hn1
      rw [← hn1]
      clear HK c0 c1 hn1
      go_upto_region 5 with (go_at_call 14; refine HQ.out.mono ?_; rintro e w2 ⟨k2, x2, ys2, ok2, rfl, t2, res2, b2⟩; have T2 := hide t2; have RS2 := hide res2; have T1' := hide (T1.out.below b2); have B2 := hide (B1.out.trans (b2.mono B1.out.size)); clear b2 t2 res2)
      have hok : ok2 = ok1 ∧ ys2 = ys1 := by
        rcases RS1.out with ⟨e1, e2, h⟩ | ⟨e1, h, e2⟩ <;> rcases RS2.out with ⟨f1, f2, g⟩ | ⟨f1, g, f2⟩ <;> first | exact absurd h g | exact absurd g h | exact ⟨f1.trans e1.symm, f2.trans e2.symm⟩
      obtain ⟨rfl, rfl⟩ := hok
      rw [← HN1.out]
      have HV1 := fun W (k : Below w2.heap.size w2 W) => hide (conv_at (cap := x1) (T1'.out.below k))
      have HV2 := fun W (k : Below w2.heap.size w2 W) => hide (conv_at (cap := x2) (T2.out.below k))
      rw [← HN1.out] at HV1 HV2
      generalize strOfNums (ys2.map fun (x : Nat) => (x : Int)) = S at HV1 HV2
      clear HQ RS1 RS2 T1 T1' T2 d0 d1
      go_wp2_with (go_at_call 9; refine (alive_c _).mono ?_; rintro e w3 ⟨rfl, b3⟩; have B3 := hide (B2.out.trans (b3.mono B2.out.size)); have hv1 := (HV1 w3 b3).out; have hv2 := (HV2 w3 b3).out; clear b3)
      go_ret
      exact ⟨rfl, B3.out⟩
end Go.Proofs.Ytgafejgmjenfaaa.S
