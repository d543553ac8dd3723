/-
  PROVED: 'wainloadlaw01.BitsParts' answers true for every b, n and m: bits that are taken in two steps are those that are taken in one, the second number above the first; no conditions.
-/
import Derived.Test.YtamkjlihlnejoaaOpen
namespace Go.Proofs.Ytamkjlihlnejoaa.bitsParts
open Go.ChangeShapes Go.WideShapes Go.ChangeAt Go.RowKit
set_option linter.unusedVariables false

/-- Two readers of one text. -/
structure Two (H : Nat) (w0 w : World) (a : Option Addr) (len cap : Nat) (zs : List Int) (p q : Nat) : Prop where
  r : w.heap[H]? = some (.cells #[.slice a len cap, .int .i64 (p : Int)] 55 (0, 0))
  s : w.heap[H + 1]? = some (.cells #[.slice a len cap, .int .i64 (q : Int)] 55 (0, 0))
  tx : Text H w a len zs
  bel : Below H w0 w
  sz : H + 2 ≤ w.heap.size

theorem Two.drewN {H : Nat} {w0 w : World} {a : Option Addr} {len cap : Nat} {zs : List Int} {p q : Nat} (t : Two H w0 w a len cap zs p q) (k : Nat) : Two H w0 (w.drewN k) a len cap zs p q :=
  ⟨t.r, t.s, t.tx.kept (Kept.drewN (Kept.refl (fun _ => False) w) k) (fun _ _ h => h), ⟨t.bel.os, t.bel.tape, t.bel.output, t.bel.size, t.bel.block⟩, t.sz⟩

theorem two_r {H : Nat} {w0 w : World} {a : Option Addr} {len cap : Nat} {zs : List Int} {p q : Nat} (t : Two H w0 w a len cap zs p q) (hl : len ≤ 140737488351232) (n : Nat) (ni : Int) (hni : ni = n) (hn : n ≤ 24) (hp : p + n ≤ len * 8) :
    Calls Try.prog 13 #[.pointer (some ⟨H, 0, none⟩), .int .i64 ni] w fun e w' => e = .returned (.tuple #[.int .i64 (bitsVal zs p n), .bool true]) ∧ Two H w0 w' a len cap zs (p + n) q := by
  subst hni
  refine (bits_yes H H a len cap p n zs w t.r t.tx (by omega) hn hp).mono ?_
  rintro e w' ⟨rfl, hb, hk⟩
  exact ⟨rfl, hb, hk.heap t.s (by omega), t.tx.kept hk (fun b hb e => by omega), t.bel.trans (hk.below (by have := t.sz; omega) (fun i hi e => by omega)), by have := t.sz; have := hk.size; omega⟩

theorem two_s {H : Nat} {w0 w : World} {a : Option Addr} {len cap : Nat} {zs : List Int} {p q : Nat} (t : Two H w0 w a len cap zs p q) (hl : len ≤ 140737488351232) (n : Nat) (ni : Int) (hni : ni = n) (hn : n ≤ 24) (hp : q + n ≤ len * 8) :
    Calls Try.prog 13 #[.pointer (some ⟨H + 1, 0, none⟩), .int .i64 ni] w fun e w' => e = .returned (.tuple #[.int .i64 (bitsVal zs q n), .bool true]) ∧ Two H w0 w' a len cap zs p (q + n) := by
  subst hni
  refine (bits_yes H (H + 1) a len cap q n zs w t.s t.tx (by omega) hn hp).mono ?_
  rintro e w' ⟨rfl, hb, hk⟩
  exact ⟨rfl, hk.heap t.r (by omega), hb, t.tx.kept hk (fun b hb e => by omega), t.bel.trans (hk.below (by have := t.sz; omega) (fun i hi e => by omega)), by have := t.sz; have := hk.size; omega⟩

theorem two_r_no {H : Nat} {w0 w : World} {a : Option Addr} {len cap : Nat} {zs : List Int} {p q : Nat} (t : Two H w0 w a len cap zs p q) (hl : len ≤ 140737488351232) (n : Int) (hp : p ≤ len * 8) (hn : n < 0 ∨ 24 < n ∨ (len : Int) * 8 - p < n) :
    Calls Try.prog 13 #[.pointer (some ⟨H, 0, none⟩), .int .i64 n] w fun e w' => e = .returned (.tuple #[.int .i64 0, .bool false]) ∧ Two H w0 w' a len cap zs p q := by
  refine (bits_no H a len cap p n w t.r (by omega) hp hn).mono ?_
  rintro e w' ⟨rfl, k, rfl⟩
  exact ⟨rfl, t.drewN k⟩

theorem two_s_no {H : Nat} {w0 w : World} {a : Option Addr} {len cap : Nat} {zs : List Int} {p q : Nat} (t : Two H w0 w a len cap zs p q) (hl : len ≤ 140737488351232) (n : Int) (hp : q ≤ len * 8) (hn : n < 0 ∨ 24 < n ∨ (len : Int) * 8 - q < n) :
    Calls Try.prog 13 #[.pointer (some ⟨H + 1, 0, none⟩), .int .i64 n] w fun e w' => e = .returned (.tuple #[.int .i64 0, .bool false]) ∧ Two H w0 w' a len cap zs p q := by
  refine (bits_no (H + 1) a len cap q n w t.s (by omega) hp hn).mono ?_
  rintro e w' ⟨rfl, k, rfl⟩
  exact ⟨rfl, t.drewN k⟩

theorem named_r {f : Nat} {args : Array Value} {w : World} {x : Int} {R : World → Prop} (h : Calls Try.prog f args w fun e w' => e = .returned (.tuple #[.int .i64 x, .bool true]) ∧ R w') :
    Calls Try.prog f args w fun e w' => ∃ V, Hid (V = x) ∧ e = .returned (.tuple #[.int .i64 V, .bool true]) ∧ R w' := h.mono fun _ _ ⟨he, hr⟩ => ⟨x, rfl, he, hr⟩

theorem two_new {w : World} {a : Option Addr} {len cap : Nat} {zs : List Int} (ht : Text w.heap.size w a len zs) : Two w.heap.size w ((w.alloc (.cells #[.slice a len cap, .int .i64 0] 55)).alloc (.cells #[.slice a len cap, .int .i64 0] 55)) a len cap zs 0 0 := by
  refine ⟨heap_new1 w _ _, heap_new2 w _ _, ?_, ?_, by simp⟩
  · exact ht.kept (Kept.alloc _ (Kept.alloc _ (Kept.refl (fun _ => False) w) _) _) (fun _ _ h => h)
  · exact ((Below.refl _ _).alloc (Nat.le_refl _) _).alloc (by simp) _

theorem walk_out (a : Option Addr) (len cap : Nat) (n m : Int) (w : World) (h : n < 0 ∨ m < 0 ∨ 24 < n ∨ 24 - n < m) (hm0 : -9223372036854775808 ≤ m) :
    Calls Try.prog 8 #[.slice a len cap, .int .i64 n, .int .i64 m] w fun e w' => e = .returned (.bool true) ∧ Below w.heap.size w w' := by
  have HB : Hid (Below w.heap.size w ((w.alloc (.cells #[.slice a len cap, .int .i64 0] 55)).alloc (.cells #[.slice a len cap, .int .i64 0] 55))) := ((Below.refl _ _).alloc (Nat.le_refl _) _).alloc (by simp) _
  have hc : n < 0 ∨ (0 ≤ n ∧ m < 0) ∨ (0 ≤ n ∧ 0 ≤ m ∧ 24 < n) ∨ (0 ≤ n ∧ 0 ≤ m ∧ n ≤ 24 ∧ 24 - n < m) := by omega
  clear h
  rcases hc with h | ⟨h, h2⟩ | ⟨h, h2, h3⟩ | ⟨h, h2, h3, h4⟩
  all_goals
    go_enter Try.func8, Try.ntmps8
    go_wp2_with (first
      | (go_at_call 9; refine (newReader_any _ _ _ _).mono ?_; rintro e w1 ⟨rfl, rfl⟩)
      | (go_at_call 11; refine (alive_any _).mono ?_; rintro e w' ⟨rfl, hb⟩))
    go_ret
    exact ⟨rfl, HB.out.trans (Below.mono (by assumption) (by simp; omega))⟩

set_option maxHeartbeats 1000000 in
theorem walk_yes (a : Option Addr) (len cap n m : Nat) (zs : List Int) (w : World) (ht : Text w.heap.size w a len zs) (hl : len ≤ 140737488351232) (hnm : n + m ≤ 24) (hfit : n + m ≤ len * 8) :
    Calls Try.prog 8 #[.slice a len cap, .int .i64 (n : Int), .int .i64 (m : Int)] w fun e w' => e = .returned (.bool true) ∧ Below w.heap.size w w' := by
  have HS : Hid (Two w.heap.size w ((w.alloc (.cells #[.slice a len cap, .int .i64 0] 55)).alloc (.cells #[.slice a len cap, .int .i64 0] 55)) a len cap zs 0 0) := two_new ht
  go_enter Try.func8, Try.ntmps8
  go_wp2_with (go_at_call 9; refine (newReader_any _ _ _ _).mono ?_; rintro e w1 ⟨rfl, rfl⟩)
  refine (named_r (two_r HS.out hl (n + m) _ (by omega) hnm (by omega))).mono ?_
  rintro e w1 ⟨V, HV, rfl, t1⟩
  go_wp2_with fail
  refine (named_r (two_s t1 hl n _ rfl (by omega) (by omega))).mono ?_
  rintro e w2 ⟨X, HX, rfl, t2⟩
  go_wp2_with fail
  refine (named_r (two_s t2 hl m _ rfl (by omega) (by omega))).mono ?_
  rintro e w3 ⟨Y, HY, rfl, t3⟩
  clear t1 t2 HS ht
  go_wp2_with fail
  refine (alive_any _).mono ?_
  rintro e w4 ⟨rfl, hb⟩
  have hk := Kept.of_below hb
  have hsz := t3.sz
  have r4 := hk.heap t3.r (by omega)
  have s4 := hk.heap t3.s (by omega)
  have HB : Hid (Below w.heap.size w w4) := t3.bel.trans (hb.mono (by omega))
  clear t3 hb hk hsz
  have c0 := cells_of r4 0
  have c1 := cells_of r4 1
  have d0 := cells_of s4 0
  have d1 := cells_of s4 1
  simp at c0 c1 d0 d1
  have ej : (V == bits .or .i64 X (wrap64 (Y * 2 ^ n))) = true := by
    have := bits_join zs 0 n m hnm
    have h1 := HV.out
    have h2 := HX.out
    have h3 := HY.out
    simp only [Nat.zero_add] at h1 h2 h3 this
    rw [h1, h2, h3, this]; simp
  clear HV HX HY
  go_wp2_with fail
  refine (left_any w.heap.size a len cap ((n : Int) + m) w4 c0 (by simpa using c1) (by omega) (by omega) (by omega)).mono ?_
  rintro e w5 ⟨rfl, q1, rfl⟩
  go_wp2_with fail
  refine (left_any (w.heap.size + 1) a len cap ((n : Int) + m) _ (by simpa using d0) (by simpa using d1) (by omega) (by omega) (by omega)).mono ?_
  rintro e w5 ⟨rfl, q2, rfl⟩
  go_wp2
  go_ret
  exact ⟨rfl, ⟨HB.out.os, HB.out.tape, HB.out.output, HB.out.size, HB.out.block⟩⟩

set_option maxHeartbeats 1000000 in
theorem walk_no (a : Option Addr) (len cap n m : Nat) (zs : List Int) (w : World) (ht : Text w.heap.size w a len zs) (hl : len ≤ 140737488351232) (hnm : n + m ≤ 24) (hfit : len * 8 < n + m) :
    Calls Try.prog 8 #[.slice a len cap, .int .i64 (n : Int), .int .i64 (m : Int)] w fun e w' => e = .returned (.bool true) ∧ Below w.heap.size w w' := by
  have HS : Hid (Two w.heap.size w ((w.alloc (.cells #[.slice a len cap, .int .i64 0] 55)).alloc (.cells #[.slice a len cap, .int .i64 0] 55)) a len cap zs 0 0) := two_new ht
  go_enter Try.func8, Try.ntmps8
  go_wp2_with (go_at_call 9; refine (newReader_any _ _ _ _).mono ?_; rintro e w1 ⟨rfl, rfl⟩)
  refine (two_r_no HS.out hl _ (by omega) (by omega)).mono ?_
  rintro e w1 ⟨rfl, t1⟩
  clear HS ht
  by_cases hn : n ≤ len * 8
  · go_wp2_with fail
    refine (two_s t1 hl n _ rfl (by omega) (by omega)).mono ?_
    rintro e w2 ⟨rfl, t2⟩
    go_wp2_with fail
    refine (two_s_no t2 hl _ (by omega) (by omega)).mono ?_
    rintro e w3 ⟨rfl, t3⟩
    clear t1 t2
    go_wp2_with fail
    refine (alive_any _).mono ?_
    rintro e w4 ⟨rfl, hb⟩
    have HB : Hid (Below w.heap.size w w4) := t3.bel.trans (hb.mono (by have := t3.sz; omega))
    clear t3 hb
    go_wp2
    go_ret
    exact ⟨rfl, HB.out⟩
  · go_wp2_with fail
    refine (two_s_no t1 hl _ (by omega) (by omega)).mono ?_
    rintro e w2 ⟨rfl, t2⟩
    by_cases hm : m ≤ len * 8
    · go_wp2_with fail
      refine (two_s t2 hl m _ rfl (by omega) (by omega)).mono ?_
      rintro e w3 ⟨rfl, t3⟩
      clear t1 t2
      go_wp2_with fail
      refine (alive_any _).mono ?_
      rintro e w4 ⟨rfl, hb⟩
      have HB : Hid (Below w.heap.size w w4) := t3.bel.trans (hb.mono (by have := t3.sz; omega))
      clear t3 hb
      go_wp2
      go_ret
      exact ⟨rfl, HB.out⟩
    · go_wp2_with fail
      refine (two_s_no t2 hl _ (by omega) (by omega)).mono ?_
      rintro e w3 ⟨rfl, t3⟩
      clear t1 t2
      go_wp2_with fail
      refine (alive_any _).mono ?_
      rintro e w4 ⟨rfl, hb⟩
      have HB : Hid (Below w.heap.size w w4) := t3.bel.trans (hb.mono (by have := t3.sz; omega))
      clear t3 hb
      go_wp2
      go_ret
      exact ⟨rfl, HB.out⟩

theorem walk (a : Option Addr) (len cap : Nat) (n m : Int) (zs : List Int) (w : World) (ht : Text w.heap.size w a len zs) (hl : len ≤ 140737488351232) (hm0 : -9223372036854775808 ≤ m) :
    Calls Try.prog 8 #[.slice a len cap, .int .i64 n, .int .i64 m] w fun e w' => e = .returned (.bool true) ∧ Below w.heap.size w w' := by
  by_cases h : n < 0 ∨ m < 0 ∨ 24 < n ∨ 24 - n < m
  · exact walk_out a len cap n m w h hm0
  · obtain ⟨n', rfl⟩ := Int.eq_ofNat_of_zero_le (show 0 ≤ n by omega)
    obtain ⟨m', rfl⟩ := Int.eq_ofNat_of_zero_le (show 0 ≤ m by omega)
    by_cases hf : n' + m' ≤ len * 8
    · exact walk_yes a len cap n' m' zs w ht hl (by omega) hf
    · exact walk_no a len cap n' m' zs w ht hl (by omega) (by omega)

set_option maxRecDepth 100000 in
theorem lifted (os : Os) (started : os.Started) (H : Type) (enc : TypeId × Value → H) :
    ReturnsInHanded {} Try.checked os 8 .any (Rows.bitsPartsSpec.pre6 enc Try.prog Try.f8 Rows.bitsPartsRow.domain false) (Rows.bitsPartsSpec.post enc Try.prog Try.f8 false true false false) := by
  refine returnsInHanded_of_change_sized (C := Try.checked) own started (by kernel_rfl) Try.func8
    (ChangeSpec.witness6 (enc := enc) (C := Try.checked) false ⟨#[], #[.slice none 0 0, .int .i64 0, .int .i64 0], []⟩ 8 (by kernel_rfl) (by kernel_rfl) (by kernel_rfl) (by kernel_rfl)) ?_
  intro W base args ds gs before hval0 hW _ hsz0 _
  have hsz : (DataW.weightsEach Try.prog (Try.f8.params.toList ++ Rows.bitsPartsSpec.plain.varTypes Try.prog) (ds ++ gs)).all (· ≤ reachBytes) = true := hsz0
  clear hsz0
  have hval : ∀ (j : Nat) t v, Try.f8.params[j]? = some t → args[j]? = some v → Value.okWide Try.prog W .any base t v := hval0
  have hW' := hW
  obtain ⟨p, q, hA0, hV, rfl, hfz, hnd⟩ := hW
  have hA : DataW.TrodAll enc Try.prog W 0 (fun _ => true) true Try.f8.params.toList args.toList ds p := hA0
  rw [Try.params8] at hA hval hsz
  obtain ⟨v0, vs0, d0, ds0, p0, q0, hargs, rfl, rfl, h0, r0⟩ := trodAll_cons hA
  obtain ⟨v1, vs1, d1, ds1, p1, q1, rfl, rfl, rfl, h1, r1⟩ := trodAll_cons r0
  obtain ⟨v2, vs2, d2, ds2, p2, q2, rfl, rfl, rfl, h2, r2⟩ := trodAll_cons r1
  obtain ⟨rfl, rfl, rfl⟩ := trodAll_nil r2
  obtain rfl : args = #[v0, v1, v2] := by cases args; simp_all
  obtain ⟨rfl, rfl⟩ := trodVars_none hV
  obtain ⟨a0, len0, cap0, rfl⟩ := okWide_slice Try.underlying22 (hval 0 22 v0 rfl rfl)
  have k0 := h0
  have lt0 : ∀ x ∈ p0, x.block < W.heap.size := by obtain ⟨m, hm⟩ := k0; exact DataW.trod_lt m _ _ _ hm
  obtain ⟨z0, t0, hl0⟩ := open_text (j := 0) hsz rfl rfl h0
  obtain ⟨a1, rfl, rfl, rfl, w1⟩ := open_int Try.underlying3 (hval 1 3 v1 rfl rfl) h1
  obtain ⟨a2, rfl, rfl, rfl, w2⟩ := open_int Try.underlying3 (hval 2 3 v2 rfl rfl) h2
  clear hA0 hval0
  refine (walk a0 len0 cap0 a1 a2 z0 W t0 hl0 (bounds_i64 w2).1).mono fun e W' ⟨he, bel⟩ => ?_
  subst he
  exact ⟨_, rfl, _, _, _, [], _, [], hW', trodAll_mk1 (shut_bool Try.underlying4 _), (trodAll_cons_mk (Below.trod laidOut (by kernel_rfl) (of_decide_eq_true (by kernel_rfl)) k0 bel lt0) (trodAll_cons_mk (shut_int Try.underlying3 w1) (trodAll_cons_mk (shut_int Try.underlying3 w2) trodAll_mk0))), rfl, bel.frame _, fun h => by cases h⟩

theorem over : Rows.bitsPartsRow.holds Try.pinned (OpenSpec.ofChange Rows.bitsPartsSpec) :=
  OpenClaim.holds_of_wide 8 Try.f8 rfl rfl rfl rfl rfl rfl rfl ⟨rfl, rfl, rfl, rfl, rfl⟩ rfl rfl rfl rfl rfl (by kernel_rfl) Try.func8 (by kernel_rfl)
    (of_decide_eq_true (by kernel_rfl)) (by unfold Func.isWrapper; first | (rw [if_pos (by decide +kernel)]; kernel_rfl) | (rw [if_neg (by decide +kernel)]; exact ⟨rfl, rfl⟩))
    (fun os started H enc _ => lifted os started H enc)

theorem proved : Rows.BitsPartsSaid := over
end Go.Proofs.Ytamkjlihlnejoaa.bitsParts
namespace Go.Proofs.Ytamkjlihlnejoaa
theorem bitsParts_holds : Rows.BitsPartsSaid := bitsParts.proved
#print axioms bitsParts_holds
end Go.Proofs.Ytamkjlihlnejoaa
