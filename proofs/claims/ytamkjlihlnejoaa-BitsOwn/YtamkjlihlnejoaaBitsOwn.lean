/-
  PROVED: 'wainloadlaw01.BitsOwn' answers true for every b and script: what a reader's Bytes and a writer's Data tell is the caller's own, and what is read stays as it was; no conditions.
-/
import Derived.Test.YtamkjlihlnejoaaReadMore
import Derived.Test.YtamkjlihlnejoaaOpenOps
namespace Go.Proofs.Ytamkjlihlnejoaa.bitsOwn
open Go.ChangeShapes Go.WideShapes Go.ChangeAt Go.RowKit
set_option linter.unusedVariables false

theorem walk_out (a0 : Option Addr) (len0 cap0 : Nat) (a : Option Addr) (len cap : Nat) (os : Nat → OpD) (w : World) (h : Ops w.heap.size w a len os) (hf : ¬ (len ≤ 200 ∧ ∀ i, i < len → (os i).len ≤ 200)) :
    Calls Try.prog 6 #[.slice a0 len0 cap0, .slice a len cap] w fun e w' => e = .returned (.bool true) ∧ Below w.heap.size w w' := by
  have few : Calls Try.prog 20 #[.slice a len cap] w fun e w' => e = .returned (.bool false) ∧ Below w.heap.size w w' := by
    by_cases hl : len ≤ 200
    · exact few_no a len cap os w h hl (fun hh => hf ⟨hl, hh⟩)
    · exact few_long a len cap w (by omega) h.1
  clear h hf
  go_enter Try.func6, Try.ntmps6
  go_wp2_with fail
  refine few.mono ?_
  rintro e w1 ⟨rfl, b1⟩
  clear few
  go_wp2_with fail
  refine (alive_any _).mono ?_
  rintro e w2 ⟨rfl, b2⟩
  go_wp2
  go_ret
  exact ⟨rfl, b1.trans (b2.mono b1.size)⟩

/-- A block whose first n cells are bytes, whatever they are. -/
def ByteBlock (w : World) (g n : Nat) : Prop := ∃ cur : Array Value, w.heap[g]? = some (.cells cur 5 (0, 0)) ∧ ∀ k, k < n → ∃ y, cur[k]? = some (.int .u8 y)

theorem ByteBlock.cell {w : World} {g n k : Nat} (h : ByteBlock w g n) (hk : k < n) : ∃ y, w.cell? ⟨g, k, none⟩ = some (.int .u8 y) ∧ w.frozen? ⟨g, k, none⟩ = false := by
  obtain ⟨cur, hb, hn⟩ := h
  obtain ⟨y, hy⟩ := hn k hk
  exact ⟨y, by rw [cells_of hb, hy], free_of hb k⟩

theorem ByteBlock.set {w : World} {g n k : Nat} {y : Int} (h : ByteBlock w g n) : ByteBlock (w.setCell ⟨g, k, none⟩ (.int .u8 y)) g n := by
  obtain ⟨cur, hb, hn⟩ := h
  refine ⟨_, set_of hb k _, fun i hi => ?_⟩
  obtain ⟨z, hz⟩ := hn i hi
  by_cases e : k = i
  · subst e
    have hlt : k < cur.size := by
      rcases Nat.lt_or_ge k cur.size with h' | h'
      · exact h'
      · rw [Array.getElem?_eq_none h'] at hz; simp at hz
    exact ⟨y, by simp [hlt]⟩
  · exact ⟨z, by rw [Array.getElem?_setIfInBounds_ne e]; exact hz⟩

theorem ByteBlock.of_own {w : World} {base g n cap : Nat} {D : List Int} (h : OwnsB w base (.slice (some ⟨g, 0, none⟩) n cap) D) : ByteBlock w g D.length := by
  rcases h.2 with ⟨hv, _⟩ | ⟨g', cp, cur, hv, _, hh, _, _, hs, ht⟩
  · simp at hv
  · simp at hv
    obtain ⟨rfl, _⟩ := hv
    refine ⟨cur, hh, fun k hk => ⟨D.getD k 0, ?_⟩⟩
    have h1 : (List.take (D.length * 1) cur.toList)[k]? = (D.map (Value.int .u8))[k]? := by rw [ht]
    rw [List.getElem?_take_of_lt (by omega)] at h1
    rw [← Array.getElem?_toList, h1]
    simp [List.getD, hk]

theorem ByteBlock.kept {w w' : World} {g n : Nat} {M : Nat → Prop} (h : ByteBlock w g n) (k : Kept M w w') (hn : ¬ M g) : ByteBlock w' g n := by
  obtain ⟨cur, hb, hc⟩ := h
  exact ⟨cur, k.heap hb hn, hc⟩

theorem ld_kept {H : Nat} {w0 w w' : World} {vl : Value} {Lw Ll : List Int} {br : Nat} {cs : Array Value} (s : Ld H w0 w vl Lw Ll) (hb : w.heap[br]? = some (.cells cs 55 (0, 0))) (k : Kept (fun k => k = br) w w') : Ld H w' w' vl Lw Ll := by
  obtain ⟨⟨v, bs, t, m, hw, hr⟩, ho, _, hs⟩ := s
  refine ⟨⟨v, bs, t, m, hw.kept k (fun e => ?_) (fun g hg e => ?_), hr⟩, ho.kept k (fun g hg e => ?_), Below.refl _ _, by have := k.size; omega⟩
  · subst e; rw [hw.block] at hb; simp at hb
  · subst e; exact ownsRow_apart hw.owns hb (by decide) hg
  · subst e; exact ownsRow_apart ho hb (by decide) hg

theorem open_cap {H : Type} {enc : TypeId × Value → H} {W : World} {a : Option Addr} {len cap : Nat} {d : DataW H} {p : List MemPlace} (h : DataW.Trod enc Try.prog W 0 (fun _ => true) true 22 (.slice a len cap) d p) : len ≤ cap := by
  obtain ⟨fuel, hf⟩ := h
  rcases open_ints Try.underlying22 Try.underlying5 Try.cells5 hf with ⟨hcs, _⟩ | ⟨x, l, c, zs, hcs, _, hl, _⟩
  · simp [Value.cells] at hcs; omega
  · simp [Value.cells] at hcs; omega

set_option maxHeartbeats 1000000 in
theorem walk_in (a0 : Option Addr) (len0 cap0 : Nat) (z0 : List Int) (a : Option Addr) (len cap : Nat) (os : Nat → OpD) (w : World) (h0 : Text w.heap.size w a0 len0 z0) (hc0 : len0 ≤ cap0) (hl0 : len0 ≤ 140737488351232) (h : Ops w.heap.size w a len os) (hl : len ≤ 200) (hf : ∀ i, i < len → (os i).len ≤ 200) :
    Calls Try.prog 6 #[.slice a0 len0 cap0, .slice a len cap] w fun e w' => e = .returned (.bool true) ∧ Below w.heap.size w w' := by
  have hrl := rowAt_len os len (fun i hi => by
    obtain ⟨b, off, hb, _, hc⟩ := h.2.resolve_left (by omega)
    rw [(hc i hi).tx.1]; exact hf i hi)
  have HO : Hid (Ops w.heap.size w a len os) := h
  have HT : Hid (Text w.heap.size w a0 len0 z0) := h0
  have HF : Hid (∀ i, i < len → (os i).len ≤ 200) := hf
  clear h hf h0
  go_enter Try.func6, Try.ntmps6
  go_wp2_with fail
  refine (few_yes a len cap os w HO.out hl HF.out).mono ?_
  rintro e w1 ⟨rfl, b1⟩
  have hs1 := b1.size
  have t1 : Text w.heap.size w1 a0 len0 z0 := HT.out.kept (Kept.of_below b1) (fun b hb h => by omega)
  have hcv1 := conv_text (cap := cap0) t1
  have B1 : Hid (Below w.heap.size w w1) := b1
  have T1 : Hid (Text w.heap.size w1 a0 len0 z0) := t1
  clear b1 t1
  go_wp2_with (go_at_call 9; refine (newReader_any _ _ _ _).mono ?_; rintro e w2 ⟨rfl, rfl⟩)
  clear hcv1
  obtain ⟨w2, hw2⟩ : ∃ w2, w2 = w1.alloc (.cells #[.slice a0 len0 cap0, .int .i64 0] 55) := ⟨_, rfl⟩
  have b2 : Below w.heap.size w w2 := by rw [hw2]; exact B1.out.alloc hs1 _
  have t2 : Text w.heap.size w2 a0 len0 z0 := HT.out.kept (Kept.of_below b2) (fun b hb h => by omega)
  have r2 : w2.heap[w1.heap.size]? = some (.cells #[.slice a0 len0 cap0, .int .i64 0] 55 (0, 0)) := by rw [hw2]; exact heap_new w1 _
  have hz2 : w1.heap.size < w2.heap.size := by rw [hw2]; simp
  have o2 : Ops w2.heap.size w2 a len os := (HO.out.kept (Kept.of_below b2) (fun b hb h => by omega)).up b2.size
  rw [← hw2]
  clear hw2
  refine (laid_any a len cap os w2 o2 hl HF.out).mono ?_
  rintro e w3 ⟨vl, rfl, s3⟩
  obtain ⟨L, hL⟩ : ∃ L, L = rowAt os len := ⟨_, rfl⟩
  rw [← hL] at s3 hrl
  have hLl : L.length ≤ 400000 := by omega
  clear hL hrl o2
  obtain ⟨al, cl, rfl⟩ := own_form s3.ow
  have HB : Hid (Bin L) := s3.bin
  have hs3 := s3.bel.size
  have k3 : Kept (fun k => w2.heap.size ≤ k) w2 w3 := Kept.of_below s3.bel
  have r3 := k3.heap r2 (by omega)
  have t3 : Text w.heap.size w3 a0 len0 z0 := t2.kept k3 (fun b hb h => by omega)
  have b3 : Below w.heap.size w w3 := b2.trans (s3.bel.mono (by omega))
  have S3 : Hid (Ld w2.heap.size w2 w3 (.slice al L.length cl) L L) := s3
  have T3 : Hid (Text w.heap.size w3 a0 len0 z0) := t3
  have B3 : Hid (Below w.heap.size w w3) := b3
  have R3 : Hid (w3.heap[w1.heap.size]? = some (.cells #[.slice a0 len0 cap0, .int .i64 0] 55 (0, 0))) := r3
  have hz1 : z0.length = len0 := t3.1
  have HZ1 : Hid (z0.length = len0) := hz1
  clear s3 t3 b3 r3 k3 t2 r2 b2 T1 B1 hz1
  obtain ⟨D, hD⟩ : ∃ D, D = dataL L := ⟨_, rfl⟩
  have HD : Hid (D = dataL L) := hD
  have hDl : D.length ≤ 100000 := by rw [hD]; simp [dataL, bytesL]; omega
  clear hD
  go_wp2_with fail
  refine (rbytes_yes w.heap.size w1.heap.size a0 len0 cap0 0 len0 _ rfl z0 w3 R3.out T3.out hc0 hl0 (by omega) (by omega)).mono ?_
  rintro e w4 ⟨rfl, ox4, r4, k4⟩
  have hs4 := k4.size
  have x4 : ByteBlock w4 w3.heap.size len0 := by
    have := ByteBlock.of_own ox4
    rw [List.length_take, List.length_drop, HZ1.out] at this
    rwa [show min len0 (len0 - (0 + 7) / 8) = len0 by omega] at this
  have X4 : Hid (ByteBlock w4 w3.heap.size len0) := x4
  clear x4
  have S4 : Hid (Ld w2.heap.size w4 w4 (.slice al L.length cl) L L) := ld_kept S3.out R3.out k4
  have K4 : Hid (Kept (fun k => k = w1.heap.size) w3 w4) := k4
  clear ox4 r4 k4
  go_wp2_with fail
  refine (ld_Data_m S4.out (by omega) D HD.out).mono ?_
  rintro e w5 ⟨g5, cp5, rfl, od5, b5⟩
  have hs5 := b5.size
  have hg5 : w4.heap.size ≤ g5 := (ownsRow_lt od5 rfl).1
  have D5 : Hid (ByteBlock w5 g5 D.length) := ByteBlock.of_own od5
  have X5 : Hid (ByteBlock w5 w3.heap.size len0) := X4.out.kept (Kept.of_below b5) (fun e => by
    obtain ⟨cur, hb, _⟩ := X4.out
    have := lt_of_block hb
    omega)
  have hx5 : w3.heap.size < w4.heap.size := by
    obtain ⟨cur, hb, _⟩ := X4.out
    exact lt_of_block hb
  have K5 : Hid (Kept (fun k => k = w1.heap.size) w3 w5) := K4.out.trans (Kept.of_below b5) (fun i hi e => by omega)
  clear od5 b5 S4 X4 K4
  go_wp2
  go_loopw [44] (fun i wr => ∃ k : Nat, k ≤ len0 ∧ i = .int .i64 k ∧ ByteBlock wr w3.heap.size len0 ∧ Kept (fun k => k = w3.heap.size) w5 wr) (fun i _ => len0 - (intOf i).toNat)
  case atStart => exact ⟨0, Nat.zero_le _, rfl, X5.out, Kept.refl _ _⟩
  case round =>
    obtain ⟨k, hk, rfl, xb, xk⟩ := hrel
    have XB : Hid (ByteBlock wr w3.heap.size len0) := xb
    have XK : Hid (Kept (fun k => k = w3.heap.size) w5 wr) := xk
    clear xb xk
    by_cases hlt : k < len0
    · obtain ⟨y, hy, hfy⟩ := XB.out.cell hlt
      go_wp2
      go_roundw
      case rel => exact ⟨k + 1, by omega, by go_num, XB.out.set, XK.out.setCell (fun _ => rfl) _⟩
      case measure => simp [intOf]; omega
    · have D6 : Hid (ByteBlock wr g5 D.length) := D5.out.kept XK.out (fun e => by omega)
      have K6 : Hid (Kept (fun k => k = w1.heap.size) w3 wr) := K5.out.trans XK.out (fun i hi e => by omega)
      have hs6 := XK.out.size
      clear XB XK
      go_wp2
      go_loopw [58] (fun i wq => ∃ k : Nat, k ≤ D.length ∧ i = .int .i64 k ∧ ByteBlock wq g5 D.length ∧ Kept (fun k => k = w1.heap.size) w3 wq) (fun i _ => D.length - (intOf i).toNat)
      case atStart => exact ⟨0, Nat.zero_le _, rfl, D6.out, K6.out⟩
      case round =>
        clear D6 K6 hs6 D5 K5 X5
        obtain ⟨k, hk, rfl, xb, xk⟩ := hrel
        have XB : Hid (ByteBlock wr g5 D.length) := xb
        have XK : Hid (Kept (fun k => k = w1.heap.size) w3 wr) := xk
        clear xb xk
        by_cases hlt : k < D.length
        · obtain ⟨y, hy, hfy⟩ := XB.out.cell hlt
          go_wp2
          go_roundw
          case rel => exact ⟨k + 1, by omega, by go_num, XB.out.set, XK.out.setCell (fun hh => absurd (show g5 < w3.heap.size from hh) (by omega)) _⟩
          case measure => simp [intOf]; omega
        · have S7 : Hid (Ld w2.heap.size wr wr (.slice al L.length cl) L L) := ld_kept S3.out R3.out XK.out
          have S8 : Hid (Ld w2.heap.size wr wr.drew (.slice al L.length cl) L L) := S7.out.drew
          have T7 : Hid (Text w.heap.size wr a0 len0 z0) := T3.out.kept XK.out (fun b hb e => by omega)
          have hs7 := XK.out.size
          have hsb := B3.out.size
          have B7 : Hid (Below w.heap.size w wr) := B3.out.trans (XK.out.below hsb (fun i hi e => by omega))
          have hsd : w.heap.size ≤ wr.heap.size := by omega
          clear XB XK S3 T3 B3 R3 S7
          go_wp2_with fail
          go_region_with (first
            | (go_at_call 11; refine (alive_any _).mono ?_; rintro e w8 ⟨rfl, b8⟩; have S9 : Hid (Ld w2.heap.size wr w8 (.slice al L.length cl) L L) := S8.out.below b8; have t8 : Text w.heap.size w8 a0 len0 z0 := (T7.out.kept (Kept.drew (Kept.refl (fun _ => False) wr)) (fun _ _ h => h)).kept (Kept.of_below b8) (fun b hb e => absurd (show wr.heap.size ≤ b from e) (by omega)); have hcv8 := conv_text (cap := cap0) t8; have HB8 : Hid (Below w.heap.size w w8) := (B7.out.drew).trans (b8.mono (show w.heap.size ≤ wr.heap.size by omega)); have hs8 : wr.heap.size ≤ w8.heap.size := b8.size; clear b8 t8)
            | (go_at_call 23; refine (ld_Data_m S9.out (by omega) D HD.out).mono ?_; rintro e w9 ⟨g9, cp9, rfl, o9, b9⟩; have hc9 := conv_own o9; have S10 : Hid (Ld w2.heap.size wr w9 (.slice al L.length cl) L L) := S9.out.below b9; have O9 : Hid (OwnsB w9 w8.heap.size (.slice (some ⟨g9, 0, none⟩) D.length cp9) D) := o9; have HB9 : Hid (Below w.heap.size w w9) := HB8.out.trans (b9.mono (by omega)); have hs9 : w8.heap.size ≤ w9.heap.size := b9.size; clear o9 b9)
            | (go_at_call 24; refine (ld_Bytes_m S10.out HB.out (by omega) D HD.out).mono ?_; rintro e w10 ⟨v10, rfl, o10, b10⟩; have hc10 := conv_own o10; have hc10' := conv_own (O9.out.below b10); have HB10 : Hid (Below w.heap.size w w10) := HB9.out.trans (b10.mono (by omega)); clear o10 b10))
          all_goals go_wp2
          all_goals go_ret
          all_goals exact ⟨rfl, HB10.out⟩

theorem walk (a0 : Option Addr) (len0 cap0 : Nat) (z0 : List Int) (a : Option Addr) (len cap : Nat) (os : Nat → OpD) (w : World) (h0 : Text w.heap.size w a0 len0 z0) (hc0 : len0 ≤ cap0) (hl0 : len0 ≤ 140737488351232) (h : Ops w.heap.size w a len os) :
    Calls Try.prog 6 #[.slice a0 len0 cap0, .slice a len cap] w fun e w' => e = .returned (.bool true) ∧ Below w.heap.size w w' := by
  by_cases hf : len ≤ 200 ∧ ∀ i, i < len → (os i).len ≤ 200
  · exact walk_in a0 len0 cap0 z0 a len cap os w h0 hc0 hl0 h hf.1 hf.2
  · exact walk_out a0 len0 cap0 a len cap os w h hf

set_option maxRecDepth 100000 in
theorem lifted (os : Os) (started : os.Started) (H : Type) (enc : TypeId × Value → H) :
    ReturnsInHanded {} Try.checked os 6 .any (Rows.bitsOwnSpec.pre6 enc Try.prog Try.f6 Rows.bitsOwnRow.domain false) (Rows.bitsOwnSpec.post enc Try.prog Try.f6 false true false false) := by
  refine returnsInHanded_of_change_sized (C := Try.checked) own started (by kernel_rfl) Try.func6
    (ChangeSpec.witness6 (enc := enc) (C := Try.checked) false ⟨#[], #[.slice none 0 0, .slice none 0 0], []⟩ 8 (by kernel_rfl) (by kernel_rfl) (by kernel_rfl) (by kernel_rfl)) ?_
  intro W base args ds gs before hval0 hW _ hsz0 _
  have hsz : (DataW.weightsEach Try.prog (Try.f6.params.toList ++ Rows.bitsOwnSpec.plain.varTypes Try.prog) (ds ++ gs)).all (· ≤ reachBytes) = true := hsz0
  clear hsz0
  have hval : ∀ (j : Nat) t v, Try.f6.params[j]? = some t → args[j]? = some v → Value.okWide Try.prog W .any base t v := hval0
  have hW' := hW
  obtain ⟨p, q, hA0, hV, rfl, hfz, hnd⟩ := hW
  have hA : DataW.TrodAll enc Try.prog W 0 (fun _ => true) true Try.f6.params.toList args.toList ds p := hA0
  rw [Try.params6] at hA hval hsz
  obtain ⟨v0, vs0, d0, ds0, p0, q0, hargs, rfl, rfl, h0, r0⟩ := trodAll_cons hA
  obtain ⟨v1, vs1, d1, ds1, p1, q1, rfl, rfl, rfl, h1, r1⟩ := trodAll_cons r0
  obtain ⟨rfl, rfl, rfl⟩ := trodAll_nil r1
  obtain rfl : args = #[v0, v1] := by cases args; simp_all
  obtain ⟨rfl, rfl⟩ := trodVars_none hV
  obtain ⟨a0, len0, cap0, rfl⟩ := okWide_slice Try.underlying22 (hval 0 22 v0 rfl rfl)
  have k0 := h0
  have lt0 : ∀ x ∈ p0, x.block < W.heap.size := by obtain ⟨m, hm⟩ := k0; exact DataW.trod_lt m _ _ _ hm
  obtain ⟨z0, t0, hl0⟩ := open_text (j := 0) hsz rfl rfl h0
  obtain ⟨a1, len1, cap1, rfl⟩ := okWide_slice Try.underlying23 (hval 1 23 v1 rfl rfl)
  have k1 := h1
  have lt1 : ∀ x ∈ p1, x.block < W.heap.size := by obtain ⟨m, hm⟩ := k1; exact DataW.trod_lt m _ _ _ hm
  obtain ⟨o1, t1⟩ := open_ops h1
  clear hA0 hval0
  refine (walk a0 len0 cap0 z0 a1 len1 cap1 o1 W t0 (open_cap k0) hl0 t1).mono fun e W' ⟨he, bel⟩ => ?_
  subst he
  exact ⟨_, rfl, _, _, _, [], _, [], hW', trodAll_mk1 (shut_bool Try.underlying4 _), (trodAll_cons_mk (Below.trod laidOut (by kernel_rfl) (of_decide_eq_true (by kernel_rfl)) k0 bel lt0) (trodAll_cons_mk (Below.trod laidOut (by kernel_rfl) (of_decide_eq_true (by kernel_rfl)) k1 bel lt1) trodAll_mk0)), rfl, bel.frame _, fun h => by cases h⟩

theorem over : Rows.bitsOwnRow.holds Try.pinned (OpenSpec.ofChange Rows.bitsOwnSpec) :=
  OpenClaim.holds_of_wide 6 Try.f6 rfl rfl rfl rfl rfl rfl rfl ⟨rfl, rfl, rfl, rfl, rfl⟩ rfl rfl rfl rfl rfl (by kernel_rfl) Try.func6 (by kernel_rfl)
    (of_decide_eq_true (by kernel_rfl)) (by unfold Func.isWrapper; first | (rw [if_pos (by decide +kernel)]; kernel_rfl) | (rw [if_neg (by decide +kernel)]; exact ⟨rfl, rfl⟩))
    (fun os started H enc _ => lifted os started H enc)

theorem proved : Rows.BitsOwnSaid := over
end Go.Proofs.Ytamkjlihlnejoaa.bitsOwn
namespace Go.Proofs.Ytamkjlihlnejoaa
theorem bitsOwn_holds : Rows.BitsOwnSaid := bitsOwn.proved
#print axioms bitsOwn_holds
end Go.Proofs.Ytamkjlihlnejoaa
