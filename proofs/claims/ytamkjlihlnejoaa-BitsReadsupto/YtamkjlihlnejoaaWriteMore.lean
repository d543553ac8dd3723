/- The writer's Align and Bytes; and a Bits that lays nothing. -/
import Derived.Test.YtamkjlihlnejoaaRefBytes
namespace Go.Proofs.Ytamkjlihlnejoaa
open Go.RowKit

theorem wbits_no (p : Option Addr) (x n : Int) (w : World) (h : n < 0 ∨ 24 < n) :
    Calls Try.prog 29 #[.pointer p, .int .i64 x, .int .i64 n] w fun e w' => e = .returned (.tuple #[]) ∧ w' = w := by
  go_enter Try.func29, Try.ntmps29
  go_wp2_with (go_at_call 30; refine (fits_no _ _ h).mono ?_; rintro e w ⟨rfl, rfl⟩)
  first
    | (go_end0; exact ⟨rfl, rfl⟩)
    | (refine bodyPost_ret (results_none rfl _ _ _) rfl ?_; exact ⟨rfl, rfl⟩)

theorem own_form {w : World} {base e : Nat} {v : Value} {n : Nat} {xs : List Value} (h : w.ownsRow base e 1 v n xs) : ∃ a cap, v = .slice a n cap := by
  rcases h.2 with ⟨rfl, h2⟩ | ⟨g, cap, cur, rfl, _⟩
  · exact ⟨none, 0, by rw [h2]⟩
  · exact ⟨_, _, rfl⟩

theorem pad_zero {n : Nat} (h : n % 8 = 0) : pad n = 0 := by unfold pad; omega
theorem pad_pos {b m : Nat} (h0 : 0 < m) (h1 : m ≤ 7) : pad (8 * b + m) = 8 - m := by unfold pad; omega

theorem wbits_arg (base bw : Nat) (v0 : Value) (bs : List Int) (t : Int) (m : Nat) (x : Int) (n : Nat) (ni : Int) (hni : ni = n) (w : World) (h : Wr base bw w v0 bs t m) (hn : n ≤ 24) (hb : bs.length ≤ 1000000000000) (hbase : base ≤ w.heap.size) :
    Calls Try.prog 29 #[.pointer (some ⟨bw, 0, none⟩), .int .i64 x, .int .i64 ni] w fun e w' => e = .returned (.tuple #[]) ∧ ∃ v' bs' t' m', Wr base bw w' v' bs' t' m' ∧ rowOf bs' ++ bitsN t' m' = rowOf bs ++ bitsN t m ++ bitsN x n ∧ Kept (fun k => k = bw ∨ v0.ownBlock = some k) w w' ∧ (v'.ownBlock = v0.ownBlock ∨ ∀ g, v'.ownBlock = some g → w.heap.size ≤ g) := by
  subst hni
  exact wbits_yes base bw v0 bs t m x n w h hn hb hbase

theorem walign_any (base bw : Nat) (v : Value) (bs : List Int) (t : Int) (m : Nat) (w : World) (h : Wr base bw w v bs t m) (hb : bs.length ≤ 1000000000000) (hbase : base ≤ w.heap.size) :
    Calls Try.prog 34 #[.pointer (some ⟨bw, 0, none⟩)] w fun e w' => e = .returned (.tuple #[]) ∧ ∃ v' bs', Wr base bw w' v' bs' 0 0 ∧ rowOf bs' = rowOf bs ++ bitsN t m ++ bitsN 0 (pad (8 * bs.length + m)) ∧ Kept (fun k => k = bw ∨ v.ownBlock = some k) w w' ∧ (v'.ownBlock = v.ownBlock ∨ ∀ g, v'.ownBlock = some g → w.heap.size ≤ g) := by
  have c2 := cells_of h.block 2
  simp at c2
  have hm := h.m1
  by_cases hm0 : 0 < m
  · have HW : Hid (Wr base bw w v bs t m) := h
    clear h
    go_enter Try.func34, Try.ntmps34
    go_wp2_with fail
    refine (wbits_arg base bw v bs t m 0 (8 - m) _ (by omega) w HW.out (by omega) hb hbase).mono ?_
    rintro e w1 ⟨rfl, v1, bs1, t1, m1, h1, r1, k1, o1⟩
    have hl := congrArg List.length r1
    simp only [List.length_append, rowOf_length, bitsN_length] at hl
    have e0 : m1 = 0 := by have := h1.m1; omega
    subst e0
    have ht : t1 = 0 := by have a0 := h1.t0; have a1 := h1.t1; simp at a1; omega
    subst ht
    go_wp2
    go_end0
    refine ⟨rfl, v1, bs1, h1, ?_, k1, o1⟩
    rw [pad_pos hm0 hm]
    simpa [bitsN] using r1
  · have e0 : m = 0 := by omega
    subst e0
    go_enter Try.func34, Try.ntmps34
    go_wp2
    go_end0
    have ht0 := h.t0
    have ht1 := h.t1
    have ht : t = 0 := by simp at ht1; omega
    subst ht
    refine ⟨rfl, v, bs, h, ?_, Kept.refl _ _, .inl rfl⟩
    rw [pad_zero (by omega)]; simp [bitsN]

theorem Text.src {B : Nat} {w : World} {ad : Addr} {len : Nat} {zs : List Int} (h : Text B w (some ad) len zs) : ∀ j u, (zs.map (Value.int .u8))[j]? = some u → w.cell? (ad.add j) = some u := by
  intro j u hu
  obtain ⟨h1, h2, h3⟩ := h
  have hj : j < zs.length := by
    rcases Nat.lt_or_ge j zs.length with h' | h'
    · exact h'
    · simp [List.getElem?_eq_none (show (zs.map (Value.int .u8)).length ≤ j by simpa using h')] at hu
  obtain ⟨b, off, _, ha, hc⟩ := h3.resolve_left (by omega)
  simp at ha
  subst ha
  have e : ((⟨b, off, none⟩ : Addr).add j) = ⟨b, off + j, none⟩ := by unfold Addr.add; split <;> simp_all
  rw [e, hc j (by omega)]
  simp [hj] at hu
  rw [← hu]
  simp [List.getD, hj]

theorem bytes_one (L : List Int) : ∀ u ∈ L.map (Value.int .u8), u.oneCell' = true := by
  intro u hu; simp at hu; obtain ⟨x, _, rfl⟩ := hu; rfl

theorem Text.mem {B : Nat} {w : World} {a : Option Addr} {len : Nat} {zs : List Int} (h : Text B w a len zs) : ∀ x ∈ zs, 0 ≤ x ∧ x ≤ 255 := by
  intro x hx
  obtain ⟨i, hi, rfl⟩ := List.getElem_of_mem hx
  have := h.2.1 i
  simpa [List.getD, hi] using this

/-- What stands behind the store of the appended slice. -/
theorem bytes_end {base bw : Nat} {v v1 v2 : Value} {bs1 zs R : List Int} {w w1 w2 : World} (h1 : Wr base bw w1 v1 bs1 0 0) (hrow : rowOf bs1 = R) (k1 : Kept (fun k => k = bw ∨ v.ownBlock = some k) w w1) (o1 : v1.ownBlock = v.ownBlock ∨ ∀ g, v1.ownBlock = some g → w.heap.size ≤ g)
    (hz : ∀ x ∈ zs, 0 ≤ x ∧ x ≤ 255) (hown : w2.ownsRow base 5 1 v2 (bs1.length + zs.length) (bs1.map (Value.int .u8) ++ zs.map (Value.int .u8))) (k2 : Kept (fun k => v1.ownBlock = some k) w1 w2) (o2 : v2.ownBlock = v1.ownBlock ∨ ∀ g, v2.ownBlock = some g → w1.heap.size ≤ g) :
    ∃ v' bs', Wr base bw (w2.setCell ⟨bw, 0, none⟩ v2) v' bs' 0 0 ∧ rowOf bs' = R ++ rowOf zs ∧ Kept (fun k => k = bw ∨ v.ownBlock = some k) w (w2.setCell ⟨bw, 0, none⟩ v2) ∧ (v'.ownBlock = v.ownBlock ∨ ∀ g, v'.ownBlock = some g → w.heap.size ≤ g) := by
  have hb2 := k2.heap h1.block (fun e => ownsRow_apart h1.owns h1.block (by decide) e)
  refine ⟨v2, bs1 ++ zs, ⟨?_, ?_, by decide, by decide, by decide, ?_⟩, ?_, ?_, ?_⟩
  · rw [set_of hb2]; rfl
  · have e1 : (bs1 ++ zs).length = bs1.length + zs.length := by simp
    have e2 : (bs1 ++ zs).map (Value.int .u8) = bs1.map (Value.int .u8) ++ zs.map (Value.int .u8) := by simp
    rw [e1, e2]
    exact ownsRow_setCell_other hown (ownsRow_apart hown hb2 (by decide)) _
  · intro x hx
    rcases List.mem_append.1 hx with hx | hx
    · exact h1.bytes x hx
    · exact hz x hx
  · rw [rowOf_append, hrow]
  · have k : Kept (fun k => k = bw ∨ v.ownBlock = some k) w w2 := k1.trans k2 (fun i hi e => by
      rcases o1 with r | r
      · exact .inr (by rw [← r]; exact e)
      · have := r i e; omega)
    exact k.setCell (fun _ => .inl rfl) _
  · rcases o2 with c | c
    · rcases o1 with r | r
      · exact .inl (c.trans r)
      · exact .inr (fun g e => r g (by rw [← c]; exact e))
    · exact .inr (fun g e => by have := c g e; have := k1.size; omega)

theorem own_after {w : World} {v v' : Value} (hv : v'.ownBlock = v.ownBlock ∨ v'.ownBlock = some w.heap.size) : v'.ownBlock = v.ownBlock ∨ ∀ g, v'.ownBlock = some g → w.heap.size ≤ g := by
  rcases hv with h | h
  · exact .inl h
  · exact .inr (fun g e => by rw [h] at e; simp at e; omega)

set_option maxHeartbeats 1000000 in
theorem wbytes_any (base bw B : Nat) (v : Value) (bs : List Int) (t : Int) (m : Nat) (a : Option Addr) (len cap : Nat) (zs : List Int) (w : World) (h : Wr base bw w v bs t m) (ht : Text B w a len zs) (hnil : a = none → len = 0 ∧ cap = 0) (hB : B ≤ base) (hBw : B ≤ bw)
    (hb : bs.length ≤ 100000000000) (hlen : len ≤ 100000000000) (hbase : base ≤ w.heap.size) :
    Calls Try.prog 36 #[.pointer (some ⟨bw, 0, none⟩), .slice a len cap] w fun e w' => e = .returned (.tuple #[]) ∧ ∃ v' bs', Wr base bw w' v' bs' 0 0 ∧ rowOf bs' = rowOf bs ++ bitsN t m ++ bitsN 0 (pad (8 * bs.length + m)) ++ rowOf zs ∧ Kept (fun k => k = bw ∨ v.ownBlock = some k) w w' ∧ (v'.ownBlock = v.ownBlock ∨ ∀ g, v'.ownBlock = some g → w.heap.size ≤ g) := by
  obtain ⟨i0, hi, hz0, hz1, hz2⟩ := info_parts Try.info5
  have HW : Hid (Wr base bw w v bs t m) := h
  have HT : Hid (Text B w a len zs) := ht
  have hm := h.m1
  clear h ht
  go_enter Try.func36, Try.ntmps36
  go_wp2_with fail
  refine (walign_any base bw v bs t m w HW.out (by omega) hbase).mono ?_
  rintro e w1 ⟨rfl, v1, bs1, h1, r1, k1, o1⟩
  have ht1 : Text B w1 a len zs := HT.out.kept k1 (fun b hb e => by
    rcases e with e | e
    · omega
    · have := (ownsRow_lt HW.out.owns e).1; omega)
  have hl := congrArg List.length r1
  simp only [List.length_append, rowOf_length, bitsN_length] at hl
  have hp7 : pad (8 * bs.length + m) ≤ 7 := by unfold pad; omega
  have hbs1 : bs1.length ≤ 200000000000 := by omega
  have hzl : zs.length = len := ht1.1
  have c0 := cells_of h1.block 0
  have f0 := free_of h1.block 0
  simp at c0
  have hbw1 := lt_of_block h1.block
  have hap : v1.ownBlock ≠ some bw := ownsRow_apart h1.owns h1.block (by decide)
  have HF : Hid (Wr base bw w1 v1 bs1 0 0) := h1
  have HZ : Hid (zs.length = len) := hzl
  have hsz1 : base ≤ w1.heap.size := by have := k1.size; omega
  obtain ⟨a1, cp1, rfl⟩ := own_form h1.owns
  clear h1 hl hzl
  cases a with
  | none =>
    obtain ⟨rfl, rfl⟩ := hnil rfl
    have hz0' : zs = [] := List.eq_nil_of_length_eq_zero HZ.out
    subst hz0'
    go_wp2_with (at_builtin; refine wpList_append_own_none rfl (.tmp 10) (.tmp 11) 22 rfl base 5 i0 1 Try.underlying22 hi (.slice a1 bs1.length cp1) _ _ rfl HF.out.owns rfl ?_)
    go_end0
    exact ⟨rfl, bytes_end (zs := []) HF.out r1 k1 o1 (by simp) (by simpa using HF.out.owns) (Kept.refl _ _) (.inl rfl)⟩
  | some ad =>
    obtain ⟨ZZ, hZZ⟩ : ∃ ZZ, ZZ = zs.map (Value.int .u8) := ⟨_, rfl⟩
    have HS : Hid (∀ j u, ZZ[j]? = some u → w1.cell? (ad.add j) = some u) := by rw [hZZ]; exact ht1.src
    have HI : Hid (∀ u ∈ ZZ, u.oneCell' = true) := by rw [hZZ]; exact bytes_one zs
    have hll : ZZ.length = len * 1 := by rw [hZZ]; simp; exact HZ.out
    have HL : Hid (ZZ = zs.map (Value.int .u8)) := hZZ
    have HM : Hid (∀ x ∈ zs, 0 ≤ x ∧ x ≤ 255) := ht1.mem
    clear hZZ ht1
    go_wp2_with (at_builtin; refine wpList_append_own_at _ rfl (.tmp 10) (.tmp 11) 22 rfl base 5 i0 (.int .u8 0) 1 1 Try.underlying22 hi hz0 hz1 hz2 rfl (by decide) (.slice a1 bs1.length cp1) _ _ rfl HF.out.owns ad len cap ZZ rfl hll HS.out HI.out (by unfold maxLen; omega) (by omega) hsz1 ?_; intro v2 w2 hown2 hgrow2 hx2 hat2; obtain ⟨a2, cp2, rfl⟩ := own_form hown2; have kb2 := (Kept.of_grown hgrow2).heap HF.out.block (fun e => hap e.symm); have c2 := cells_of kb2 0; have f2 := free_of kb2 0; simp at c2)
    go_end0
    have hown3 := hown2
    rw [HL.out, ← HZ.out] at hown3
    refine ⟨rfl, ?_⟩
    rw [← HZ.out]
    exact bytes_end HF.out r1 k1 o1 HM.out hown3 ((Kept.of_grown hgrow2).mono (fun _ _ e => e.symm)) (own_after (by rw [HZ.out]; exact hat2))
#print axioms wbytes_any
end Go.Proofs.Ytamkjlihlnejoaa
