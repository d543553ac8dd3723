/- Several texts, laid together: WriteMore, ReadMore, PStored. -/
import Derived.Test.YtgjafmppkfgkfaaGreatDoorpAg04HRef3
import Derived.Test.YtgjafmppkfgkfaaGreatDoorpAg07PRun
import Derived.Maps.AppendAt
/- The writer's Align and Bytes; and a Bits that lays nothing. -/
namespace Go.Proofs.YtgjafmppkfgkfaaGreatDoor
set_option maxRecDepth 100000
open Go.RowKit

theorem pad_zero {n : Nat} (h : n % 8 = 0) : pad n = 0 := by unfold pad; omega
theorem pad_pos {b m : Nat} (h0 : 0 < m) (h1 : m ≤ 7) : pad (8 * b + m) = 8 - m := by unfold pad; omega

theorem wbits_arg (base bw : Nat) (v0 : Value) (bs : List Int) (t : Int) (m : Nat) (x : Int) (n : Nat) (ni : Int) (hni : ni = n) (w : World) (h : Wr base bw w v0 bs t m) (hn : n ≤ 24) (hb : bs.length ≤ 1000000000000) (hbase : base ≤ w.heap.size) :
    Calls Tryz.prog 112 #[.pointer (some ⟨bw, 0, none⟩), .int .i64 x, .int .i64 ni] w fun e w' => e = .returned (.tuple #[]) ∧ ∃ v' bs' t' m', Wr base bw w' v' bs' t' m' ∧ rowOf bs' ++ bitsN t' m' = rowOf bs ++ bitsN t m ++ bitsN x n ∧ Kept (fun k => k = bw ∨ v0.ownBlock = some k) w w' ∧ (v'.ownBlock = v0.ownBlock ∨ ∀ g, v'.ownBlock = some g → w.heap.size ≤ g) := by
  subst hni
  exact wbits_yes base bw v0 bs t m x n w h hn hb hbase

theorem walign_any (base bw : Nat) (v : Value) (bs : List Int) (t : Int) (m : Nat) (w : World) (h : Wr base bw w v bs t m) (hb : bs.length ≤ 1000000000000) (hbase : base ≤ w.heap.size) :
    Calls Tryz.prog 111 #[.pointer (some ⟨bw, 0, none⟩)] w fun e w' => e = .returned (.tuple #[]) ∧ ∃ v' bs', Wr base bw w' v' bs' 0 0 ∧ rowOf bs' = rowOf bs ++ bitsN t m ++ bitsN 0 (pad (8 * bs.length + m)) ∧ Kept (fun k => k = bw ∨ v.ownBlock = some k) w w' ∧ (v'.ownBlock = v.ownBlock ∨ ∀ g, v'.ownBlock = some g → w.heap.size ≤ g) := by
  have c2 := cells_of h.block 2
  simp at c2
  have hm := h.m1
  by_cases hm0 : 0 < m
  · have HW : Hid (Wr base bw w v bs t m) := h
    clear h
    go_enter Tryz.func111, Tryz.ntmps111
    go_wp2_with fail
    refine (wbits_arg base bw v bs t m 0 (8 - m) _ (by omega) w HW.out (by omega) hb hbase).mono ?_
    rintro e w1 ⟨rfl, v1, bs1, t1, m1, h1, r1, k1, o1⟩
    have hl := congrArg List.length r1
    simp only [List.length_append, rowOf_length, bitsN_length] at hl
    have e0 : m1 = 0 := by have := h1.m1; omega
    subst e0
    have ht : t1 = 0 := by have a0 := h1.t0; have a1 := h1.t1; simp at a1; omega
    subst ht
    go_wp2
    go_end0
    refine ⟨rfl, v1, bs1, h1, ?_, k1, o1⟩
    rw [pad_pos hm0 hm]
    simpa [bitsN] using r1
  · have e0 : m = 0 := by omega
    subst e0
    go_enter Tryz.func111, Tryz.ntmps111
    go_wp2
    go_end0
    have ht0 := h.t0
    have ht1 := h.t1
    have ht : t = 0 := by simp at ht1; omega
    subst ht
    refine ⟨rfl, v, bs, h, ?_, Kept.refl _ _, .inl rfl⟩
    rw [pad_zero (by omega)]; simp [bitsN]

theorem Text.src {B : Nat} {w : World} {ad : Addr} {len : Nat} {zs : List Int} (h : Text B w (some ad) len zs) : ∀ j u, (zs.map (Value.int .u8))[j]? = some u → w.cell? (ad.add j) = some u := by
  intro j u hu
  obtain ⟨h1, h2, h3⟩ := h
  have hj : j < zs.length := by
    rcases Nat.lt_or_ge j zs.length with h' | h'
    · exact h'
    · simp [List.getElem?_eq_none (show (zs.map (Value.int .u8)).length ≤ j by simpa using h')] at hu
  obtain ⟨b, off, _, ha, hc⟩ := h3.resolve_left (by omega)
  simp at ha
  subst ha
  have e : ((⟨b, off, none⟩ : Addr).add j) = ⟨b, off + j, none⟩ := by unfold Addr.add; split <;> simp_all
  rw [e, hc j (by omega)]
  simp [hj] at hu
  rw [← hu]
  simp [List.getD, hj]

theorem bytes_one (L : List Int) : ∀ u ∈ L.map (Value.int .u8), u.oneCell' = true := by
  intro u hu; simp at hu; obtain ⟨x, _, rfl⟩ := hu; rfl

theorem Text.mem {B : Nat} {w : World} {a : Option Addr} {len : Nat} {zs : List Int} (h : Text B w a len zs) : ∀ x ∈ zs, 0 ≤ x ∧ x ≤ 255 := by
  intro x hx
  obtain ⟨i, hi, rfl⟩ := List.getElem_of_mem hx
  have := h.2.1 i
  simpa [List.getD, hi] using this

/-- What stands behind the store of the appended slice. -/
theorem bytes_end {base bw : Nat} {v v1 v2 : Value} {bs1 zs R : List Int} {w w1 w2 : World} (h1 : Wr base bw w1 v1 bs1 0 0) (hrow : rowOf bs1 = R) (k1 : Kept (fun k => k = bw ∨ v.ownBlock = some k) w w1) (o1 : v1.ownBlock = v.ownBlock ∨ ∀ g, v1.ownBlock = some g → w.heap.size ≤ g)
    (hz : ∀ x ∈ zs, 0 ≤ x ∧ x ≤ 255) (hown : w2.ownsRow base 5 1 v2 (bs1.length + zs.length) (bs1.map (Value.int .u8) ++ zs.map (Value.int .u8))) (k2 : Kept (fun k => v1.ownBlock = some k) w1 w2) (o2 : v2.ownBlock = v1.ownBlock ∨ ∀ g, v2.ownBlock = some g → w1.heap.size ≤ g) :
    ∃ v' bs', Wr base bw (w2.setCell ⟨bw, 0, none⟩ v2) v' bs' 0 0 ∧ rowOf bs' = R ++ rowOf zs ∧ Kept (fun k => k = bw ∨ v.ownBlock = some k) w (w2.setCell ⟨bw, 0, none⟩ v2) ∧ (v'.ownBlock = v.ownBlock ∨ ∀ g, v'.ownBlock = some g → w.heap.size ≤ g) := by
  have hb2 := k2.heap h1.block (fun e => ownsRow_apart h1.owns h1.block (by decide) e)
  refine ⟨v2, bs1 ++ zs, ⟨?_, ?_, by decide, by decide, by decide, ?_⟩, ?_, ?_, ?_⟩
  · rw [set_of hb2]; rfl
  · have e1 : (bs1 ++ zs).length = bs1.length + zs.length := by simp
    have e2 : (bs1 ++ zs).map (Value.int .u8) = bs1.map (Value.int .u8) ++ zs.map (Value.int .u8) := by simp
    rw [e1, e2]
    exact ownsRow_setCell_other hown (ownsRow_apart hown hb2 (by decide)) _
  · intro x hx
    rcases List.mem_append.1 hx with hx | hx
    · exact h1.bytes x hx
    · exact hz x hx
  · rw [rowOf_append, hrow]
  · have k : Kept (fun k => k = bw ∨ v.ownBlock = some k) w w2 := k1.trans k2 (fun i hi e => by
      rcases o1 with r | r
      · exact .inr (by rw [← r]; exact e)
      · have := r i e; omega)
    exact k.setCell (fun _ => .inl rfl) _
  · rcases o2 with c | c
    · rcases o1 with r | r
      · exact .inl (c.trans r)
      · exact .inr (fun g e => r g (by rw [← c]; exact e))
    · exact .inr (fun g e => by have := c g e; have := k1.size; omega)

theorem own_after {w : World} {v v' : Value} (hv : v'.ownBlock = v.ownBlock ∨ v'.ownBlock = some w.heap.size) : v'.ownBlock = v.ownBlock ∨ ∀ g, v'.ownBlock = some g → w.heap.size ≤ g := by
  rcases hv with h | h
  · exact .inl h
  · exact .inr (fun g e => by rw [h] at e; simp at e; omega)

set_option maxHeartbeats 1000000 in
theorem wbytes_any (base bw B : Nat) (v : Value) (bs : List Int) (t : Int) (m : Nat) (a : Option Addr) (len cap : Nat) (zs : List Int) (w : World) (h : Wr base bw w v bs t m) (ht : Text B w a len zs) (hnil : a = none → len = 0 ∧ cap = 0) (hB : B ≤ base) (hBw : B ≤ bw)
    (hb : bs.length ≤ 100000000000) (hlen : len ≤ 100000000000) (hbase : base ≤ w.heap.size) :
    Calls Tryz.prog 113 #[.pointer (some ⟨bw, 0, none⟩), .slice a len cap] w fun e w' => e = .returned (.tuple #[]) ∧ ∃ v' bs', Wr base bw w' v' bs' 0 0 ∧ rowOf bs' = rowOf bs ++ bitsN t m ++ bitsN 0 (pad (8 * bs.length + m)) ++ rowOf zs ∧ Kept (fun k => k = bw ∨ v.ownBlock = some k) w w' ∧ (v'.ownBlock = v.ownBlock ∨ ∀ g, v'.ownBlock = some g → w.heap.size ≤ g) := by
  obtain ⟨i0, hi, hz0, hz1, hz2⟩ := info_parts Tryz.info5
  have HW : Hid (Wr base bw w v bs t m) := h
  have HT : Hid (Text B w a len zs) := ht
  have hm := h.m1
  clear h ht
  go_enter Tryz.func113, Tryz.ntmps113
  go_wp2_with fail
  refine (walign_any base bw v bs t m w HW.out (by omega) hbase).mono ?_
  rintro e w1 ⟨rfl, v1, bs1, h1, r1, k1, o1⟩
  have ht1 : Text B w1 a len zs := HT.out.kept k1 (fun b hb e => by
    rcases e with e | e
    · omega
    · have := (ownsRow_lt HW.out.owns e).1; omega)
  have hl := congrArg List.length r1
  simp only [List.length_append, rowOf_length, bitsN_length] at hl
  have hp7 : pad (8 * bs.length + m) ≤ 7 := by unfold pad; omega
  have hbs1 : bs1.length ≤ 200000000000 := by omega
  have hzl : zs.length = len := ht1.1
  have c0 := cells_of h1.block 0
  have f0 := free_of h1.block 0
  simp at c0
  have hbw1 := lt_of_block h1.block
  have hap : v1.ownBlock ≠ some bw := ownsRow_apart h1.owns h1.block (by decide)
  have HF : Hid (Wr base bw w1 v1 bs1 0 0) := h1
  have HZ : Hid (zs.length = len) := hzl
  have hsz1 : base ≤ w1.heap.size := by have := k1.size; omega
  obtain ⟨a1, cp1, rfl⟩ := own_form h1.owns
  clear h1 hl hzl
  cases a with
  | none =>
    obtain ⟨rfl, rfl⟩ := hnil rfl
    have hz0' : zs = [] := List.eq_nil_of_length_eq_zero HZ.out
    subst hz0'
    go_wp2_with (at_builtin; refine wpList_append_own_none rfl (.tmp 10) (.tmp 11) 22 rfl base 5 i0 1 Tryz.underlying22 hi (.slice a1 bs1.length cp1) _ _ rfl HF.out.owns rfl ?_)
    go_end0
    exact ⟨rfl, bytes_end (zs := []) HF.out r1 k1 o1 (by simp) (by simpa using HF.out.owns) (Kept.refl _ _) (.inl rfl)⟩
  | some ad =>
    obtain ⟨ZZ, hZZ⟩ : ∃ ZZ, ZZ = zs.map (Value.int .u8) := ⟨_, rfl⟩
    have HS : Hid (∀ j u, ZZ[j]? = some u → w1.cell? (ad.add j) = some u) := by rw [hZZ]; exact ht1.src
    have HI : Hid (∀ u ∈ ZZ, u.oneCell' = true) := by rw [hZZ]; exact bytes_one zs
    have hll : ZZ.length = len * 1 := by rw [hZZ]; simp; exact HZ.out
    have HL : Hid (ZZ = zs.map (Value.int .u8)) := hZZ
    have HM : Hid (∀ x ∈ zs, 0 ≤ x ∧ x ≤ 255) := ht1.mem
    clear hZZ ht1
    go_wp2_with (at_builtin; refine wpList_append_own_at _ rfl (.tmp 10) (.tmp 11) 22 rfl base 5 i0 (.int .u8 0) 1 1 Tryz.underlying22 hi hz0 hz1 hz2 rfl (by decide) (.slice a1 bs1.length cp1) _ _ rfl HF.out.owns ad len cap ZZ rfl hll HS.out HI.out (by unfold maxLen; omega) (by omega) hsz1 ?_; intro v2 w2 hown2 hgrow2 hx2 hat2; obtain ⟨a2, cp2, rfl⟩ := own_form hown2; have kb2 := (Kept.of_grown hgrow2).heap HF.out.block (fun e => hap e.symm); have c2 := cells_of kb2 0; have f2 := free_of kb2 0; simp at c2)
    go_end0
    have hown3 := hown2
    rw [HL.out, ← HZ.out] at hown3
    refine ⟨rfl, ?_⟩
    rw [← HZ.out]
    exact bytes_end HF.out r1 k1 o1 HM.out hown3 ((Kept.of_grown hgrow2).mono (fun _ _ e => e.symm)) (own_after (by rw [HZ.out]; exact hat2))
#print axioms wbytes_any
end Go.Proofs.YtgjafmppkfgkfaaGreatDoor

/- The reader's Align and Bytes: contracts; and bytes that become a text. -/
namespace Go.Proofs.YtgjafmppkfgkfaaGreatDoor
set_option maxRecDepth 100000
open Go.RowKit

theorem ralign_any (br : Nat) (a : Option Addr) (len cap p : Nat) (w : World) (hb : w.heap[br]? = some (.cells #[.slice a len cap, .int .i64 (p : Int)] 167 (0, 0))) (hp : p ≤ 9223372036854775000) :
    Calls Tryz.prog 126 #[.pointer (some ⟨br, 0, none⟩)] w fun e w' => e = .returned (.tuple #[]) ∧ w'.heap[br]? = some (.cells #[.slice a len cap, .int .i64 ((8 * ((p + 7) / 8) : Nat) : Int)] 167 (0, 0)) ∧ Kept (fun k => k = br) w w' := by
  have c1 := cells_of hb 1
  have f1 := free_of hb 1
  simp at c1
  go_enter Tryz.func126, Tryz.ntmps126
  go_wp2_with (go_at_call 159; refine (nextByte_any br p _ c1 (by omega) (by omega)).mono ?_; rintro e w ⟨rfl, rfl⟩)
  go_end0
  refine ⟨rfl, ?_, Kept.setCell (M := fun k => k = br) (Kept.refl _ _) (fun _ => rfl) _⟩
  rw [set_of hb, show ((p : Int) + 7) / 8 * 8 = ((8 * ((p + 7) / 8) : Nat) : Int) by omega]
  rfl

theorem rbytes_no (br : Nat) (a : Option Addr) (len cap p : Nat) (n : Int) (w : World) (hb : w.heap[br]? = some (.cells #[.slice a len cap, .int .i64 (p : Int)] 167 (0, 0))) (hl : len * 8 ≤ 9223372036854775000) (hp : p ≤ len * 8) (hn : n < 0 ∨ (len : Int) - ((p + 7) / 8 : Nat) < n) :
    Calls Tryz.prog 128 #[.pointer (some ⟨br, 0, none⟩), .int .i64 n] w fun e w' => e = .returned (.tuple #[.slice none 0 0, .bool false]) ∧ w' = w := by
  have c0 := cells_of hb 0
  have c1 := cells_of hb 1
  simp at c0 c1
  by_cases h0 : n < 0
  · go_enter Tryz.func128, Tryz.ntmps128
    go_wp2_with (go_at_call 159; refine (nextByte_any br p _ c1 (by omega) (by omega)).mono ?_; rintro e w ⟨rfl, rfl⟩)
    go_ret2
    exact ⟨rfl, rfl⟩
  · have h1 : (len : Int) - ((p : Int) + 7) / 8 < n := by omega
    clear hn
    go_enter Tryz.func128, Tryz.ntmps128
    go_wp2_with (go_at_call 159; refine (nextByte_any br p _ c1 (by omega) (by omega)).mono ?_; rintro e w ⟨rfl, rfl⟩)
    go_ret2
    exact ⟨rfl, rfl⟩

theorem made_full (n : Nat) (i : TypeInfo) (hi : Tryz.prog.info? 5 = some i) (hz : i.zero = some (.int .u8 0)) (hs : i.size = 1) (hb : i.bytes = 1) (hn : n ≤ 140737488351232) (W : World) :
    (Instr.makeSlice 22 (.int .i64 (n : Int)) (.int .i64 (n : Int))).run Tryz.prog W = .ok (.slice (some ⟨W.heap.size, 0, none⟩) n n) (W.alloc (.cells (List.replicate n (Value.int .u8 0)).toArray 5)) := by
  have := run_make (P := Tryz.prog) W 22 5 i (.int .u8 0) Tryz.underlying22 hi hz .i64 .i64 n n (by omega) (by omega) (by rw [hb]; omega) (by omega)
  rw [this, hs]
  have e2 : madeCells (Value.int .u8 0).cells n = (List.replicate n (Value.int .u8 0)).toArray := by
    have := toList_madeCells_one (Value.int .u8 0) n
    rw [← Array.toList_inj]
    simpa [Value.cells] using this
  rw [Int.toNat_natCast, Nat.mul_one, e2]

theorem own_copy {B g n : Nat} {w : World} {ZS CS : List Value} (h : w.heap[g]? = some (.cells (splice ZS 0 CS).toArray 5 (0, 0))) (hB : B ≤ g) (hn : n ≤ 140737488351232) (hc : CS.length = n) (hz : ZS.length = n) : w.ownsRow B 5 1 (.slice (some ⟨g, 0, none⟩) n n) n CS := by
  refine ⟨by omega, .inr ⟨g, n, _, rfl, hB, h, by omega, by unfold maxLen; omega, ?_, ?_⟩⟩
  · simp [splice]; omega
  · simp [splice]
    rw [List.take_append_of_le_length (by omega), List.take_of_length_le (by omega)]

/-- The cells CS lie where an address leads. -/
def SrcAt (w : World) (sp : Option Addr) (CS : List Value) : Prop := ∃ ad, sp = some ad ∧ ∀ j u, CS[j]? = some u → w.cell? (ad.add j) = some u

theorem rbytes_end {br n p fr len cap : Nat} {a : Option Addr} {x : Int} {w w2 : World} {ZS CS : List Value} {zs : List Int} (h : w2.heap[w.heap.size]? = some (.cells (splice ZS 0 CS).toArray 5 (0, 0))) (hB : Below w.heap.size w w2)
    (kb : w2.heap[br]? = some (.cells #[.slice a len cap, .int .i64 (p : Int)] 167 (0, 0))) (hbr : br < w.heap.size) (hn : n ≤ 140737488351232) (hc : CS.length = n) (hz : ZS.length = n) (hC : CS = ((zs.drop fr).take n).map (Value.int .u8)) (hr : fr = (p + 7) / 8) (hx : x = ((8 * (fr + n) : Nat) : Int)) :
    Ending.returned (.tuple #[.slice (some ⟨w.heap.size, 0, none⟩) n n, .bool true]) = Ending.returned (.tuple #[.slice (some ⟨w.heap.size, 0, none⟩) n n, .bool true]) ∧ OwnsB (w2.setCell ⟨br, 1, none⟩ (.int .i64 x)) w.heap.size (.slice (some ⟨w.heap.size, 0, none⟩) n n) ((zs.drop ((p + 7) / 8)).take n) ∧
      (w2.setCell ⟨br, 1, none⟩ (.int .i64 x)).heap[br]? = some (.cells #[.slice a len cap, .int .i64 ((8 * ((p + 7) / 8 + n) : Nat) : Int)] 167 (0, 0)) ∧ Kept (fun k => k = br) w (w2.setCell ⟨br, 1, none⟩ (.int .i64 x)) := by
  have ho := own_copy h (Nat.le_refl _) hn hc hz
  have hlen : ((zs.drop fr).take n).length = n := by rw [← hc, hC]; simp
  rw [hC] at ho
  subst hr
  refine ⟨rfl, ?_, ?_, ?_⟩
  · unfold OwnsB
    rw [hlen]
    exact ownsRow_setCell_other ho (by simp [Value.ownBlock]; omega) _
  · rw [set_of kb, hx]; rfl
  · exact Kept.setCell (M := fun k => k = br) ((Kept.of_below hB).mono (fun i hi e => by omega)) (fun _ => rfl) _

set_option maxHeartbeats 1000000 in
theorem rbytes_yes (B br : Nat) (a : Option Addr) (len cap p n : Nat) (ni : Int) (hni : ni = n) (zs : List Int) (w : World) (hb : w.heap[br]? = some (.cells #[.slice a len cap, .int .i64 (p : Int)] 167 (0, 0))) (ht : Text B w a len zs) (hcap : len ≤ cap)
    (hl : len ≤ 140737488351232) (hp : p ≤ len * 8) (hn : (p + 7) / 8 + n ≤ len) :
    Calls Tryz.prog 128 #[.pointer (some ⟨br, 0, none⟩), .int .i64 ni] w fun e w' => e = .returned (.tuple #[.slice (some ⟨w.heap.size, 0, none⟩) n n, .bool true]) ∧ OwnsB w' w.heap.size (.slice (some ⟨w.heap.size, 0, none⟩) n n) ((zs.drop ((p + 7) / 8)).take n) ∧ w'.heap[br]? = some (.cells #[.slice a len cap, .int .i64 ((8 * ((p + 7) / 8 + n) : Nat) : Int)] 167 (0, 0)) ∧ Kept (fun k => k = br) w w' := by
  subst hni
  have c0 := cells_of hb 0
  have c1 := cells_of hb 1
  have f1 := free_of hb 1
  have hbr := lt_of_block hb
  simp at c0 c1
  obtain ⟨fr, hfr⟩ : ∃ fr, fr = (p + 7) / 8 := ⟨_, rfl⟩
  rw [← hfr] at hn
  have hfri : ((p : Int) + 7) / 8 = (fr : Int) := by omega
  obtain ⟨i0, hi, hz0, hz1, hz2⟩ := info_parts Tryz.info5
  have hmk := made_full n i0 hi hz0 hz1 hz2 (by omega)
  obtain ⟨ZS, hZS⟩ : ∃ ZS : List Value, ZS = List.replicate n (Value.int .u8 0) := ⟨_, rfl⟩
  rw [← hZS] at hmk
  obtain ⟨CS, hCS⟩ : ∃ CS : List Value, CS = ((zs.drop fr).take n).map (Value.int .u8) := ⟨_, rfl⟩
  have hcl : CS.length = n := by rw [hCS]; simp [ht.1]; omega
  have hzl : ZS.length = n := by rw [hZS]; simp
  have hsz1 : (Tryz.prog.info? 5).map (fun x => x.size) = some 1 := by rw [hi]; simp [hz1]
  have HO : Hid (∀ u ∈ CS, u.oneCell' = true) := by rw [hCS]; exact bytes_one _
  have HC : Hid (CS = ((zs.drop fr).take n).map (Value.int .u8)) := hCS
  have HW : Hid (Below w.heap.size w (w.alloc (.cells ZS.toArray 5))) := Below.alloc (Below.refl _ _) (Nat.le_refl _) _
  have HP : Hid (0 < n → SrcAt (w.alloc (.cells ZS.toArray 5)) (a.map fun x => x.add fr) CS) := by
    intro hp0
    obtain ⟨h1, h2, h3⟩ := ht
    obtain ⟨b, off, hbB, rfl, hcell⟩ := h3.resolve_left (by omega)
    refine ⟨_, rfl, fun j u hj => ?_⟩
    have hjn : j < n := by
      rcases Nat.lt_or_ge j n with h' | h'
      · exact h'
      · rw [List.getElem?_eq_none (by omega)] at hj; simp at hj
    have hcj := hcell (fr + j) (by omega)
    have e0 : ∀ o i, ((⟨b, o, none⟩ : Addr).add i) = ⟨b, o + i, none⟩ := fun o i => by unfold Addr.add; split <;> simp_all
    show (w.alloc _).cell? (((⟨b, off, none⟩ : Addr).add fr).add j) = _
    rw [e0, e0, Nat.add_assoc, World.cell?_of_block (w := w) (Below.heap_alloc w _ _ (lt_of_cell hcj)), hcj]
    rw [hCS] at hj
    simp [hjn] at hj
    obtain ⟨x, hx, rfl⟩ := hj
    simp [List.getD, hx]
  have HR : Hid (fr = (p + 7) / 8) := hfr
  clear hZS hCS hfr ht
  by_cases hcf : cap = fr
  · have HCF : Hid (cap = fr) := hcf
    have hcf1 : cap ≤ fr := by omega
    clear hcf
    go_enter Tryz.func128, Tryz.ntmps128
    go_wp2_with (first
      | (go_at_call 159; refine (nextByte_any br p _ c1 (by omega) (by omega)).mono ?_; rintro e w ⟨rfl, rfl⟩)
      | (refine wpList_copy_splice rfl (.tmp 25) (.tmp 31) 22 22 rfl 5 Tryz.underlying22 hsz1 _ _ _ _ _ _ (by rfl) (by rfl) w.heap.size 0 ZS 5 (heap_new w _) CS (by rw [hcl]; exact (Nat.min_eq_right (by omega)).symm) (fun hp => absurd hp (by omega)) (by omega) HO.out w.heap.size w HW.out (Nat.le_refl _) ?_; intro w2 HG2 hB2; have kb := (hB2.block br hbr).trans hb; have k1 := cells_of kb 1; have g1 := free_of kb 1; simp at k1))
    go_ret2
    exact rbytes_end HG2.out hB2 kb hbr (by omega) hcl hzl HC.out HR.out (by omega)
  · go_enter Tryz.func128, Tryz.ntmps128
    go_wp2_with (first
      | (go_at_call 159; refine (nextByte_any br p _ c1 (by omega) (by omega)).mono ?_; rintro e w ⟨rfl, rfl⟩)
      | (refine wpList_copy_splice rfl (.tmp 25) (.tmp 31) 22 22 rfl 5 Tryz.underlying22 hsz1 _ _ _ _ _ _ (by rfl) (by rfl) w.heap.size 0 ZS 5 (heap_new w _) CS (by rw [hcl]; exact (Nat.min_eq_right (by omega)).symm) (fun hp => ⟨rfl, HP.out (by omega)⟩) (by omega) HO.out w.heap.size w HW.out (Nat.le_refl _) ?_; intro w2 HG2 hB2; have kb := (hB2.block br hbr).trans hb; have k1 := cells_of kb 1; have g1 := free_of kb 1; simp at k1))
    go_ret2
    exact rbytes_end HG2.out hB2 kb hbr (by omega) hcl hzl HC.out HR.out (by omega)

theorem conv_text {B : Nat} {w : World} {a : Option Addr} {len cap : Nat} {zs : List Int} (h : Text B w a len zs) : (convert 22 9 (.slice a len cap)).run Tryz.prog w = .ok (.string (strOfNums zs)) w := by
  obtain ⟨h1, _, h3⟩ := h
  rcases h3 with h3 | ⟨b, off, _, rfl, hc⟩
  · have hz : zs = [] := List.eq_nil_of_length_eq_zero (by omega)
    subst hz
    subst h3
    cases a with
    | none => exact run_convert_bytes_nil w 22 5 Tryz.underlying22 Tryz.underlying5 0 cap 9 Tryz.underlying9
    | some ad =>
      rw [run_convert_bytes_string w 22 9 5 _ 0 cap Tryz.underlying22 Tryz.underlying5 Tryz.underlying9, run_bytesToString w ad 0 cap [] (by simpa using run_loadCells_list (P := Tryz.prog) w ad [] (by simp))]
      rfl
  · exact run_convert_bytes_arg w 22 5 Tryz.underlying22 Tryz.underlying5 b off len cap zs h1 hc 9 Tryz.underlying9
end Go.Proofs.YtgjafmppkfgkfaaGreatDoor

/- The stream's storedBlock: contract. -/
namespace Go.Proofs.YtgjafmppkfgkfaaGreatDoor
set_option maxRecDepth 100000
open Go Go.RowKit

theorem xor_low (n : Nat) (h : n < 65536) : bits .xor .i64 (n : Int) 65535 = ((65535 - n : Nat) : Int) := by
  have ha : (BitVec.ofInt 64 (n : Int)).toNat = n := ofInt_nat n (by omega)
  have hb : (BitVec.ofInt 64 (65535 : Int)).toNat = 65535 := ofInt_nat 65535 (by decide)
  show IntKind.i64.wrap (((BitVec.ofInt 64 (n : Int) ^^^ BitVec.ofInt 64 (65535 : Int)).toNat : Nat) : Int) = _
  rw [BitVec.toNat_xor, ha, hb]
  have e : n ^^^ 65535 = 65535 - n := by
    have h1 := congrArg BitVec.toNat (BitVec.xor_allOnes (x := BitVec.ofNat 16 n))
    rw [BitVec.toNat_xor, BitVec.toNat_not, BitVec.toNat_allOnes, BitVec.toNat_ofNat, Nat.mod_eq_of_lt h] at h1
    simpa using h1
  rw [e, wrap_i64_small _ (by omega)]

/-- The bytes of a text are its bits. -/
theorem iNum_at (zs : List Int) (i : Nat) (h : 0 ≤ zs.getD i 0 ∧ zs.getD i 0 ≤ 255) : (iNum (ib zs) (8 * i) 8 : Int) = zs.getD i 0 := by
  rw [← bits_num, bitsVal_byte zs (8 * i) 8 (by omega), show 8 * i / 8 = i by omega, show 8 * i % 8 = 0 by omega]
  simp only [Int.pow_zero, Int.ediv_one]
  omega
theorem iBytes_take (zs : List Int) (k n : Nat) (h : ∀ i, 0 ≤ zs.getD i 0 ∧ zs.getD i 0 ≤ 255) (hl : k + n ≤ zs.length) : iBytes (ib zs) (8 * k) n = (zs.drop k).take n := by
  unfold iBytes
  apply List.ext_getElem
  · simp; omega
  · intro i h1 h2
    simp only [List.length_map, List.length_range] at h1
    simp only [List.getElem_map, List.getElem_range, List.getElem_take, List.getElem_drop]
    rw [show 8 * k + 8 * i = 8 * (k + i) by omega, iNum_at zs (k + i) (h _)]
    simp [List.getD, show k + i < zs.length by omega]

theorem src_ofP {w : World} {base g n : Nat} {D : List Int} (h : OwnsB w base (.slice (some ⟨g, 0, none⟩) n n) D) (hn : D.length = n) : ∀ j u, (D.map (Value.int .u8))[j]? = some u → w.cell? ((⟨g, 0, none⟩ : Addr).add j) = some u := fun j u hu => by
  subst hn
  have hj : j < D.length := by
    rcases Nat.lt_or_ge j D.length with h' | h'
    · exact h'
    · rw [List.getElem?_eq_none (by simpa using h')] at hu; simp at hu
  have e : ((⟨g, 0, none⟩ : Addr).add j) = ⟨g, j, none⟩ := by unfold Addr.add; split <;> simp_all
  rw [e, World.ownsRow.cellAt h j (by omega), hu]
section
variable {B bs br : Nat} {a : Option Addr} {len cap : Nat} {zs : List Int} {m : Nat} {fc ov : Value} {w wx : World} {p : Nat} {o : Option Addr} {oc : Nat} {out : List Int}
theorem SW.after0 {w4 : World} (h : SW B bs br a len cap zs m fc w ov wx p o oc out) (hgrow : wx.grownBy w4 (Value.slice o out.length oc).ownBlock) : w4.heap[bs]? = some (.cells (fA br o out.length oc m fc) 140 (0, 0)) :=
  (Kept.of_grown hgrow).heap h.ss.s0 (fun e => h.ss.ns e.symm)
theorem SW.onto {w4 : World} {o4 : Option Addr} {c4 n : Nat} {D : List Int} (h : SW B bs br a len cap zs m fc w ov wx p o oc out) (hD : D.length = n) (hown : w4.ownsRow B 5 1 (.slice o4 (out.length + n) c4) (out.length + n) (out.map (Value.int .u8) ++ D.map (Value.int .u8))) (hgrow : wx.grownBy w4 (Value.slice o out.length oc).ownBlock)
    (hat : (Value.slice o4 (out.length + n) c4).ownBlock = (Value.slice o out.length oc).ownBlock ∨ (Value.slice o4 (out.length + n) c4).ownBlock = some wx.heap.size) : SW B bs br a len cap zs m fc w ov (w4.setCell ⟨bs, 1, none⟩ (.slice o4 (out.length + n) c4)) p o4 c4 (out ++ D) := by
  have hl : (out ++ D).length = out.length + n := by simp [hD]
  have := h.put (o4 := o4) (c4 := c4) (out4 := out ++ D) (by unfold OwnsB; rw [hl]; simpa using hown) ((Kept.of_grown hgrow).mono (fun _ _ e => e.symm)) (fun g hg hlt => by
    rw [hl] at hg
    rcases hat with hat | hat
    · rw [← hat]; exact hg
    · rw [hat] at hg; simp at hg; omega)
  rw [hl] at this
  exact this
end

section
variable {B bs br : Nat} {a : Option Addr} {len cap : Nat} {zs : List Int} {m : Nat} {w : World} {p : Nat} {o : Option Addr} {oc : Nat} {fc : Value} {out : List Int}
theorem SS.drew (h : SS B bs br a len cap zs m w p o oc fc out) (k : Nat) : SS B bs br a len cap zs m (w.drewN k) p o oc fc out := ⟨h.s0, h.rd, h.tx, h.owns, h.inb, h.pl⟩
theorem SW.drew {w0 : World} {ov : Value} (h : SW B bs br a len cap zs m fc w0 ov w p o oc out) (k : Nat) : SW B bs br a len cap zs m fc w0 ov (w.drewN k) p o oc out := ⟨h.ss.drew k, h.kept.drewN k, h.old⟩
set_option maxHeartbeats 4000000 in
theorem stored_c (h : SS B bs br a len cap zs m w p o oc fc out) (hl : len ≤ 140737488351232) (hcap : len ≤ cap) (hm : m ≤ 10000000) (ho : out.length ≤ m) :
    Calls Tryz.prog 107 #[.pointer (some ⟨bs, 0, none⟩)] w (DOk B bs br a len cap zs m fc w (.slice o out.length oc) (iSto (ib zs) (len * 8) m p out)) := by
  obtain ⟨j0, hj0, hj1, hj2, hj3⟩ := info_parts Tryz.info5
  obtain ⟨R, hR⟩ : ∃ R, R = iSto (ib zs) (len * 8) m p out := ⟨_, rfl⟩
  rw [← hR]
  have hm8 : m ≤ 100000000 := by omega
  have hl8 : len * 8 ≤ 9223372036854775000 := by omega
  have hpl := h.pl
  have hP : 8 * ((p + 7) / 8) ≤ len * 8 := by omega
  have hlen := h.tx.1
  have HZ := hide h.tx.2.1
  have W0 := hide (SW.new h)
  have c0 := h.c0
  have HA := hide (ralign_any br a len cap p w h.rd (by omega))
  obtain ⟨P, hPe⟩ : ∃ P, P = 8 * ((p + 7) / 8) := ⟨_, rfl⟩
  have hP8 : P % 8 = 0 := by omega
  rw [← hPe] at HA hP
  unfold iSto at hR
  rw [show (p + 7) / 8 * 8 = P by omega] at hR
  have hC1 := fun w' (s : SS B bs br a len cap zs m w' P o oc fc out) => number_c s hl8 16 16 rfl (by decide)
  clear h
  rcases h1 : iTk (ib zs) (len * 8) P 16 with e | ⟨q1, n⟩
  · rw [h1] at hC1
    have HC1 := fun w' s => hide ((hC1 w' s).mono fun _ _ => NOk.bad rfl)
    rw [iThen_of_err h1] at hR
    have HR := hide hR
    clear hC1 h1 hR hPe
    go_enter Tryz.func107, Tryz.ntmps107
    go_wp2_with (first
      | (go_at_call 126; refine HA.out.mono ?_; rintro x w1 ⟨rfl, r1, k1⟩; have W1 := hide (W0.out.move k1 r1 hP); have c1 := W1.out.ss.c0; clear k1 r1 HA)
      | (go_at_call 106; refine (HC1 w1 W1.out.ss).out.mono ?_; rintro x w2 ⟨rfl, k2, e1, e2⟩; have K2 := hide (W1.out.bad (Mv.rd k2)); clear k2 HC1))
    go_ret
    exact DBad.ok HR.out ⟨rfl, K2.out, e1, e2⟩
  have hq1 := (iTk_got h1).1
  have hn16 := iTk_lt (ib_le zs) h1
  rw [h1] at hC1
  have HC1 := fun w' s => hide ((hC1 w' s).mono fun _ _ => NOk.got rfl)
  rw [iThen_of_ok h1] at hR
  have hC2 := fun w' (s : SS B bs br a len cap zs m w' q1 o oc fc out) => number_c s hl8 16 16 rfl (by decide)
  clear hC1 h1 hPe
  rcases h2 : iTk (ib zs) (len * 8) q1 16 with e | ⟨q2, n2⟩
  · rw [h2] at hC2
    have HC2 := fun w' s => hide ((hC2 w' s).mono fun _ _ => NOk.bad rfl)
    rw [iThen_of_err h2] at hR
    have HR := hide hR
    clear hC2 h2 hR
    go_enter Tryz.func107, Tryz.ntmps107
    go_wp2_with (first
      | (go_at_call 126; refine HA.out.mono ?_; rintro x w1 ⟨rfl, r1, k1⟩; have W1 := hide (W0.out.move k1 r1 hP); have c1 := W1.out.ss.c0; clear k1 r1 HA)
      | (go_at_call 106; refine (HC1 w1 W1.out.ss).out.mono ?_; rintro x w2 ⟨rfl, k2, r2, l2⟩; have W2 := hide (W1.out.move k2 r2 l2); have c2 := W2.out.ss.c0; clear k2 r2 HC1)
      | (go_at_call 106; refine (HC2 w2 W2.out.ss).out.mono ?_; rintro x w3 ⟨rfl, k3, e1, e2⟩; have K3 := hide (W2.out.bad (Mv.rd k3)); clear k3 HC2))
    go_ret
    exact DBad.ok HR.out ⟨rfl, K3.out, e1, e2⟩
  have hq2 := (iTk_got h2).1
  have hq2l := (iTk_got h2).2.1
  have hn26 := iTk_lt (ib_le zs) h2
  rw [h2] at hC2
  have HC2 := fun w' s => hide ((hC2 w' s).mono fun _ _ => NOk.got rfl)
  rw [iThen_of_ok h2] at hR
  clear hC2 h2
  have hx := xor_low n hn16
  by_cases hs : n + n2 = 65535
  case neg =>
    rw [if_pos hs] at hR
    have HR := hide hR
    have hs' : ¬ (n2 : Int) = ((65535 - n : Nat) : Int) := by omega
    clear hR hs
    go_enter Tryz.func107, Tryz.ntmps107
    go_wp2_with (first
      | (go_at_call 126; refine HA.out.mono ?_; rintro x w1 ⟨rfl, r1, k1⟩; have W1 := hide (W0.out.move k1 r1 hP); have c1 := W1.out.ss.c0; clear k1 r1 HA)
      | (go_at_call 106; refine (HC1 w1 W1.out.ss).out.mono ?_; rintro x w2 ⟨rfl, k2, r2, l2⟩; have W2 := hide (W1.out.move k2 r2 l2); have c2 := W2.out.ss.c0; clear k2 r2 HC1)
      | (go_at_call 106; refine (HC2 w2 W2.out.ss).out.mono ?_; rintro x w3 ⟨rfl, k3, r3, l3⟩; have W3 := hide (W2.out.move k3 r3 l3); have c3 := W3.out.ss.c0; have d3 := W3.out.ss.c1; clear k3 r3 HC2))
    go_ret
    exact DBad.ok HR.out ⟨rfl, W3.out.kept, by decide, by decide⟩
  rw [if_neg (by omega)] at hR
  have hs' : (n2 : Int) = ((65535 - n : Nat) : Int) := by omega
  by_cases hov : m < out.length + n
  case pos =>
    rw [if_pos hov] at hR
    have HR := hide hR
    clear hR hs
    go_enter Tryz.func107, Tryz.ntmps107
    go_wp2_with (first
      | (go_at_call 126; refine HA.out.mono ?_; rintro x w1 ⟨rfl, r1, k1⟩; have W1 := hide (W0.out.move k1 r1 hP); have c1 := W1.out.ss.c0; clear k1 r1 HA)
      | (go_at_call 106; refine (HC1 w1 W1.out.ss).out.mono ?_; rintro x w2 ⟨rfl, k2, r2, l2⟩; have W2 := hide (W1.out.move k2 r2 l2); have c2 := W2.out.ss.c0; clear k2 r2 HC1)
      | (go_at_call 106; refine (HC2 w2 W2.out.ss).out.mono ?_; rintro x w3 ⟨rfl, k3, r3, l3⟩; have W3 := hide (W2.out.move k3 r3 l3); have c3 := W3.out.ss.c0; have d3 := W3.out.ss.c1; clear k3 r3 HC2)
      | (go_at_call 127; refine (room_no W3.out.ss hm8 ho n hov).mono ?_; rintro x w4 ⟨rfl, kk, rfl⟩))
    go_ret
    exact DBad.ok HR.out ⟨rfl, (W3.out.drew kk).kept, by decide, by decide⟩
  rw [if_neg hov] at hR
  replace hov : out.length + n ≤ m := by omega
  have hrd : (q2 + 7) / 8 * 8 = q2 := by omega
  obtain ⟨K, hK⟩ : ∃ K, K = (q2 + 7) / 8 := ⟨_, rfl⟩
  have hq2K : q2 = 8 * K := by omega
  by_cases hen : len * 8 < q2 + 8 * n
  case pos =>
    rw [if_pos hen] at hR
    have HR := hide hR
    have HB := fun w' (s : SS B bs br a len cap zs m w' q2 o oc fc out) => hide (rbytes_no br a len cap q2 (n : Int) w' s.rd hl8 s.pl (.inr (by omega)))
    clear hR hs hK
    go_enter Tryz.func107, Tryz.ntmps107
    go_wp2_with (first
      | (go_at_call 126; refine HA.out.mono ?_; rintro x w1 ⟨rfl, r1, k1⟩; have W1 := hide (W0.out.move k1 r1 hP); have c1 := W1.out.ss.c0; clear k1 r1 HA)
      | (go_at_call 106; refine (HC1 w1 W1.out.ss).out.mono ?_; rintro x w2 ⟨rfl, k2, r2, l2⟩; have W2 := hide (W1.out.move k2 r2 l2); have c2 := W2.out.ss.c0; clear k2 r2 HC1)
      | (go_at_call 106; refine (HC2 w2 W2.out.ss).out.mono ?_; rintro x w3 ⟨rfl, k3, r3, l3⟩; have W3 := hide (W2.out.move k3 r3 l3); have c3 := W3.out.ss.c0; have d3 := W3.out.ss.c1; clear k3 r3 HC2)
      | (go_at_call 127; refine (room_yes W3.out.ss hm8 n hov).mono ?_; rintro x w4 ⟨rfl, kk, rfl⟩; have W4 := hide (W3.out.drew kk); have c4 := W4.out.ss.c0)
      | (go_at_call 128; refine (HB _ W4.out.ss).out.mono ?_; rintro x w5 ⟨rfl, rfl⟩))
    go_ret
    exact DBad.ok HR.out ⟨rfl, W4.out.kept, by decide, by decide⟩
  rw [if_neg hen] at hR
  have hkn : K + n ≤ zs.length := by omega
  rw [hq2K, iBytes_take zs K n HZ.out hkn, ← hq2K] at hR
  have HR := hide hR
  have HB := fun w' (s : SS B bs br a len cap zs m w' q2 o oc fc out) => rbytes_yes B br a len cap q2 n (n : Int) rfl zs w' s.rd s.tx hcap hl s.pl (by omega)
  rw [← hK] at HB
  obtain ⟨D, hD⟩ : ∃ D, D = (zs.drop K).take n := ⟨_, rfl⟩
  have hDl : D.length = n := by rw [hD]; simp; omega
  rw [← hD] at HB HR
  have hq5 : 8 * (K + n) ≤ len * 8 := by omega
  rw [show q2 + 8 * n = 8 * (K + n) by omega] at HR
  clear hR hs hK hD hrd
  go_enter Tryz.func107, Tryz.ntmps107
  go_wp2_with (first
      | (go_at_call 126; refine HA.out.mono ?_; rintro x w1 ⟨rfl, r1, k1⟩; have W1 := hide (W0.out.move k1 r1 hP); have c1 := W1.out.ss.c0; clear k1 r1 HA)
      | (go_at_call 106; refine (HC1 w1 W1.out.ss).out.mono ?_; rintro x w2 ⟨rfl, k2, r2, l2⟩; have W2 := hide (W1.out.move k2 r2 l2); have c2 := W2.out.ss.c0; clear k2 r2 HC1)
      | (go_at_call 106; refine (HC2 w2 W2.out.ss).out.mono ?_; rintro x w3 ⟨rfl, k3, r3, l3⟩; have W3 := hide (W2.out.move k3 r3 l3); have c3 := W3.out.ss.c0; have d3 := W3.out.ss.c1; clear k3 r3 HC2)
      | (go_at_call 127; refine (room_yes W3.out.ss hm8 n hov).mono ?_; rintro x w4 ⟨rfl, kk, rfl⟩; have W4 := hide (W3.out.drew kk); have c4 := W4.out.ss.c0)
      | (go_at_call 128; refine (HB _ W4.out.ss).mono ?_; rintro x w5 ⟨rfl, o5, r5, k5⟩; have W5 := hide (W4.out.move k5 r5 hq5); have c5 := W5.out.ss.c1; have g5 := free_of W5.out.ss.s0 1; have O5 := hide o5; have z5 := lt_of_block W5.out.ss.s0; clear o5 r5 k5)
      | (at_builtin; refine wpList_append_own_at _ rfl _ _ 22 rfl B 5 j0 (.int .u8 0) 1 1 Tryz.underlying22 hj0 hj1 hj2 hj3 rfl (by decide) (.slice o out.length oc) out.length (out.map (Value.int .u8)) rfl W5.out.ss.owns ⟨w3.heap.size, 0, none⟩ n n (D.map (Value.int .u8)) rfl (by simp [hDl]) (src_ofP O5.out hDl) (bytes_one D) (by unfold maxLen; omega) (by omega) (by have := W5.out.ss.inb; omega) ?_; intro v6 w6 ow6 gr6 _ at6; obtain ⟨o6, c6, rfl⟩ := own_form ow6; have W6 := hide (W5.out.onto hDl ow6 gr6 at6); have f6 := W5.out.after0 gr6; have g6 := free_of f6 1; have d6 := cells_of f6 1; simp [fA] at d6; have z6 := lt_of_block f6; clear ow6 gr6 at6 f6))
  go_ret
  exact DGot.ok HR.out W6.out.got
end
end Go.Proofs.YtgjafmppkfgkfaaGreatDoor
