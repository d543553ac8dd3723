/- The reader's Align and Bytes: contracts; and bytes that become a text. -/
import Derived.Test.YtibolmgijaploaaDoorRefBytes
namespace Go.Proofs.YtibolmgijaploaaDoor
set_option maxRecDepth 100000
open Go.RowKit
theorem bytes_one (L : List Int) : ∀ u ∈ L.map (Value.int .u8), u.oneCell' = true := by
  intro u hu; simp at hu; obtain ⟨x, _, rfl⟩ := hu; rfl

theorem ralign_any (br : Nat) (a : Option Addr) (len cap p : Nat) (w : World) (hb : w.heap[br]? = some (.cells #[.slice a len cap, .int .i64 (p : Int)] 54 (0, 0))) (hp : p ≤ 9223372036854775000) :
    Calls Tryd.prog 32 #[.pointer (some ⟨br, 0, none⟩)] w fun e w' => e = .returned (.tuple #[]) ∧ w'.heap[br]? = some (.cells #[.slice a len cap, .int .i64 ((8 * ((p + 7) / 8) : Nat) : Int)] 54 (0, 0)) ∧ Kept (fun k => k = br) w w' := by
  have c1 := cells_of hb 1
  have f1 := free_of hb 1
  simp at c1
  go_enter Tryd.func32, Tryd.ntmps32
  go_wp2_with (go_at_call 52; refine (nextByte_any br p _ c1 (by omega) (by omega)).mono ?_; rintro e w ⟨rfl, rfl⟩)
  go_end0
  refine ⟨rfl, ?_, Kept.setCell (M := fun k => k = br) (Kept.refl _ _) (fun _ => rfl) _⟩
  rw [set_of hb, show ((p : Int) + 7) / 8 * 8 = ((8 * ((p + 7) / 8) : Nat) : Int) by omega]
  rfl

theorem rbytes_no (br : Nat) (a : Option Addr) (len cap p : Nat) (n : Int) (w : World) (hb : w.heap[br]? = some (.cells #[.slice a len cap, .int .i64 (p : Int)] 54 (0, 0))) (hl : len * 8 ≤ 9223372036854775000) (hp : p ≤ len * 8) (hn : n < 0 ∨ (len : Int) - ((p + 7) / 8 : Nat) < n) :
    Calls Tryd.prog 34 #[.pointer (some ⟨br, 0, none⟩), .int .i64 n] w fun e w' => e = .returned (.tuple #[.slice none 0 0, .bool false]) ∧ w' = w := by
  have c0 := cells_of hb 0
  have c1 := cells_of hb 1
  simp at c0 c1
  by_cases h0 : n < 0
  · go_enter Tryd.func34, Tryd.ntmps34
    go_wp2_with (go_at_call 52; refine (nextByte_any br p _ c1 (by omega) (by omega)).mono ?_; rintro e w ⟨rfl, rfl⟩)
    go_ret2
    exact ⟨rfl, rfl⟩
  · have h1 : (len : Int) - ((p : Int) + 7) / 8 < n := by omega
    clear hn
    go_enter Tryd.func34, Tryd.ntmps34
    go_wp2_with (go_at_call 52; refine (nextByte_any br p _ c1 (by omega) (by omega)).mono ?_; rintro e w ⟨rfl, rfl⟩)
    go_ret2
    exact ⟨rfl, rfl⟩

theorem made_full (n : Nat) (i : TypeInfo) (hi : Tryd.prog.info? 5 = some i) (hz : i.zero = some (.int .u8 0)) (hs : i.size = 1) (hb : i.bytes = 1) (hn : n ≤ 140737488351232) (W : World) :
    (Instr.makeSlice 22 (.int .i64 (n : Int)) (.int .i64 (n : Int))).run Tryd.prog W = .ok (.slice (some ⟨W.heap.size, 0, none⟩) n n) (W.alloc (.cells (List.replicate n (Value.int .u8 0)).toArray 5)) := by
  have := run_make (P := Tryd.prog) W 22 5 i (.int .u8 0) Tryd.underlying22 hi hz .i64 .i64 n n (by omega) (by omega) (by rw [hb]; omega) (by omega)
  rw [this, hs]
  have e2 : madeCells (Value.int .u8 0).cells n = (List.replicate n (Value.int .u8 0)).toArray := by
    have := toList_madeCells_one (Value.int .u8 0) n
    rw [← Array.toList_inj]
    simpa [Value.cells] using this
  rw [Int.toNat_natCast, Nat.mul_one, e2]

theorem own_copy {B g n : Nat} {w : World} {ZS CS : List Value} (h : w.heap[g]? = some (.cells (splice ZS 0 CS).toArray 5 (0, 0))) (hB : B ≤ g) (hn : n ≤ 140737488351232) (hc : CS.length = n) (hz : ZS.length = n) : w.ownsRow B 5 1 (.slice (some ⟨g, 0, none⟩) n n) n CS := by
  refine ⟨by omega, .inr ⟨g, n, _, rfl, hB, h, by omega, by unfold maxLen; omega, ?_, ?_⟩⟩
  · simp [splice]; omega
  · simp [splice]
    rw [List.take_append_of_le_length (by omega), List.take_of_length_le (by omega)]

/-- The cells CS lie where an address leads. -/
def SrcAt (w : World) (sp : Option Addr) (CS : List Value) : Prop := ∃ ad, sp = some ad ∧ ∀ j u, CS[j]? = some u → w.cell? (ad.add j) = some u

theorem rbytes_end {br n p fr len cap : Nat} {a : Option Addr} {x : Int} {w w2 : World} {ZS CS : List Value} {zs : List Int} (h : w2.heap[w.heap.size]? = some (.cells (splice ZS 0 CS).toArray 5 (0, 0))) (hB : Below w.heap.size w w2)
    (kb : w2.heap[br]? = some (.cells #[.slice a len cap, .int .i64 (p : Int)] 54 (0, 0))) (hbr : br < w.heap.size) (hn : n ≤ 140737488351232) (hc : CS.length = n) (hz : ZS.length = n) (hC : CS = ((zs.drop fr).take n).map (Value.int .u8)) (hr : fr = (p + 7) / 8) (hx : x = ((8 * (fr + n) : Nat) : Int)) :
    Ending.returned (.tuple #[.slice (some ⟨w.heap.size, 0, none⟩) n n, .bool true]) = Ending.returned (.tuple #[.slice (some ⟨w.heap.size, 0, none⟩) n n, .bool true]) ∧ OwnsB (w2.setCell ⟨br, 1, none⟩ (.int .i64 x)) w.heap.size (.slice (some ⟨w.heap.size, 0, none⟩) n n) ((zs.drop ((p + 7) / 8)).take n) ∧
      (w2.setCell ⟨br, 1, none⟩ (.int .i64 x)).heap[br]? = some (.cells #[.slice a len cap, .int .i64 ((8 * ((p + 7) / 8 + n) : Nat) : Int)] 54 (0, 0)) ∧ Kept (fun k => k = br) w (w2.setCell ⟨br, 1, none⟩ (.int .i64 x)) := by
  have ho := own_copy h (Nat.le_refl _) hn hc hz
  have hlen : ((zs.drop fr).take n).length = n := by rw [← hc, hC]; simp
  rw [hC] at ho
  subst hr
  refine ⟨rfl, ?_, ?_, ?_⟩
  · unfold OwnsB
    rw [hlen]
    exact ownsRow_setCell_other ho (by simp [Value.ownBlock]; omega) _
  · rw [set_of kb, hx]; rfl
  · exact Kept.setCell (M := fun k => k = br) ((Kept.of_below hB).mono (fun i hi e => by omega)) (fun _ => rfl) _

set_option maxHeartbeats 1000000 in
theorem rbytes_yes (B br : Nat) (a : Option Addr) (len cap p n : Nat) (ni : Int) (hni : ni = n) (zs : List Int) (w : World) (hb : w.heap[br]? = some (.cells #[.slice a len cap, .int .i64 (p : Int)] 54 (0, 0))) (ht : Text B w a len zs) (hcap : len ≤ cap)
    (hl : len ≤ 140737488351232) (hp : p ≤ len * 8) (hn : (p + 7) / 8 + n ≤ len) :
    Calls Tryd.prog 34 #[.pointer (some ⟨br, 0, none⟩), .int .i64 ni] w fun e w' => e = .returned (.tuple #[.slice (some ⟨w.heap.size, 0, none⟩) n n, .bool true]) ∧ OwnsB w' w.heap.size (.slice (some ⟨w.heap.size, 0, none⟩) n n) ((zs.drop ((p + 7) / 8)).take n) ∧ w'.heap[br]? = some (.cells #[.slice a len cap, .int .i64 ((8 * ((p + 7) / 8 + n) : Nat) : Int)] 54 (0, 0)) ∧ Kept (fun k => k = br) w w' := by
  subst hni
  have c0 := cells_of hb 0
  have c1 := cells_of hb 1
  have f1 := free_of hb 1
  have hbr := lt_of_block hb
  simp at c0 c1
  obtain ⟨fr, hfr⟩ : ∃ fr, fr = (p + 7) / 8 := ⟨_, rfl⟩
  rw [← hfr] at hn
  have hfri : ((p : Int) + 7) / 8 = (fr : Int) := by omega
  obtain ⟨i0, hi, hz0, hz1, hz2⟩ := info_parts Tryd.info5
  have hmk := made_full n i0 hi hz0 hz1 hz2 (by omega)
  obtain ⟨ZS, hZS⟩ : ∃ ZS : List Value, ZS = List.replicate n (Value.int .u8 0) := ⟨_, rfl⟩
  rw [← hZS] at hmk
  obtain ⟨CS, hCS⟩ : ∃ CS : List Value, CS = ((zs.drop fr).take n).map (Value.int .u8) := ⟨_, rfl⟩
  have hcl : CS.length = n := by rw [hCS]; simp [ht.1]; omega
  have hzl : ZS.length = n := by rw [hZS]; simp
  have hsz1 : (Tryd.prog.info? 5).map (fun x => x.size) = some 1 := by rw [hi]; simp [hz1]
  have HO : Hid (∀ u ∈ CS, u.oneCell' = true) := by rw [hCS]; exact bytes_one _
  have HC : Hid (CS = ((zs.drop fr).take n).map (Value.int .u8)) := hCS
  have HW : Hid (Below w.heap.size w (w.alloc (.cells ZS.toArray 5))) := Below.alloc (Below.refl _ _) (Nat.le_refl _) _
  have HP : Hid (0 < n → SrcAt (w.alloc (.cells ZS.toArray 5)) (a.map fun x => x.add fr) CS) := by
    intro hp0
    obtain ⟨h1, h2, h3⟩ := ht
    obtain ⟨b, off, hbB, rfl, hcell⟩ := h3.resolve_left (by omega)
    refine ⟨_, rfl, fun j u hj => ?_⟩
    have hjn : j < n := by
      rcases Nat.lt_or_ge j n with h' | h'
      · exact h'
      · rw [List.getElem?_eq_none (by omega)] at hj; simp at hj
    have hcj := hcell (fr + j) (by omega)
    have e0 : ∀ o i, ((⟨b, o, none⟩ : Addr).add i) = ⟨b, o + i, none⟩ := fun o i => by unfold Addr.add; split <;> simp_all
    show (w.alloc _).cell? (((⟨b, off, none⟩ : Addr).add fr).add j) = _
    rw [e0, e0, Nat.add_assoc, World.cell?_of_block (w := w) (Below.heap_alloc w _ _ (lt_of_cell hcj)), hcj]
    rw [hCS] at hj
    simp [hjn] at hj
    obtain ⟨x, hx, rfl⟩ := hj
    simp [List.getD, hx]
  have HR : Hid (fr = (p + 7) / 8) := hfr
  clear hZS hCS hfr ht
  by_cases hcf : cap = fr
  · have HCF : Hid (cap = fr) := hcf
    have hcf1 : cap ≤ fr := by omega
    clear hcf
    go_enter Tryd.func34, Tryd.ntmps34
    go_wp2_with (first
      | (go_at_call 52; refine (nextByte_any br p _ c1 (by omega) (by omega)).mono ?_; rintro e w ⟨rfl, rfl⟩)
      | (refine wpList_copy_splice rfl (.tmp 25) (.tmp 31) 22 22 rfl 5 Tryd.underlying22 hsz1 _ _ _ _ _ _ (by rfl) (by rfl) w.heap.size 0 ZS 5 (heap_new w _) CS (by rw [hcl]; exact (Nat.min_eq_right (by omega)).symm) (fun hp => absurd hp (by omega)) (by omega) HO.out w.heap.size w HW.out (Nat.le_refl _) ?_; intro w2 HG2 hB2; have kb := (hB2.block br hbr).trans hb; have k1 := cells_of kb 1; have g1 := free_of kb 1; simp at k1))
    go_ret2
    exact rbytes_end HG2.out hB2 kb hbr (by omega) hcl hzl HC.out HR.out (by omega)
  · go_enter Tryd.func34, Tryd.ntmps34
    go_wp2_with (first
      | (go_at_call 52; refine (nextByte_any br p _ c1 (by omega) (by omega)).mono ?_; rintro e w ⟨rfl, rfl⟩)
      | (refine wpList_copy_splice rfl (.tmp 25) (.tmp 31) 22 22 rfl 5 Tryd.underlying22 hsz1 _ _ _ _ _ _ (by rfl) (by rfl) w.heap.size 0 ZS 5 (heap_new w _) CS (by rw [hcl]; exact (Nat.min_eq_right (by omega)).symm) (fun hp => ⟨rfl, HP.out (by omega)⟩) (by omega) HO.out w.heap.size w HW.out (Nat.le_refl _) ?_; intro w2 HG2 hB2; have kb := (hB2.block br hbr).trans hb; have k1 := cells_of kb 1; have g1 := free_of kb 1; simp at k1))
    go_ret2
    exact rbytes_end HG2.out hB2 kb hbr (by omega) hcl hzl HC.out HR.out (by omega)

theorem strOf_nil : strOfNums [] = ByteArray.empty := rfl

theorem conv_text {B : Nat} {w : World} {a : Option Addr} {len cap : Nat} {zs : List Int} (h : Text B w a len zs) : (convert 22 9 (.slice a len cap)).run Tryd.prog w = .ok (.string (strOfNums zs)) w := by
  obtain ⟨h1, _, h3⟩ := h
  rcases h3 with h3 | ⟨b, off, _, rfl, hc⟩
  · have hz : zs = [] := List.eq_nil_of_length_eq_zero (by omega)
    subst hz
    subst h3
    cases a with
    | none => exact run_convert_bytes_nil w 22 5 Tryd.underlying22 Tryd.underlying5 0 cap 9 Tryd.underlying9
    | some ad =>
      rw [run_convert_bytes_string w 22 9 5 _ 0 cap Tryd.underlying22 Tryd.underlying5 Tryd.underlying9, run_bytesToString w ad 0 cap [] (by simpa using run_loadCells_list (P := Tryd.prog) w ad [] (by simp))]
      rfl
  · exact run_convert_bytes_arg w 22 5 Tryd.underlying22 Tryd.underlying5 b off len cap zs h1 hc 9 Tryd.underlying9
end Go.Proofs.YtibolmgijaploaaDoor
