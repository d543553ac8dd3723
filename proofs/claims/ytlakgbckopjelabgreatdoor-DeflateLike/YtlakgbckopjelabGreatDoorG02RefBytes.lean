/- Several texts, laid together: Data, Open, RefRow, RefLay, RefBytes. -/
import Derived.Test.YtlakgbckopjelabGreatDoorWrite
import Derived.Laws.CopyOwn
import Derived.Laws.BytesArg
import Derived.Deep.DeepMust
import Derived.ProofKit
import Derived.OpenShut
import Derived.ShutString
import Derived.ChangeOld
import Derived.SizedLaws
import Derived.Deep.Slices
import Derived.Lib.SmallJoins
import Derived.Laws.AppendOwnNone
/- The writer's Data: the bytes, in a row of its own. -/
namespace Go.Proofs.YtlakgbckopjelabGreatDoor
set_option maxRecDepth 100000
open Go.RowKit

/-- The bytes of a writer: those that are whole, and what waits. -/
def dataOf (bs : List Int) (t : Int) (m : Nat) : List Int := if 0 < m then bs ++ [t] else bs

theorem Wr.form {base bw : Nat} {w : World} {v : Value} {bs : List Int} {t : Int} {m : Nat} (h : Wr base bw w v bs t m) : ∃ a cap, v = .slice a bs.length cap ∧ (0 < bs.length → ∃ ad, a = some ad ∧ ∀ j u, (bs.map (Value.int .u8))[j]? = some u → w.cell? (ad.add j) = some u) := by
  rcases h.owns.2 with ⟨rfl, h2⟩ | ⟨g, cap, cur, rfl, hg, hh, hr⟩
  · exact ⟨none, 0, by rw [h2], fun h => by omega⟩
  · refine ⟨_, _, rfl, fun _ => ⟨_, rfl, fun j u hj => ?_⟩⟩
    have hjl : j < bs.length := by
      rcases Nat.lt_or_ge j bs.length with h' | h'
      · exact h'
      · simp [List.getElem?_eq_none (show (bs.map (Value.int .u8)).length ≤ j by simpa using h')] at hj
    have := h.owns.cellAt j (by omega)
    have hplain : (⟨g, 0, none⟩ : Addr).add j = ⟨g, j, none⟩ := by unfold Addr.add; split <;> simp_all
    rw [hplain, this, hj]

theorem made_bytes (n : Nat) (i : TypeInfo) (hi : Tryz.prog.info? 5 = some i) (hz : i.zero = some (.int .u8 0)) (hs : i.size = 1) (hb : i.bytes = 1) (hn : n ≤ 1000000000000) (W : World) :
    (Instr.makeSlice 23 (.int .i64 (n : Int)) (.int .i64 ((n : Int) + 1))).run Tryz.prog W = .ok (.slice (some ⟨W.heap.size, 0, none⟩) n (n + 1)) (W.alloc (.cells (List.replicate (n + 1) (Value.int .u8 0)).toArray 5)) := by
  have := run_make (P := Tryz.prog) W 23 5 i (.int .u8 0) Tryz.underlying23 hi hz .i64 .i64 n (n + 1) (by omega) (by omega) (by rw [hb]; omega) (by omega)
  rw [this, hs]
  have e1 : ((n : Int) + 1).toNat = n + 1 := by omega
  have e2 : madeCells (Value.int .u8 0).cells (n + 1) = (List.replicate (n + 1) (Value.int .u8 0)).toArray := by
    have := toList_madeCells_one (Value.int .u8 0) (n + 1)
    rw [← Array.toList_inj]
    simpa [Value.cells] using this
  rw [e1, Nat.mul_one, e2]
  simp

theorem own_splice {B g n : Nat} {w : World} {ZS CS : List Value} (h : w.heap[g]? = some (.cells (splice ZS 0 CS).toArray 5 (0, 0))) (hB : B ≤ g) (hn : n ≤ 1000000000) (hc : CS.length = n) (hz : ZS.length = n + 1) : w.ownsRow B 5 1 (.slice (some ⟨g, 0, none⟩) n (n + 1)) n CS := by
  refine ⟨by omega, .inr ⟨g, n + 1, _, rfl, hB, h, by omega, by unfold maxLen; omega, ?_, ?_⟩⟩
  · simp [splice]; omega
  · simp [splice]
    rw [List.take_append_of_le_length (by omega), List.take_of_length_le (by omega)]

set_option maxHeartbeats 1000000 in
theorem data_any (base bw : Nat) (v : Value) (bs : List Int) (t : Int) (m : Nat) (w : World) (h : Wr base bw w v bs t m) (hb : bs.length ≤ 1000000000) :
    Calls Tryz.prog 16 #[.pointer (some ⟨bw, 0, none⟩)] w fun e w' => ∃ g cap, e = .returned (.slice (some ⟨g, 0, none⟩) (dataOf bs t m).length cap) ∧ w'.ownsRow w.heap.size 5 1 (.slice (some ⟨g, 0, none⟩) (dataOf bs t m).length cap) (dataOf bs t m).length ((dataOf bs t m).map (Value.int .u8)) ∧ Below w.heap.size w w' := by
  have c0 := cells_of h.block 0
  have hbw := lt_of_block h.block
  have hm := h.m1
  have ht0 := h.t0
  have ht1 := h.t1
  simp at c0
  obtain ⟨a, cp, rfl, hsrc⟩ := h.form
  obtain ⟨i0, hi, hz0, hz1, hz2⟩ := info_parts Tryz.info5
  have ew : IntKind.i64.wrap ((bs.length : Int) + 1) = (bs.length : Int) + 1 := by rw [IntKind.wrap_i64]; omega
  have hmk := made_bytes bs.length i0 hi hz0 hz1 hz2 (by omega)
  rw [← ew] at hmk
  clear ew
  have HS : Hid (0 < bs.length → ∃ ad, a = some ad ∧ ∀ j u, (bs.map (Value.int .u8))[j]? = some u → w.cell? (ad.add j) = some u) := hsrc
  clear hsrc
  obtain ⟨ZS, hZS⟩ : ∃ ZS : List Value, ZS = List.replicate (bs.length + 1) (Value.int .u8 0) := ⟨_, rfl⟩
  rw [← hZS] at hmk
  obtain ⟨CS, hCS⟩ : ∃ CS : List Value, CS = bs.map (Value.int .u8) := ⟨_, rfl⟩
  have hcl : CS.length = bs.length := by rw [hCS]; simp
  have hzl : ZS.length = bs.length + 1 := by rw [hZS]; simp
  have hsz1 : (Tryz.prog.info? 5).map (fun x => x.size) = some 1 := by rw [hi]; simp [hz1]
  have hone : ∀ u ∈ CS, u.oneCell' = true := by intro u hu; rw [hCS] at hu; simp at hu; obtain ⟨x, _, rfl⟩ := hu; rfl
  have HZ : Hid (ZS = List.replicate (bs.length + 1) (Value.int .u8 0)) := hZS
  have HC : Hid (CS = bs.map (Value.int .u8)) := hCS
  have HO : Hid (∀ u ∈ CS, u.oneCell' = true) := hone
  have HW : Hid (Below w.heap.size w (w.alloc (.cells ZS.toArray 5)).drew) := (Below.alloc (Below.refl _ _) (Nat.le_refl _) _).drew
  have HP : Hid (0 < CS.length → some (⟨w.heap.size, 0, none⟩ : Addr) = some ⟨w.heap.size, 0, none⟩ ∧ ∃ ad, a = some ad ∧ ∀ j u, CS[j]? = some u → (w.alloc (.cells ZS.toArray 5)).drew.cell? (ad.add j) = some u) := by
    intro hp
    obtain ⟨ad, ha, hc⟩ := HS.out (by omega)
    refine ⟨rfl, ad, ha, fun j u hj => ?_⟩
    have h1 := hc j u (by rw [← hCS]; exact hj)
    have h2 := lt_of_cell h1
    rw [← h1]
    exact World.cell?_of_block (w := w) (Below.heap_alloc w _ _ h2)
  clear hZS hCS hone
  go_enter Tryz.func16, Tryz.ntmps16
  go_wp2
  go_region_held3 (fun w' => w'.cell? ⟨bw, 0, none⟩ = some (.slice a bs.length cp)) (go_keep) (fail)
  all_goals (go_wp2_with (first
    | (refine wpList_copy_splice rfl (.tmp 16) (.tmp 20) 23 23 rfl 5 Tryz.underlying23 hsz1 _ _ _ _ _ _ (by rfl) (by rfl) w.heap.size 0 ZS 5 (heap_new w _) CS (by rw [hcl]; exact (Nat.min_self _).symm) (fun hp => ⟨rfl, (HP.out hp).2⟩) (by omega) HO.out w.heap.size w HW.out (Nat.le_refl _) ?_; intro w2 HG2 hB2; have kb := (hB2.block bw hbw).trans h.block; have k1 := cells_of kb 1; have k2 := cells_of kb 2; simp at k1 k2; have HR : Hid (w2.ownsRow w.heap.size 5 1 (.slice (some ⟨w.heap.size, 0, none⟩) bs.length (bs.length + 1)) bs.length CS) := own_splice HG2.out (Nat.le_refl _) hb hcl hzl)
    | (at_builtin; go_must (refine wpList_append_lies _ rfl (.tmp 27) (.tmp 33) 23 rfl w.heap.size 5 i0 (.int .u8 0) 1 1 Tryz.underlying23 hi hz0 hz1 hz2 rfl (by decide) _ bs.length CS (by rfl) (HR.out.alloc _) ⟨w2.heap.size, 0, none⟩ 1 1 [.int .u8 (t % 256)] (by rfl) (by rfl) (World.news_of_block (heap_new w2 _)) (by intro u hu; simp at hu; subst hu; rfl) (by decide) (by unfold maxLen; omega) (by omega) (by have := hB2.size; simp; omega) _ rfl ?_; intro g cap w3 hown3 hgrow3 hat3 hlt3))))
  · go_ret
    have et : t % 256 = t := by
      have := pow_pos' m
      have a3 : (2 : Int) ^ m ≤ 128 := by
        have : (2 : Nat) ^ m ≤ 2 ^ 7 := Nat.pow_le_pow_right (by decide) hm
        have h2 : ((2 ^ m : Nat) : Int) ≤ ((2 ^ 7 : Nat) : Int) := by exact_mod_cast this
        simpa using h2
      omega
    have hd : dataOf bs t m = bs ++ [t] := by
      have : 0 < m := by assumption
      simp [dataOf, this]
    rw [et, HC.out] at hown3
    refine ⟨g, cap, ?_, ?_, ?_⟩
    · rw [hd]; simp
    · rw [hd]; simpa using hown3
    · exact (hB2.alloc hB2.size _).grown hgrow3 (by have := hB2.size; simp; omega) (fun k e => by simp [Value.ownBlock] at e; omega)
  · go_ret
    have hd : dataOf bs t m = bs := by
      have : m = 0 := by omega
      simp [dataOf, this]
    have hr := HR.out
    rw [HC.out] at hr
    exact ⟨w.heap.size, bs.length + 1, by rw [hd]; rfl, by rw [hd]; exact hr, hB2⟩
#print axioms data_any
end Go.Proofs.YtlakgbckopjelabGreatDoor

/- How the arguments of the laws are opened: bytes, and calls of a reader or a writer. -/
namespace Go.Proofs.YtlakgbckopjelabGreatDoor
set_option maxRecDepth 100000
open Go.ChangeShapes Go.WideShapes Go.ChangeAt Go.RowKit

theorem own : ownKnob Tryz.prog.godebug = none := by kernel_rfl
theorem laidOut : laidOutB Tryz.prog = true := by kernel_rfl
theorem Tryz.bytes5 : Tryz.prog.bytesOf 5 = 1 := by kernel_rfl
theorem Tryz.cells5 : Tryz.prog.cellsOf 5 = 1 := by kernel_rfl
theorem Tryz.cells3 : Tryz.prog.cellsOf 3 = 1 := by kernel_rfl
section
variable {H : Type} {enc : TypeId × Value → H} {W : World}


end
end Go.Proofs.YtlakgbckopjelabGreatDoor

/- The reference's lists of bits: Row, Lay, Fill: contracts. -/
namespace Go.Proofs.YtlakgbckopjelabGreatDoor
set_option maxRecDepth 100000
open Go.RowKit

/-- A slice value that owns the numbers L. -/
def Owns (w : World) (base : Nat) (v : Value) (L : List Int) : Prop := w.ownsRow base 3 1 v L.length (L.map (Value.int .i64))

theorem Owns.nil (w : World) (base : Nat) : Owns w base (.slice none 0 0) [] := World.ownsRow_nil _ _ _ _
theorem Owns.kept {M : Nat → Prop} {w w' : World} {base : Nat} {v : Value} {L : List Int} (h : Owns w base v L) (k : Kept M w w') (hn : ∀ g, v.ownBlock = some g → ¬ M g) : Owns w' base v L := ownsRow_kept h k hn
theorem Owns.low {w : World} {base base' : Nat} {v : Value} {L : List Int} (h : Owns w base v L) (hb : base' ≤ base) : Owns w base' v L := by
  obtain ⟨h1, h2⟩ := h
  refine ⟨h1, ?_⟩
  rcases h2 with h2 | ⟨g, cap, cur, hv, hg, r⟩
  · exact .inl h2
  · exact .inr ⟨g, cap, cur, hv, by omega, r⟩
theorem Owns.form {w : World} {base : Nat} {v : Value} {L : List Int} (h : Owns w base v L) : ∃ a cap, v = .slice a L.length cap ∧ (0 < L.length → ∃ g, v.ownBlock = some g ∧ base ≤ g ∧ g < w.heap.size ∧ a = some ⟨g, 0, none⟩ ∧ ∀ j, j < L.length → w.cell? ⟨g, j, none⟩ = some (.int .i64 (L.getD j 0))) := by
  rcases h.2 with ⟨rfl, h2⟩ | ⟨g, cap, cur, rfl, hg, hh, hr⟩
  · exact ⟨none, 0, by rw [h2], fun h => by omega⟩
  · refine ⟨_, _, rfl, fun _ => ⟨g, rfl, hg, lt_of_block hh, rfl, fun j hj => ?_⟩⟩
    have := World.ownsRow.cellAt h j (by omega)
    rw [this]
    simp [List.getD, hj]
theorem Owns.push {w : World} {base : Nat} {v : Value} {L : List Int} {x : Int} (h : w.ownsRow base 3 1 v (L.length + 1) (L.map (Value.int .i64) ++ [.int .i64 x])) : Owns w base v (L ++ [x]) := by
  unfold Owns
  simpa using h

theorem one_int (w : World) (x : Value) : ∀ j u, [x][j]? = some u → (w.alloc (.cells #[x] 3)).cell? ((⟨w.heap.size, 0, none⟩ : Addr).add j) = some u := World.news_of_block (heap_new w (.cells #[x] 3))

set_option maxRecDepth 100000 in
set_option maxHeartbeats 1000000 in
theorem row_any (B : Nat) (a : Option Addr) (len cap : Nat) (zs : List Int) (w : World) (ht : Text B w a len zs) (hl : len ≤ 1000000000000) (hB : B ≤ w.heap.size) :
    Calls Tryz.prog 29 #[.slice a len cap] w fun e w' => ∃ v, e = .returned v ∧ Owns w' w.heap.size v (rowOf zs) ∧ Below w.heap.size w w' := by
  obtain ⟨hz1, hz2, hz3⟩ := ht
  obtain ⟨i0, hi, hz0, hz1', hz2'⟩ := info_parts Tryz.info3
  go_enter Tryz.func29, Tryz.ntmps29
  go_wp2
  go_loopw [3, 4] (fun v i wr => ∃ k : Nat, k ≤ len ∧ i = .int .i64 k ∧ Owns wr w.heap.size v (rowOf (zs.take k)) ∧ Below w.heap.size w wr) (fun _ i _ => len - (intOf i).toNat)
  case atStart => exact ⟨0, Nat.zero_le _, rfl, Owns.nil _ _, Below.refl _ _⟩
  case round =>
    obtain ⟨k, hk, rfl, hown, hbel⟩ := hrel
    by_cases hlt : k < len
    · obtain ⟨b, off, hbB, rfl, hcell⟩ := hz3.resolve_left (by omega)
      have hc : wr.cell? ⟨b, off + k, none⟩ = some (.int .u8 (zs.getD k 0)) := (hbel.cell (by show b < w.heap.size; omega)).trans (hcell k hlt)
      have hx := hz2 k
      obtain ⟨X, hX⟩ : ∃ X, X = zs.getD k 0 := ⟨_, rfl⟩
      rw [← hX] at hc hx
      have HX : Hid (X = zs.getD k 0) := hX
      have HO : Hid (Owns wr w.heap.size u3 (rowOf (zs.take k))) := hown
      have HB : Hid (Below w.heap.size w wr) := hbel
      clear hX hown hbel hz3 hcell hz2
      go_wp2
      go_loopw [3, 5, 6] (fun v x i wi => ∃ j : Nat, j ≤ 8 ∧ i = .int .i64 j ∧ x = .int .i64 (X / 2 ^ j) ∧ Owns wi w.heap.size v (rowOf (zs.take k) ++ bitsN X j) ∧ Below w.heap.size w wi) (fun _ _ i _ => 8 - (intOf i).toNat)
      case atStart => exact ⟨0, by omega, rfl, by simp, by simpa [bitsN] using HO.out, HB.out⟩
      case round =>
        obtain ⟨j, hj, rfl, rfl, hown, hbel⟩ := hrel
        obtain ⟨Y, hY⟩ : ∃ Y, Y = X / 2 ^ j := ⟨_, rfl⟩
        have hY0 : 0 ≤ Y := by rw [hY]; exact Int.ediv_nonneg hx.1 (by have := pow_pos' j; omega)
        have hY1 : Y ≤ 255 := by rw [hY]; have := Int.ediv_le_self (2 ^ j) hx.1; omega
        rw [← hY]
        have HY : Hid (Y = X / 2 ^ j) := hY
        obtain ⟨L, hL⟩ : ∃ L, L = rowOf (zs.take k) ++ bitsN X j := ⟨_, rfl⟩
        rw [← hL] at hown
        have hLl : L.length ≤ 10000000000000 := by rw [hL]; simp [rowOf_length, bitsN_length]; omega
        have HL : Hid (L = rowOf (zs.take k) ++ bitsN X j) := hL
        have HR : Hid (Owns wr w.heap.size u3 L) := hown
        have hsz := hbel.size
        clear hY hL hown
        by_cases hj8 : j < 8
        · go_wp2_with (at_builtin; refine wpList_append_own _ rfl _ _ 45 rfl w.heap.size 3 i0 (.int .i64 0) 1 8 Tryz.underlying45 hi hz0 hz1' hz2' rfl (by decide) _ _ _ rfl (World.ownsRow.alloc HR.out _) ⟨wr.heap.size, 0, none⟩ 1 1 [.int .i64 (Y % 2)] rfl rfl (one_int wr _) (by intro u hu; simp at hu; subst hu; rfl) (by unfold maxLen; omega) (by omega) (by simp; omega) ?_; intro v' w1 hown' hgrow hnil)
          go_roundw
          case rel =>
            refine ⟨j + 1, by omega, by go_num, by rw [HY.out, div_pow_succ], ?_, ?_⟩
            · have h1 := Owns.push hown'
              rw [HY.out, HL.out, List.append_assoc] at h1
              exact h1
            · exact (hbel.alloc hsz _).grown hgrow (by simp; omega) (fun g e => (ownsRow_lt HR.out e).1)
          case measure => simp [intOf]; omega
        · have : j = 8 := by omega
          subst this
          go_wp2
          go_roundw
          case rel =>
            refine ⟨k + 1, by omega, by go_num, ?_, hbel⟩
            have h1 := HR.out
            rw [HL.out, HX.out, ← rowOf_take_succ zs k (by omega)] at h1
            exact h1
          case measure => simp [intOf]; omega
    · have : k = len := by omega
      subst this
      go_wp2
      go_ret
      rw [List.take_of_length_le (by omega)] at hown
      exact ⟨_, rfl, hown, hbel⟩
end Go.Proofs.YtlakgbckopjelabGreatDoor

/- The reference's Lay and Fill: contracts. -/
namespace Go.Proofs.YtlakgbckopjelabGreatDoor
set_option maxRecDepth 100000
open Go.RowKit

theorem own_empty (w : World) (base : Nat) (hb : base ≤ w.heap.size) : (w.alloc (.cells #[] 3)).ownsRow base 3 1 (.slice (some ⟨w.heap.size, 0, none⟩) 0 0) 0 [] := by
  have := World.ownsRow_lit (e := 3) (size := 1) (base := base) w #[] 0 hb (by unfold maxLen; omega) rfl
  simpa using this

/-- What stands in a row that is owned, as an append's source. -/
theorem src_of {w w' : World} {base g n cap : Nat} {L : List Int} (h : Owns w base (.slice (some ⟨g, 0, none⟩) n cap) L) (k : Kept (fun _ => False) w w') : ∀ j u, (L.map (Value.int .i64))[j]? = some u → w'.cell? ((⟨g, 0, none⟩ : Addr).add j) = some u := by
  intro j u hu
  obtain ⟨a, cp, hv, hc⟩ := h.form
  have hj : j < L.length := by
    rcases Nat.lt_or_ge j L.length with h' | h'
    · exact h'
    · simp [List.getElem?_eq_none (show (L.map (Value.int .i64)).length ≤ j by simpa using h')] at hu
  obtain ⟨g', hg', _, hlt, ha, hcell⟩ := hc (by omega)
  simp [Value.ownBlock] at hg'
  subst hg'
  have e : ((⟨g, 0, none⟩ : Addr).add j) = ⟨g, j, none⟩ := by unfold Addr.add; split <;> simp_all
  rw [e, k.cell (p := ⟨g, j, none⟩) hlt (fun h => h), hcell j hj]
  simp [hj] at hu
  rw [← hu]
  simp [List.getD, hj]

theorem ints_one (L : List Int) : ∀ u ∈ L.map (Value.int .i64), u.oneCell' = true := by
  intro u hu; simp at hu; obtain ⟨x, _, rfl⟩ := hu; rfl

/-- How many bits are missing up to a byte's end. -/
def pad (n : Nat) : Nat := (8 - n % 8) % 8

end Go.Proofs.YtlakgbckopjelabGreatDoor

/- The reference's Bytes: bits become bytes. -/
namespace Go.Proofs.YtlakgbckopjelabGreatDoor
set_option maxRecDepth 100000
open Go.RowKit

/-- A slice value that owns the bytes D. -/
def OwnsB (w : World) (base : Nat) (v : Value) (D : List Int) : Prop := w.ownsRow base 5 1 v D.length (D.map (Value.int .u8))
theorem OwnsB.nil (w : World) (base : Nat) : OwnsB w base (.slice none 0 0) [] := World.ownsRow_nil _ _ _ _
theorem OwnsB.push {w : World} {base : Nat} {v : Value} {L : List Int} {x : Int} (h : w.ownsRow base 5 1 v (L.length + 1) (L.map (Value.int .u8) ++ [.int .u8 x])) : OwnsB w base v (L ++ [x]) := by
  unfold OwnsB
  simpa using h
theorem one_byte (w : World) (x : Value) : ∀ j u, [x][j]? = some u → (w.alloc (.cells #[x] 5)).cell? ((⟨w.heap.size, 0, none⟩ : Addr).add j) = some u := World.news_of_block (heap_new w (.cells #[x] 5))

/-- The numbers L lie in memory, where a slice leads. -/
def Nums (w : World) (a : Option Addr) (L : List Int) : Prop := L.length = 0 ∨ ∃ b off, b < w.heap.size ∧ a = some ⟨b, off, none⟩ ∧ ∀ i, i < L.length → w.cell? ⟨b, off + i, none⟩ = some (.int .i64 (L.getD i 0))

def Bin (L : List Int) : Prop := ∀ i, 0 ≤ L.getD i 0 ∧ L.getD i 0 ≤ 1

/-- The first j bits from place i on, as a number (0 where there are none). -/
def packB (L : List Int) (i : Nat) : Nat → Int
  | 0 => 0
  | j + 1 => packB L i j + 2 ^ j * L.getD (i + j) 0

def bytesL (L : List Int) (q : Nat) : List Int := (List.range q).map fun r => packB L (8 * r) 8

theorem packB_bd (L : List Int) (h : Bin L) (i j : Nat) : 0 ≤ packB L i j ∧ packB L i j < 2 ^ j := by
  induction j with
  | zero => simp [packB]
  | succ j ih =>
    have hb := h (i + j)
    have hp := pow_pos' j
    rw [packB, Int.pow_succ]
    have : L.getD (i + j) 0 = 0 ∨ L.getD (i + j) 0 = 1 := by omega
    rcases this with e | e <;> rw [e] <;> omega

theorem pack_step (P X l : Int) (h0 : 0 ≤ l) (h1 : l ≤ 1) (hp0 : 0 ≤ P) (hp1 : P ≤ 256) (hx0 : 0 ≤ X) (hx1 : X ≤ 256) : wrap64 (X + wrap64 (P * l)) = X + P * l := by
  have : l = 0 ∨ l = 1 := by omega
  rcases this with e | e
  · subst e
    rw [Int.mul_zero, IntWalk.wrap64_in 0 (by omega), IntWalk.wrap64_in _ (by omega)]
  · subst e
    rw [Int.mul_one, IntWalk.wrap64_in P (by omega), IntWalk.wrap64_in _ (by omega)]

theorem pow_le_8 {k : Nat} (h : k ≤ 8) : (2 : Int) ^ k ≤ 256 := by
  have : (2 : Nat) ^ k ≤ 2 ^ 8 := Nat.pow_le_pow_right (by decide) h
  have h2 : ((2 ^ k : Nat) : Int) ≤ ((2 ^ 8 : Nat) : Int) := by exact_mod_cast this
  simpa using h2

end Go.Proofs.YtlakgbckopjelabGreatDoor
