/- Several texts, laid together: Data, Open, RefRow, RefLay. -/
import Derived.Test.YtlakgbckopjelabDoorWrite
import Derived.Laws.CopyOwn
import Derived.Laws.BytesArg
import Derived.Deep.DeepMust
import Derived.ProofKit
import Derived.OpenShut
import Derived.ShutString
import Derived.ChangeOld
import Derived.SizedLaws
import Derived.Deep.Slices
import Derived.Lib.SmallJoins
import Derived.Laws.AppendOwnNone
/- The writer's Data: the bytes, in a row of its own. -/
namespace Go.Proofs.YtlakgbckopjelabDoor
set_option maxRecDepth 100000
open Go.RowKit

/-- The bytes of a writer: those that are whole, and what waits. -/
def dataOf (bs : List Int) (t : Int) (m : Nat) : List Int := if 0 < m then bs ++ [t] else bs

theorem Wr.form {base bw : Nat} {w : World} {v : Value} {bs : List Int} {t : Int} {m : Nat} (h : Wr base bw w v bs t m) : ∃ a cap, v = .slice a bs.length cap ∧ (0 < bs.length → ∃ ad, a = some ad ∧ ∀ j u, (bs.map (Value.int .u8))[j]? = some u → w.cell? (ad.add j) = some u) := by
  rcases h.owns.2 with ⟨rfl, h2⟩ | ⟨g, cap, cur, rfl, hg, hh, hr⟩
  · exact ⟨none, 0, by rw [h2], fun h => by omega⟩
  · refine ⟨_, _, rfl, fun _ => ⟨_, rfl, fun j u hj => ?_⟩⟩
    have hjl : j < bs.length := by
      rcases Nat.lt_or_ge j bs.length with h' | h'
      · exact h'
      · simp [List.getElem?_eq_none (show (bs.map (Value.int .u8)).length ≤ j by simpa using h')] at hj
    have := h.owns.cellAt j (by omega)
    have hplain : (⟨g, 0, none⟩ : Addr).add j = ⟨g, j, none⟩ := by unfold Addr.add; split <;> simp_all
    rw [hplain, this, hj]

theorem made_bytes (n : Nat) (i : TypeInfo) (hi : Tryd.prog.info? 5 = some i) (hz : i.zero = some (.int .u8 0)) (hs : i.size = 1) (hb : i.bytes = 1) (hn : n ≤ 1000000000000) (W : World) :
    (Instr.makeSlice 22 (.int .i64 (n : Int)) (.int .i64 ((n : Int) + 1))).run Tryd.prog W = .ok (.slice (some ⟨W.heap.size, 0, none⟩) n (n + 1)) (W.alloc (.cells (List.replicate (n + 1) (Value.int .u8 0)).toArray 5)) := by
  have := run_make (P := Tryd.prog) W 22 5 i (.int .u8 0) Tryd.underlying22 hi hz .i64 .i64 n (n + 1) (by omega) (by omega) (by rw [hb]; omega) (by omega)
  rw [this, hs]
  have e1 : ((n : Int) + 1).toNat = n + 1 := by omega
  have e2 : madeCells (Value.int .u8 0).cells (n + 1) = (List.replicate (n + 1) (Value.int .u8 0)).toArray := by
    have := toList_madeCells_one (Value.int .u8 0) (n + 1)
    rw [← Array.toList_inj]
    simpa [Value.cells] using this
  rw [e1, Nat.mul_one, e2]
  simp

theorem own_splice {B g n : Nat} {w : World} {ZS CS : List Value} (h : w.heap[g]? = some (.cells (splice ZS 0 CS).toArray 5 (0, 0))) (hB : B ≤ g) (hn : n ≤ 1000000000) (hc : CS.length = n) (hz : ZS.length = n + 1) : w.ownsRow B 5 1 (.slice (some ⟨g, 0, none⟩) n (n + 1)) n CS := by
  refine ⟨by omega, .inr ⟨g, n + 1, _, rfl, hB, h, by omega, by unfold maxLen; omega, ?_, ?_⟩⟩
  · simp [splice]; omega
  · simp [splice]
    rw [List.take_append_of_le_length (by omega), List.take_of_length_le (by omega)]

set_option maxHeartbeats 1000000 in
theorem data_any (base bw : Nat) (v : Value) (bs : List Int) (t : Int) (m : Nat) (w : World) (h : Wr base bw w v bs t m) (hb : bs.length ≤ 1000000000) :
    Calls Tryd.prog 14 #[.pointer (some ⟨bw, 0, none⟩)] w fun e w' => ∃ g cap, e = .returned (.slice (some ⟨g, 0, none⟩) (dataOf bs t m).length cap) ∧ w'.ownsRow w.heap.size 5 1 (.slice (some ⟨g, 0, none⟩) (dataOf bs t m).length cap) (dataOf bs t m).length ((dataOf bs t m).map (Value.int .u8)) ∧ Below w.heap.size w w' := by
  have c0 := cells_of h.block 0
  have hbw := lt_of_block h.block
  have hm := h.m1
  have ht0 := h.t0
  have ht1 := h.t1
  simp at c0
  obtain ⟨a, cp, rfl, hsrc⟩ := h.form
  obtain ⟨i0, hi, hz0, hz1, hz2⟩ := info_parts Tryd.info5
  have ew : IntKind.i64.wrap ((bs.length : Int) + 1) = (bs.length : Int) + 1 := by rw [IntKind.wrap_i64]; omega
  have hmk := made_bytes bs.length i0 hi hz0 hz1 hz2 (by omega)
  rw [← ew] at hmk
  clear ew
  have HS : Hid (0 < bs.length → ∃ ad, a = some ad ∧ ∀ j u, (bs.map (Value.int .u8))[j]? = some u → w.cell? (ad.add j) = some u) := hsrc
  clear hsrc
  obtain ⟨ZS, hZS⟩ : ∃ ZS : List Value, ZS = List.replicate (bs.length + 1) (Value.int .u8 0) := ⟨_, rfl⟩
  rw [← hZS] at hmk
  obtain ⟨CS, hCS⟩ : ∃ CS : List Value, CS = bs.map (Value.int .u8) := ⟨_, rfl⟩
  have hcl : CS.length = bs.length := by rw [hCS]; simp
  have hzl : ZS.length = bs.length + 1 := by rw [hZS]; simp
  have hsz1 : (Tryd.prog.info? 5).map (fun x => x.size) = some 1 := by rw [hi]; simp [hz1]
  have hone : ∀ u ∈ CS, u.oneCell' = true := by intro u hu; rw [hCS] at hu; simp at hu; obtain ⟨x, _, rfl⟩ := hu; rfl
  have HZ : Hid (ZS = List.replicate (bs.length + 1) (Value.int .u8 0)) := hZS
  have HC : Hid (CS = bs.map (Value.int .u8)) := hCS
  have HO : Hid (∀ u ∈ CS, u.oneCell' = true) := hone
  have HW : Hid (Below w.heap.size w (w.alloc (.cells ZS.toArray 5)).drew) := (Below.alloc (Below.refl _ _) (Nat.le_refl _) _).drew
  have HP : Hid (0 < CS.length → some (⟨w.heap.size, 0, none⟩ : Addr) = some ⟨w.heap.size, 0, none⟩ ∧ ∃ ad, a = some ad ∧ ∀ j u, CS[j]? = some u → (w.alloc (.cells ZS.toArray 5)).drew.cell? (ad.add j) = some u) := by
    intro hp
    obtain ⟨ad, ha, hc⟩ := HS.out (by omega)
    refine ⟨rfl, ad, ha, fun j u hj => ?_⟩
    have h1 := hc j u (by rw [← hCS]; exact hj)
    have h2 := lt_of_cell h1
    rw [← h1]
    exact World.cell?_of_block (w := w) (Below.heap_alloc w _ _ h2)
  clear hZS hCS hone
  go_enter Tryd.func14, Tryd.ntmps14
  go_wp2
  go_region_held3 (fun w' => w'.cell? ⟨bw, 0, none⟩ = some (.slice a bs.length cp)) (go_keep) (fail)
  all_goals (go_wp2_with (first
    | (refine wpList_copy_splice rfl (.tmp 16) (.tmp 20) 22 22 rfl 5 Tryd.underlying22 hsz1 _ _ _ _ _ _ (by rfl) (by rfl) w.heap.size 0 ZS 5 (heap_new w _) CS (by rw [hcl]; exact (Nat.min_self _).symm) (fun hp => ⟨rfl, (HP.out hp).2⟩) (by omega) HO.out w.heap.size w HW.out (Nat.le_refl _) ?_; intro w2 HG2 hB2; have kb := (hB2.block bw hbw).trans h.block; have k1 := cells_of kb 1; have k2 := cells_of kb 2; simp at k1 k2; have HR : Hid (w2.ownsRow w.heap.size 5 1 (.slice (some ⟨w.heap.size, 0, none⟩) bs.length (bs.length + 1)) bs.length CS) := own_splice HG2.out (Nat.le_refl _) hb hcl hzl)
    | (at_builtin; go_must (refine wpList_append_lies _ rfl (.tmp 27) (.tmp 33) 22 rfl w.heap.size 5 i0 (.int .u8 0) 1 1 Tryd.underlying22 hi hz0 hz1 hz2 rfl (by decide) _ bs.length CS (by rfl) (HR.out.alloc _) ⟨w2.heap.size, 0, none⟩ 1 1 [.int .u8 (t % 256)] (by rfl) (by rfl) (World.news_of_block (heap_new w2 _)) (by intro u hu; simp at hu; subst hu; rfl) (by decide) (by unfold maxLen; omega) (by omega) (by have := hB2.size; simp; omega) _ rfl ?_; intro g cap w3 hown3 hgrow3 hat3 hlt3))))
  · go_ret
    have et : t % 256 = t := by
      have := pow_pos' m
      have a3 : (2 : Int) ^ m ≤ 128 := by
        have : (2 : Nat) ^ m ≤ 2 ^ 7 := Nat.pow_le_pow_right (by decide) hm
        have h2 : ((2 ^ m : Nat) : Int) ≤ ((2 ^ 7 : Nat) : Int) := by exact_mod_cast this
        simpa using h2
      omega
    have hd : dataOf bs t m = bs ++ [t] := by
      have : 0 < m := by assumption
      simp [dataOf, this]
    rw [et, HC.out] at hown3
    refine ⟨g, cap, ?_, ?_, ?_⟩
    · rw [hd]; simp
    · rw [hd]; simpa using hown3
    · exact (hB2.alloc hB2.size _).grown hgrow3 (by have := hB2.size; simp; omega) (fun k e => by simp [Value.ownBlock] at e; omega)
  · go_ret
    have hd : dataOf bs t m = bs := by
      have : m = 0 := by omega
      simp [dataOf, this]
    have hr := HR.out
    rw [HC.out] at hr
    exact ⟨w.heap.size, bs.length + 1, by rw [hd]; rfl, by rw [hd]; exact hr, hB2⟩
#print axioms data_any
end Go.Proofs.YtlakgbckopjelabDoor

/- How the arguments of the laws are opened: bytes, and calls of a reader or a writer. -/
namespace Go.Proofs.YtlakgbckopjelabDoor
set_option maxRecDepth 100000
open Go.ChangeShapes Go.WideShapes Go.ChangeAt Go.RowKit

theorem own : ownKnob Tryd.prog.godebug = none := by kernel_rfl
theorem laidOut : laidOutB Tryd.prog = true := by kernel_rfl
theorem Tryd.bytes5 : Tryd.prog.bytesOf 5 = 1 := by kernel_rfl
theorem Tryd.cells5 : Tryd.prog.cellsOf 5 = 1 := by kernel_rfl
theorem Tryd.cells3 : Tryd.prog.cellsOf 3 = 1 := by kernel_rfl
section
variable {H : Type} {enc : TypeId × Value → H} {W : World}


end
end Go.Proofs.YtlakgbckopjelabDoor

/- The reference's lists of bits: Row, Lay, Fill: contracts. -/
namespace Go.Proofs.YtlakgbckopjelabDoor
set_option maxRecDepth 100000
open Go.RowKit

/-- A slice value that owns the numbers L. -/
def Owns (w : World) (base : Nat) (v : Value) (L : List Int) : Prop := w.ownsRow base 3 1 v L.length (L.map (Value.int .i64))

theorem Owns.nil (w : World) (base : Nat) : Owns w base (.slice none 0 0) [] := World.ownsRow_nil _ _ _ _
theorem Owns.kept {M : Nat → Prop} {w w' : World} {base : Nat} {v : Value} {L : List Int} (h : Owns w base v L) (k : Kept M w w') (hn : ∀ g, v.ownBlock = some g → ¬ M g) : Owns w' base v L := ownsRow_kept h k hn
theorem Owns.low {w : World} {base base' : Nat} {v : Value} {L : List Int} (h : Owns w base v L) (hb : base' ≤ base) : Owns w base' v L := by
  obtain ⟨h1, h2⟩ := h
  refine ⟨h1, ?_⟩
  rcases h2 with h2 | ⟨g, cap, cur, hv, hg, r⟩
  · exact .inl h2
  · exact .inr ⟨g, cap, cur, hv, by omega, r⟩
theorem Owns.form {w : World} {base : Nat} {v : Value} {L : List Int} (h : Owns w base v L) : ∃ a cap, v = .slice a L.length cap ∧ (0 < L.length → ∃ g, v.ownBlock = some g ∧ base ≤ g ∧ g < w.heap.size ∧ a = some ⟨g, 0, none⟩ ∧ ∀ j, j < L.length → w.cell? ⟨g, j, none⟩ = some (.int .i64 (L.getD j 0))) := by
  rcases h.2 with ⟨rfl, h2⟩ | ⟨g, cap, cur, rfl, hg, hh, hr⟩
  · exact ⟨none, 0, by rw [h2], fun h => by omega⟩
  · refine ⟨_, _, rfl, fun _ => ⟨g, rfl, hg, lt_of_block hh, rfl, fun j hj => ?_⟩⟩
    have := World.ownsRow.cellAt h j (by omega)
    rw [this]
    simp [List.getD, hj]
theorem Owns.push {w : World} {base : Nat} {v : Value} {L : List Int} {x : Int} (h : w.ownsRow base 3 1 v (L.length + 1) (L.map (Value.int .i64) ++ [.int .i64 x])) : Owns w base v (L ++ [x]) := by
  unfold Owns
  simpa using h

theorem one_int (w : World) (x : Value) : ∀ j u, [x][j]? = some u → (w.alloc (.cells #[x] 3)).cell? ((⟨w.heap.size, 0, none⟩ : Addr).add j) = some u := World.news_of_block (heap_new w (.cells #[x] 3))

end Go.Proofs.YtlakgbckopjelabDoor

/- The reference's Lay and Fill: contracts. -/
namespace Go.Proofs.YtlakgbckopjelabDoor
set_option maxRecDepth 100000
open Go.RowKit

theorem own_empty (w : World) (base : Nat) (hb : base ≤ w.heap.size) : (w.alloc (.cells #[] 3)).ownsRow base 3 1 (.slice (some ⟨w.heap.size, 0, none⟩) 0 0) 0 [] := by
  have := World.ownsRow_lit (e := 3) (size := 1) (base := base) w #[] 0 hb (by unfold maxLen; omega) rfl
  simpa using this

/-- What stands in a row that is owned, as an append's source. -/
theorem src_of {w w' : World} {base g n cap : Nat} {L : List Int} (h : Owns w base (.slice (some ⟨g, 0, none⟩) n cap) L) (k : Kept (fun _ => False) w w') : ∀ j u, (L.map (Value.int .i64))[j]? = some u → w'.cell? ((⟨g, 0, none⟩ : Addr).add j) = some u := by
  intro j u hu
  obtain ⟨a, cp, hv, hc⟩ := h.form
  have hj : j < L.length := by
    rcases Nat.lt_or_ge j L.length with h' | h'
    · exact h'
    · simp [List.getElem?_eq_none (show (L.map (Value.int .i64)).length ≤ j by simpa using h')] at hu
  obtain ⟨g', hg', _, hlt, ha, hcell⟩ := hc (by omega)
  simp [Value.ownBlock] at hg'
  subst hg'
  have e : ((⟨g, 0, none⟩ : Addr).add j) = ⟨g, j, none⟩ := by unfold Addr.add; split <;> simp_all
  rw [e, k.cell (p := ⟨g, j, none⟩) hlt (fun h => h), hcell j hj]
  simp [hj] at hu
  rw [← hu]
  simp [List.getD, hj]

theorem ints_one (L : List Int) : ∀ u ∈ L.map (Value.int .i64), u.oneCell' = true := by
  intro u hu; simp at hu; obtain ⟨x, _, rfl⟩ := hu; rfl

/-- How many bits are missing up to a byte's end. -/
def pad (n : Nat) : Nat := (8 - n % 8) % 8

end Go.Proofs.YtlakgbckopjelabDoor
