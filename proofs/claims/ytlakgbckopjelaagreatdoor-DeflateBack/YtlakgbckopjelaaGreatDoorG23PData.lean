/- Several texts, laid together: ReadMore, PStored, PRunW, PData. -/
import Derived.Test.YtlakgbckopjelaaGreatDoorG05WriteMore
import Derived.Test.YtlakgbckopjelaaGreatDoorG22PBack
import Derived.Test.YtlakgbckopjelaaGreatDoorG07MMath
import Derived.Maps.AppendAt
import Derived.Deep.RegionLaw
/- The reader's Align and Bytes: contracts; and bytes that become a text. -/
namespace Go.Proofs.YtlakgbckopjelaaGreatDoor
set_option maxRecDepth 100000
open Go.RowKit

theorem made_full (n : Nat) (i : TypeInfo) (hi : Tryz.prog.info? 5 = some i) (hz : i.zero = some (.int .u8 0)) (hs : i.size = 1) (hb : i.bytes = 1) (hn : n ≤ 140737488351232) (W : World) :
    (Instr.makeSlice 22 (.int .i64 (n : Int)) (.int .i64 (n : Int))).run Tryz.prog W = .ok (.slice (some ⟨W.heap.size, 0, none⟩) n n) (W.alloc (.cells (List.replicate n (Value.int .u8 0)).toArray 5)) := by
  have := run_make (P := Tryz.prog) W 22 5 i (.int .u8 0) Tryz.underlying22 hi hz .i64 .i64 n n (by omega) (by omega) (by rw [hb]; omega) (by omega)
  rw [this, hs]
  have e2 : madeCells (Value.int .u8 0).cells n = (List.replicate n (Value.int .u8 0)).toArray := by
    have := toList_madeCells_one (Value.int .u8 0) n
    rw [← Array.toList_inj]
    simpa [Value.cells] using this
  rw [Int.toNat_natCast, Nat.mul_one, e2]

theorem own_copy {B g n : Nat} {w : World} {ZS CS : List Value} (h : w.heap[g]? = some (.cells (splice ZS 0 CS).toArray 5 (0, 0))) (hB : B ≤ g) (hn : n ≤ 140737488351232) (hc : CS.length = n) (hz : ZS.length = n) : w.ownsRow B 5 1 (.slice (some ⟨g, 0, none⟩) n n) n CS := by
  refine ⟨by omega, .inr ⟨g, n, _, rfl, hB, h, by omega, by unfold maxLen; omega, ?_, ?_⟩⟩
  · simp [splice]; omega
  · simp [splice]
    rw [List.take_append_of_le_length (by omega), List.take_of_length_le (by omega)]

/-- The cells CS lie where an address leads. -/
def SrcAt (w : World) (sp : Option Addr) (CS : List Value) : Prop := ∃ ad, sp = some ad ∧ ∀ j u, CS[j]? = some u → w.cell? (ad.add j) = some u

theorem strOf_nil : strOfNums [] = ByteArray.empty := rfl

theorem conv_text {B : Nat} {w : World} {a : Option Addr} {len cap : Nat} {zs : List Int} (h : Text B w a len zs) : (convert 22 9 (.slice a len cap)).run Tryz.prog w = .ok (.string (strOfNums zs)) w := by
  obtain ⟨h1, _, h3⟩ := h
  rcases h3 with h3 | ⟨b, off, _, rfl, hc⟩
  · have hz : zs = [] := List.eq_nil_of_length_eq_zero (by omega)
    subst hz
    subst h3
    cases a with
    | none => exact run_convert_bytes_nil w 22 5 Tryz.underlying22 Tryz.underlying5 0 cap 9 Tryz.underlying9
    | some ad =>
      rw [run_convert_bytes_string w 22 9 5 _ 0 cap Tryz.underlying22 Tryz.underlying5 Tryz.underlying9, run_bytesToString w ad 0 cap [] (by simpa using run_loadCells_list (P := Tryz.prog) w ad [] (by simp))]
      rfl
  · exact run_convert_bytes_arg w 22 5 Tryz.underlying22 Tryz.underlying5 b off len cap zs h1 hc 9 Tryz.underlying9
end Go.Proofs.YtlakgbckopjelaaGreatDoor

/- The stream's storedBlock: contract. -/
namespace Go.Proofs.YtlakgbckopjelaaGreatDoor
set_option maxRecDepth 100000
open Go Go.RowKit

theorem xor_low (n : Nat) (h : n < 65536) : bits .xor .i64 (n : Int) 65535 = ((65535 - n : Nat) : Int) := by
  have ha : (BitVec.ofInt 64 (n : Int)).toNat = n := ofInt_nat n (by omega)
  have hb : (BitVec.ofInt 64 (65535 : Int)).toNat = 65535 := ofInt_nat 65535 (by decide)
  show IntKind.i64.wrap (((BitVec.ofInt 64 (n : Int) ^^^ BitVec.ofInt 64 (65535 : Int)).toNat : Nat) : Int) = _
  rw [BitVec.toNat_xor, ha, hb]
  have e : n ^^^ 65535 = 65535 - n := by
    have h1 := congrArg BitVec.toNat (BitVec.xor_allOnes (x := BitVec.ofNat 16 n))
    rw [BitVec.toNat_xor, BitVec.toNat_not, BitVec.toNat_allOnes, BitVec.toNat_ofNat, Nat.mod_eq_of_lt h] at h1
    simpa using h1
  rw [e, wrap_i64_small _ (by omega)]

/-- The bytes of a text are its bits. -/
theorem iNum_at (zs : List Int) (i : Nat) (h : 0 ≤ zs.getD i 0 ∧ zs.getD i 0 ≤ 255) : (iNum (ib zs) (8 * i) 8 : Int) = zs.getD i 0 := by
  rw [← bits_num, bitsVal_byte zs (8 * i) 8 (by omega), show 8 * i / 8 = i by omega, show 8 * i % 8 = 0 by omega]
  simp only [Int.pow_zero, Int.ediv_one]
  omega
theorem iBytes_take (zs : List Int) (k n : Nat) (h : ∀ i, 0 ≤ zs.getD i 0 ∧ zs.getD i 0 ≤ 255) (hl : k + n ≤ zs.length) : iBytes (ib zs) (8 * k) n = (zs.drop k).take n := by
  unfold iBytes
  apply List.ext_getElem
  · simp; omega
  · intro i h1 h2
    simp only [List.length_map, List.length_range] at h1
    simp only [List.getElem_map, List.getElem_range, List.getElem_take, List.getElem_drop]
    rw [show 8 * k + 8 * i = 8 * (k + i) by omega, iNum_at zs (k + i) (h _)]
    simp [List.getD, show k + i < zs.length by omega]

theorem src_ofP {w : World} {base g n : Nat} {D : List Int} (h : OwnsB w base (.slice (some ⟨g, 0, none⟩) n n) D) (hn : D.length = n) : ∀ j u, (D.map (Value.int .u8))[j]? = some u → w.cell? ((⟨g, 0, none⟩ : Addr).add j) = some u := fun j u hu => by
  subst hn
  have hj : j < D.length := by
    rcases Nat.lt_or_ge j D.length with h' | h'
    · exact h'
    · rw [List.getElem?_eq_none (by simpa using h')] at hu; simp at hu
  have e : ((⟨g, 0, none⟩ : Addr).add j) = ⟨g, j, none⟩ := by unfold Addr.add; split <;> simp_all
  rw [e, World.ownsRow.cellAt h j (by omega), hu]
section
variable {B bs br : Nat} {a : Option Addr} {len cap : Nat} {zs : List Int} {m : Nat} {fc ov : Value} {w wx : World} {p : Nat} {o : Option Addr} {oc : Nat} {out : List Int}
end

section
variable {B bs br : Nat} {a : Option Addr} {len cap : Nat} {zs : List Int} {m : Nat} {w : World} {p : Nat} {o : Option Addr} {oc : Nat} {fc : Value} {out : List Int}
end
end Go.Proofs.YtlakgbckopjelaaGreatDoor

/- The stream's run: contract. -/
namespace Go.Proofs.YtlakgbckopjelaaGreatDoor
set_option maxRecDepth 100000
open Go Go.RowKit

theorem own_some {w : World} {base : Nat} {o : Option Addr} {oc : Nat} {F : List Int} (h : OwnsB w base (.slice o F.length oc) F) (h0 : 0 < F.length) : ∃ g, o = some ⟨g, 0, none⟩ ∧ g < w.heap.size := by
  obtain ⟨g, cap, hv, _, hlt⟩ := World.ownsRow.form h h0
  simp at hv
  exact ⟨g, hv.1, hlt⟩
theorem one_byte' (w : World) (x : Value) (n : Nat) (h : w.heap.size = n) : ∀ j u, [x][j]? = some u → (w.alloc (.cells #[x] 5)).cell? ((⟨n, 0, none⟩ : Addr).add j) = some u := by
  subst h; exact World.news_of_block (heap_new w (.cells #[x] 5))

section
variable {B bs br : Nat} {a : Option Addr} {len cap : Nat} {zs : List Int} {m : Nat} {w : World} {p : Nat} {o : Option Addr} {oc : Nat} {fc : Value} {out : List Int}
end
end Go.Proofs.YtlakgbckopjelaaGreatDoor

/- The stream's data: contract. -/
namespace Go.Proofs.YtlakgbckopjelaaGreatDoor
set_option maxRecDepth 100000
open Go Go.RowKit

theorem iOn_ok {r : Except Int (Nat × List Int)} {q : Nat} {o : List Int} (h : r = .ok (q, o)) : iOn r = .ok (q, (true, o)) := by rw [h]; rfl
theorem iOn_err {r : Except Int (Nat × List Int)} {e : Int} (h : r = .error e) : iOn r = .error e := by rw [h]; rfl

section
variable {B bs br : Nat} {a : Option Addr} {len cap : Nat} {zs : List Int} {m : Nat} {w : World} {p : Nat} {o : Option Addr} {oc : Nat} {fc : Value} {out : List Int}
theorem Aw.rd {lo hi : Nat} {ov : Value} (h : Aw lo hi bs br ov) : br < lo ∨ hi ≤ br := by
  rcases Nat.lt_or_ge br lo with h1 | h1
  · exact .inl h1
  · rcases Nat.lt_or_ge br hi with h2 | h2
    · exact absurd (.inr (.inl rfl)) (h br h1 h2)
    · exact .inr h2
end
end Go.Proofs.YtlakgbckopjelaaGreatDoor
