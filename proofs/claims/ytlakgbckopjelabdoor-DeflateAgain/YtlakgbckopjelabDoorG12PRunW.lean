/- Several texts, laid together: PBack, ReadMore, PStored, PRunW. -/
import Derived.Test.YtlakgbckopjelabDoorG11PRun
import Derived.Test.YtlakgbckopjelabDoorG08ISpec
import Derived.Maps.AppendAt
import Derived.Deep.RegionLaw
/- The stream's back: contract. -/
namespace Go.Proofs.YtlakgbckopjelabDoor
set_option maxRecDepth 100000
open Go Go.RowKit

section
variable {B bs br : Nat} {a : Option Addr} {len cap : Nat} {zs : List Int} {m : Nat} {w : World} {p : Nat} {o : Option Addr} {oc : Nat} {fc : Value} {out : List Int}
end
end Go.Proofs.YtlakgbckopjelabDoor

/- The reader's Align and Bytes: contracts; and bytes that become a text. -/
namespace Go.Proofs.YtlakgbckopjelabDoor
set_option maxRecDepth 100000
open Go.RowKit

theorem made_full (n : Nat) (i : TypeInfo) (hi : Tryd.prog.info? 5 = some i) (hz : i.zero = some (.int .u8 0)) (hs : i.size = 1) (hb : i.bytes = 1) (hn : n ≤ 140737488351232) (W : World) :
    (Instr.makeSlice 22 (.int .i64 (n : Int)) (.int .i64 (n : Int))).run Tryd.prog W = .ok (.slice (some ⟨W.heap.size, 0, none⟩) n n) (W.alloc (.cells (List.replicate n (Value.int .u8 0)).toArray 5)) := by
  have := run_make (P := Tryd.prog) W 22 5 i (.int .u8 0) Tryd.underlying22 hi hz .i64 .i64 n n (by omega) (by omega) (by rw [hb]; omega) (by omega)
  rw [this, hs]
  have e2 : madeCells (Value.int .u8 0).cells n = (List.replicate n (Value.int .u8 0)).toArray := by
    have := toList_madeCells_one (Value.int .u8 0) n
    rw [← Array.toList_inj]
    simpa [Value.cells] using this
  rw [Int.toNat_natCast, Nat.mul_one, e2]

theorem own_copy {B g n : Nat} {w : World} {ZS CS : List Value} (h : w.heap[g]? = some (.cells (splice ZS 0 CS).toArray 5 (0, 0))) (hB : B ≤ g) (hn : n ≤ 140737488351232) (hc : CS.length = n) (hz : ZS.length = n) : w.ownsRow B 5 1 (.slice (some ⟨g, 0, none⟩) n n) n CS := by
  refine ⟨by omega, .inr ⟨g, n, _, rfl, hB, h, by omega, by unfold maxLen; omega, ?_, ?_⟩⟩
  · simp [splice]; omega
  · simp [splice]
    rw [List.take_append_of_le_length (by omega), List.take_of_length_le (by omega)]

/-- The cells CS lie where an address leads. -/
def SrcAt (w : World) (sp : Option Addr) (CS : List Value) : Prop := ∃ ad, sp = some ad ∧ ∀ j u, CS[j]? = some u → w.cell? (ad.add j) = some u

theorem strOf_nil : strOfNums [] = ByteArray.empty := rfl

theorem conv_text {B : Nat} {w : World} {a : Option Addr} {len cap : Nat} {zs : List Int} (h : Text B w a len zs) : (convert 22 9 (.slice a len cap)).run Tryd.prog w = .ok (.string (strOfNums zs)) w := by
  obtain ⟨h1, _, h3⟩ := h
  rcases h3 with h3 | ⟨b, off, _, rfl, hc⟩
  · have hz : zs = [] := List.eq_nil_of_length_eq_zero (by omega)
    subst hz
    subst h3
    cases a with
    | none => exact run_convert_bytes_nil w 22 5 Tryd.underlying22 Tryd.underlying5 0 cap 9 Tryd.underlying9
    | some ad =>
      rw [run_convert_bytes_string w 22 9 5 _ 0 cap Tryd.underlying22 Tryd.underlying5 Tryd.underlying9, run_bytesToString w ad 0 cap [] (by simpa using run_loadCells_list (P := Tryd.prog) w ad [] (by simp))]
      rfl
  · exact run_convert_bytes_arg w 22 5 Tryd.underlying22 Tryd.underlying5 b off len cap zs h1 hc 9 Tryd.underlying9
end Go.Proofs.YtlakgbckopjelabDoor

/- The stream's storedBlock: contract. -/
namespace Go.Proofs.YtlakgbckopjelabDoor
set_option maxRecDepth 100000
open Go Go.RowKit

section
variable {B bs br : Nat} {a : Option Addr} {len cap : Nat} {zs : List Int} {m : Nat} {fc ov : Value} {w wx : World} {p : Nat} {o : Option Addr} {oc : Nat} {out : List Int}
end

section
variable {B bs br : Nat} {a : Option Addr} {len cap : Nat} {zs : List Int} {m : Nat} {w : World} {p : Nat} {o : Option Addr} {oc : Nat} {fc : Value} {out : List Int}
end
end Go.Proofs.YtlakgbckopjelabDoor

/- The stream's run: contract. -/
namespace Go.Proofs.YtlakgbckopjelabDoor
set_option maxRecDepth 100000
open Go Go.RowKit

theorem own_some {w : World} {base : Nat} {o : Option Addr} {oc : Nat} {F : List Int} (h : OwnsB w base (.slice o F.length oc) F) (h0 : 0 < F.length) : ∃ g, o = some ⟨g, 0, none⟩ ∧ g < w.heap.size := by
  obtain ⟨g, cap, hv, _, hlt⟩ := World.ownsRow.form h h0
  simp at hv
  exact ⟨g, hv.1, hlt⟩
section
variable {B bs br : Nat} {a : Option Addr} {len cap : Nat} {zs : List Int} {m : Nat} {w : World} {p : Nat} {o : Option Addr} {oc : Nat} {fc : Value} {out : List Int}
end
end Go.Proofs.YtlakgbckopjelabDoor
