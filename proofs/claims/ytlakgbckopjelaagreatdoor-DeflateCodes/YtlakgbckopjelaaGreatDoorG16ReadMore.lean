/- Several texts, laid together: PRead, PRun, PBack, ReadMore. -/
import Derived.Test.YtlakgbckopjelaaGreatDoorG09PState
import Derived.Test.YtlakgbckopjelaaGreatDoorG05WriteMore
/- The stream's number, symbol, room, times, long and back: contracts. -/
namespace Go.Proofs.YtlakgbckopjelaaGreatDoor
set_option maxRecDepth 100000
open Go Go.RowKit

section
variable {B bs br : Nat} {a : Option Addr} {len cap : Nat} {zs : List Int} {m : Nat} {w : World} {p : Nat} {o : Option Addr} {oc : Nat} {fc : Value} {out : List Int}
end
end Go.Proofs.YtlakgbckopjelaaGreatDoor

/- The stream's times, long and back: contracts. -/
namespace Go.Proofs.YtlakgbckopjelaaGreatDoor
set_option maxRecDepth 100000
open Go Go.RowKit

section
variable {B bs br : Nat} {a : Option Addr} {len cap : Nat} {zs : List Int} {m : Nat} {w : World} {p : Nat} {o : Option Addr} {oc : Nat} {fc : Value} {out : List Int}

def longRow (v : Int) (n k : Nat) : Prop := (v = 265 ∧ n = 1 ∧ k = 11) ∨ (v = 266 ∧ n = 1 ∧ k = 13) ∨ (v = 267 ∧ n = 1 ∧ k = 15) ∨ (v = 268 ∧ n = 1 ∧ k = 17) ∨ (v = 269 ∧ n = 2 ∧ k = 19) ∨ (v = 270 ∧ n = 2 ∧ k = 23) ∨ (v = 271 ∧ n = 2 ∧ k = 27) ∨ (v = 272 ∧ n = 2 ∧ k = 31) ∨ (v = 273 ∧ n = 3 ∧ k = 35) ∨ (v = 274 ∧ n = 3 ∧ k = 43) ∨ (v = 275 ∧ n = 3 ∧ k = 51) ∨ (v = 276 ∧ n = 3 ∧ k = 59) ∨ (v = 277 ∧ n = 4 ∧ k = 67) ∨ (v = 278 ∧ n = 4 ∧ k = 83) ∨ (v = 279 ∧ n = 4 ∧ k = 99) ∨ (v = 280 ∧ n = 4 ∧ k = 115) ∨ (v = 281 ∧ n = 5 ∧ k = 131) ∨ (v = 282 ∧ n = 5 ∧ k = 163) ∨ (v = 283 ∧ n = 5 ∧ k = 195) ∨ (v = 284 ∧ n = 5 ∧ k = 227)
def backRow (v : Int) (n k : Nat) : Prop := (v = 4 ∧ n = 1 ∧ k = 5) ∨ (v = 5 ∧ n = 1 ∧ k = 7) ∨ (v = 6 ∧ n = 2 ∧ k = 9) ∨ (v = 7 ∧ n = 2 ∧ k = 13) ∨ (v = 8 ∧ n = 3 ∧ k = 17) ∨ (v = 9 ∧ n = 3 ∧ k = 25) ∨ (v = 10 ∧ n = 4 ∧ k = 33) ∨ (v = 11 ∧ n = 4 ∧ k = 49) ∨ (v = 12 ∧ n = 5 ∧ k = 65) ∨ (v = 13 ∧ n = 5 ∧ k = 97) ∨ (v = 14 ∧ n = 6 ∧ k = 129) ∨ (v = 15 ∧ n = 6 ∧ k = 193) ∨ (v = 16 ∧ n = 7 ∧ k = 257) ∨ (v = 17 ∧ n = 7 ∧ k = 385) ∨ (v = 18 ∧ n = 8 ∧ k = 513) ∨ (v = 19 ∧ n = 8 ∧ k = 769) ∨ (v = 20 ∧ n = 9 ∧ k = 1025) ∨ (v = 21 ∧ n = 9 ∧ k = 1537) ∨ (v = 22 ∧ n = 10 ∧ k = 2049) ∨ (v = 23 ∧ n = 10 ∧ k = 3073) ∨ (v = 24 ∧ n = 11 ∧ k = 4097) ∨ (v = 25 ∧ n = 11 ∧ k = 6145) ∨ (v = 26 ∧ n = 12 ∧ k = 8193) ∨ (v = 27 ∧ n = 12 ∧ k = 12289) ∨ (v = 28 ∧ n = 13 ∧ k = 16385) ∨ (v = 29 ∧ n = 13 ∧ k = 24577)
end
end Go.Proofs.YtlakgbckopjelaaGreatDoor

/- The stream's back: contract. -/
namespace Go.Proofs.YtlakgbckopjelaaGreatDoor
set_option maxRecDepth 100000
open Go Go.RowKit

section
variable {B bs br : Nat} {a : Option Addr} {len cap : Nat} {zs : List Int} {m : Nat} {w : World} {p : Nat} {o : Option Addr} {oc : Nat} {fc : Value} {out : List Int}
end
end Go.Proofs.YtlakgbckopjelaaGreatDoor

/- The reader's Align and Bytes: contracts; and bytes that become a text. -/
namespace Go.Proofs.YtlakgbckopjelaaGreatDoor
set_option maxRecDepth 100000
open Go.RowKit

theorem made_full (n : Nat) (i : TypeInfo) (hi : Tryz.prog.info? 5 = some i) (hz : i.zero = some (.int .u8 0)) (hs : i.size = 1) (hb : i.bytes = 1) (hn : n ≤ 140737488351232) (W : World) :
    (Instr.makeSlice 22 (.int .i64 (n : Int)) (.int .i64 (n : Int))).run Tryz.prog W = .ok (.slice (some ⟨W.heap.size, 0, none⟩) n n) (W.alloc (.cells (List.replicate n (Value.int .u8 0)).toArray 5)) := by
  have := run_make (P := Tryz.prog) W 22 5 i (.int .u8 0) Tryz.underlying22 hi hz .i64 .i64 n n (by omega) (by omega) (by rw [hb]; omega) (by omega)
  rw [this, hs]
  have e2 : madeCells (Value.int .u8 0).cells n = (List.replicate n (Value.int .u8 0)).toArray := by
    have := toList_madeCells_one (Value.int .u8 0) n
    rw [← Array.toList_inj]
    simpa [Value.cells] using this
  rw [Int.toNat_natCast, Nat.mul_one, e2]

theorem own_copy {B g n : Nat} {w : World} {ZS CS : List Value} (h : w.heap[g]? = some (.cells (splice ZS 0 CS).toArray 5 (0, 0))) (hB : B ≤ g) (hn : n ≤ 140737488351232) (hc : CS.length = n) (hz : ZS.length = n) : w.ownsRow B 5 1 (.slice (some ⟨g, 0, none⟩) n n) n CS := by
  refine ⟨by omega, .inr ⟨g, n, _, rfl, hB, h, by omega, by unfold maxLen; omega, ?_, ?_⟩⟩
  · simp [splice]; omega
  · simp [splice]
    rw [List.take_append_of_le_length (by omega), List.take_of_length_le (by omega)]

/-- The cells CS lie where an address leads. -/
def SrcAt (w : World) (sp : Option Addr) (CS : List Value) : Prop := ∃ ad, sp = some ad ∧ ∀ j u, CS[j]? = some u → w.cell? (ad.add j) = some u

theorem strOf_nil : strOfNums [] = ByteArray.empty := rfl

theorem conv_text {B : Nat} {w : World} {a : Option Addr} {len cap : Nat} {zs : List Int} (h : Text B w a len zs) : (convert 22 9 (.slice a len cap)).run Tryz.prog w = .ok (.string (strOfNums zs)) w := by
  obtain ⟨h1, _, h3⟩ := h
  rcases h3 with h3 | ⟨b, off, _, rfl, hc⟩
  · have hz : zs = [] := List.eq_nil_of_length_eq_zero (by omega)
    subst hz
    subst h3
    cases a with
    | none => exact run_convert_bytes_nil w 22 5 Tryz.underlying22 Tryz.underlying5 0 cap 9 Tryz.underlying9
    | some ad =>
      rw [run_convert_bytes_string w 22 9 5 _ 0 cap Tryz.underlying22 Tryz.underlying5 Tryz.underlying9, run_bytesToString w ad 0 cap [] (by simpa using run_loadCells_list (P := Tryz.prog) w ad [] (by simp))]
      rfl
  · exact run_convert_bytes_arg w 22 5 Tryz.underlying22 Tryz.underlying5 b off len cap zs h1 hc 9 Tryz.underlying9
end Go.Proofs.YtlakgbckopjelaaGreatDoor
