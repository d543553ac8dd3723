/- Several texts, laid together: PSpec, PState, PRead, PRun. -/
import Derived.Test.YtlakgbckopjelabDoorG10ILens
import Derived.Test.YtlakgbckopjelabDoorG07HAlive
import Derived.Test.YtlakgbckopjelabDoorG04HMath
import Derived.Handy
/- A run's length and distance, as plain functions; how one symbol of the data goes on. No Go text in sight. -/
namespace Go.Proofs.YtlakgbckopjelabDoor
set_option maxRecDepth 100000

/-- A run's length; its distance; the run. -/
def iLong (b : Nat → Nat) (T q v : Nat) : Except Int (Nat × Nat) := if 285 < v then .error 63 else iThen (iTk b T q (iLx v)) fun q x => .ok (q, iLb v + x)
noncomputable def iBack (D : List Int) (b : Nat → Nat) (T q : Nat) : Except Int (Nat × Nat) := iThen (iNx D b T q) fun q w => if 29 < w then .error 63 else iThen (iTk b T q (iDx w)) fun q x => .ok (q, iDb w + x)
noncomputable def iRun (D : List Int) (b : Nat → Nat) (T most q v : Nat) (out : List Int) : Except Int (Nat × List Int) :=
  iThen (iLong b T q v) fun q n => iThen (iBack D b T q) fun q d => if out.length < d then .error 64 else if most < out.length + n then .error 65 else .ok (q, iCpy out d n)
def iOn (r : Except Int (Nat × List Int)) : Except Int (Nat × (Bool × List Int)) := iThen r fun q o => .ok (q, (true, o))
theorem iOne_byte {S D : List Int} {b : Nat → Nat} {T most p q v : Nat} {out : List Int} (h : iNx S b T p = .ok (q, v)) (hv : v < 256) (ho : out.length < most) : iOne S D b T most p out = .ok (q, (true, out ++ [(v : Int)])) := by
  unfold iOne; rw [iThen_of_ok h, if_pos hv, if_neg (by omega)]
theorem iOne_end {S D : List Int} {b : Nat → Nat} {T most p q : Nat} {out : List Int} (h : iNx S b T p = .ok (q, 256)) : iOne S D b T most p out = .ok (q, (false, out)) := by
  unfold iOne; rw [iThen_of_ok h, if_neg (by decide), if_pos rfl]
theorem iCpy_succ (out : List Int) (d n : Nat) : iCpy out d (n + 1) = iCpy out d n ++ [ln (iCpy out d n) (out.length + n - d)] := by
  induction n generalizing out with
  | zero => rfl
  | succ n ih =>
    rw [iCpy, ih, iCpy]
    congr 3
    simp; omega
end Go.Proofs.YtlakgbckopjelabDoor

/- The program's stream as it lies in memory, and what its methods answer. -/
namespace Go.Proofs.YtlakgbckopjelabDoor
set_option maxRecDepth 100000
open Go Go.RowKit

theorem hide {p : Prop} (h : p) : Hid p := h
/-- A stream's cells; a reader's. -/
def fA (br : Nat) (o : Option Addr) (ol oc : Nat) (m : Int) (fc : Value) : Array Value := #[.pointer (some ⟨br, 0, none⟩), .slice o ol oc, .int .i64 m, fc]
def rA (a : Option Addr) (len cap p : Nat) : Array Value := #[.slice a len cap, .int .i64 (p : Int)]
variable {B bs br : Nat} {a : Option Addr} {len cap : Nat} {zs : List Int} {m : Nat} {w w' : World} {p : Nat} {o : Option Addr} {oc : Nat} {fc : Value} {out : List Int}
/-- What a call may write that hands the stream on: the stream, its reader, and the row of what was told. -/
def Mv (bs br : Nat) (ov : Value) (b : Nat) : Prop := b = bs ∨ b = br ∨ ov.ownBlock = some b
theorem Mv.below {bs br : Nat} {ov : Value} {w w' : World} (k : Below w.heap.size w w') : Kept (Mv bs br ov) w w' := (Kept.of_below k).mono fun i hi e => by omega

def NBad (br : Nat) (w : World) (e : Int) (x : Ending) (w' : World) : Prop := x = .returned (.tuple #[.int .i64 0, .int .i64 e]) ∧ Kept (fun b => b = br) w w' ∧ 60 ≤ e ∧ e ≤ 65
def DBad (bs br : Nat) (w : World) (ov : Value) (e : Int) (x : Ending) (w' : World) : Prop := x = .returned (.int .i64 e) ∧ Kept (Mv bs br ov) w w' ∧ 60 ≤ e ∧ e ≤ 65

variable {B bs br : Nat} {a : Option Addr} {len cap : Nat} {zs : List Int} {m : Nat} {fc ov : Value} {w wx wy : World} {p : Nat} {o : Option Addr} {oc : Nat} {out : List Int}

/-- The stream's blocks are none of those from lo up to hi. -/
def Aw (lo hi bs br : Nat) (ov : Value) : Prop := ∀ b, lo ≤ b → b < hi → ¬ Mv bs br ov b
end Go.Proofs.YtlakgbckopjelabDoor

/- The stream's number, symbol, room, times, long and back: contracts. -/
namespace Go.Proofs.YtlakgbckopjelabDoor
set_option maxRecDepth 100000
open Go Go.RowKit

section
variable {B bs br : Nat} {a : Option Addr} {len cap : Nat} {zs : List Int} {m : Nat} {w : World} {p : Nat} {o : Option Addr} {oc : Nat} {fc : Value} {out : List Int}
end
end Go.Proofs.YtlakgbckopjelabDoor

/- The stream's times, long and back: contracts. -/
namespace Go.Proofs.YtlakgbckopjelabDoor
set_option maxRecDepth 100000
open Go Go.RowKit

section
variable {B bs br : Nat} {a : Option Addr} {len cap : Nat} {zs : List Int} {m : Nat} {w : World} {p : Nat} {o : Option Addr} {oc : Nat} {fc : Value} {out : List Int}

def longRow (v : Int) (n k : Nat) : Prop := (v = 265 ∧ n = 1 ∧ k = 11) ∨ (v = 266 ∧ n = 1 ∧ k = 13) ∨ (v = 267 ∧ n = 1 ∧ k = 15) ∨ (v = 268 ∧ n = 1 ∧ k = 17) ∨ (v = 269 ∧ n = 2 ∧ k = 19) ∨ (v = 270 ∧ n = 2 ∧ k = 23) ∨ (v = 271 ∧ n = 2 ∧ k = 27) ∨ (v = 272 ∧ n = 2 ∧ k = 31) ∨ (v = 273 ∧ n = 3 ∧ k = 35) ∨ (v = 274 ∧ n = 3 ∧ k = 43) ∨ (v = 275 ∧ n = 3 ∧ k = 51) ∨ (v = 276 ∧ n = 3 ∧ k = 59) ∨ (v = 277 ∧ n = 4 ∧ k = 67) ∨ (v = 278 ∧ n = 4 ∧ k = 83) ∨ (v = 279 ∧ n = 4 ∧ k = 99) ∨ (v = 280 ∧ n = 4 ∧ k = 115) ∨ (v = 281 ∧ n = 5 ∧ k = 131) ∨ (v = 282 ∧ n = 5 ∧ k = 163) ∨ (v = 283 ∧ n = 5 ∧ k = 195) ∨ (v = 284 ∧ n = 5 ∧ k = 227)
def backRow (v : Int) (n k : Nat) : Prop := (v = 4 ∧ n = 1 ∧ k = 5) ∨ (v = 5 ∧ n = 1 ∧ k = 7) ∨ (v = 6 ∧ n = 2 ∧ k = 9) ∨ (v = 7 ∧ n = 2 ∧ k = 13) ∨ (v = 8 ∧ n = 3 ∧ k = 17) ∨ (v = 9 ∧ n = 3 ∧ k = 25) ∨ (v = 10 ∧ n = 4 ∧ k = 33) ∨ (v = 11 ∧ n = 4 ∧ k = 49) ∨ (v = 12 ∧ n = 5 ∧ k = 65) ∨ (v = 13 ∧ n = 5 ∧ k = 97) ∨ (v = 14 ∧ n = 6 ∧ k = 129) ∨ (v = 15 ∧ n = 6 ∧ k = 193) ∨ (v = 16 ∧ n = 7 ∧ k = 257) ∨ (v = 17 ∧ n = 7 ∧ k = 385) ∨ (v = 18 ∧ n = 8 ∧ k = 513) ∨ (v = 19 ∧ n = 8 ∧ k = 769) ∨ (v = 20 ∧ n = 9 ∧ k = 1025) ∨ (v = 21 ∧ n = 9 ∧ k = 1537) ∨ (v = 22 ∧ n = 10 ∧ k = 2049) ∨ (v = 23 ∧ n = 10 ∧ k = 3073) ∨ (v = 24 ∧ n = 11 ∧ k = 4097) ∨ (v = 25 ∧ n = 11 ∧ k = 6145) ∨ (v = 26 ∧ n = 12 ∧ k = 8193) ∨ (v = 27 ∧ n = 12 ∧ k = 12289) ∨ (v = 28 ∧ n = 13 ∧ k = 16385) ∨ (v = 29 ∧ n = 13 ∧ k = 24577)
end
end Go.Proofs.YtlakgbckopjelabDoor
