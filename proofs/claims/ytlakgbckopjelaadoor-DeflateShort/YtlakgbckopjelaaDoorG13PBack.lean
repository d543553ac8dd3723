/- Several texts, laid together: PRead, PRun, PBack. -/
import Derived.Test.YtlakgbckopjelaaDoorG12PState
/- The stream's number, symbol, room, times, long and back: contracts. -/
namespace Go.Proofs.YtlakgbckopjelaaDoor
set_option maxRecDepth 100000
open Go Go.RowKit

section
variable {B bs br : Nat} {a : Option Addr} {len cap : Nat} {zs : List Int} {m : Nat} {w : World} {p : Nat} {o : Option Addr} {oc : Nat} {fc : Value} {out : List Int}
end
end Go.Proofs.YtlakgbckopjelaaDoor

/- The stream's times, long and back: contracts. -/
namespace Go.Proofs.YtlakgbckopjelaaDoor
set_option maxRecDepth 100000
open Go Go.RowKit

section
variable {B bs br : Nat} {a : Option Addr} {len cap : Nat} {zs : List Int} {m : Nat} {w : World} {p : Nat} {o : Option Addr} {oc : Nat} {fc : Value} {out : List Int}

def longRow (v : Int) (n k : Nat) : Prop := (v = 265 ∧ n = 1 ∧ k = 11) ∨ (v = 266 ∧ n = 1 ∧ k = 13) ∨ (v = 267 ∧ n = 1 ∧ k = 15) ∨ (v = 268 ∧ n = 1 ∧ k = 17) ∨ (v = 269 ∧ n = 2 ∧ k = 19) ∨ (v = 270 ∧ n = 2 ∧ k = 23) ∨ (v = 271 ∧ n = 2 ∧ k = 27) ∨ (v = 272 ∧ n = 2 ∧ k = 31) ∨ (v = 273 ∧ n = 3 ∧ k = 35) ∨ (v = 274 ∧ n = 3 ∧ k = 43) ∨ (v = 275 ∧ n = 3 ∧ k = 51) ∨ (v = 276 ∧ n = 3 ∧ k = 59) ∨ (v = 277 ∧ n = 4 ∧ k = 67) ∨ (v = 278 ∧ n = 4 ∧ k = 83) ∨ (v = 279 ∧ n = 4 ∧ k = 99) ∨ (v = 280 ∧ n = 4 ∧ k = 115) ∨ (v = 281 ∧ n = 5 ∧ k = 131) ∨ (v = 282 ∧ n = 5 ∧ k = 163) ∨ (v = 283 ∧ n = 5 ∧ k = 195) ∨ (v = 284 ∧ n = 5 ∧ k = 227)
def backRow (v : Int) (n k : Nat) : Prop := (v = 4 ∧ n = 1 ∧ k = 5) ∨ (v = 5 ∧ n = 1 ∧ k = 7) ∨ (v = 6 ∧ n = 2 ∧ k = 9) ∨ (v = 7 ∧ n = 2 ∧ k = 13) ∨ (v = 8 ∧ n = 3 ∧ k = 17) ∨ (v = 9 ∧ n = 3 ∧ k = 25) ∨ (v = 10 ∧ n = 4 ∧ k = 33) ∨ (v = 11 ∧ n = 4 ∧ k = 49) ∨ (v = 12 ∧ n = 5 ∧ k = 65) ∨ (v = 13 ∧ n = 5 ∧ k = 97) ∨ (v = 14 ∧ n = 6 ∧ k = 129) ∨ (v = 15 ∧ n = 6 ∧ k = 193) ∨ (v = 16 ∧ n = 7 ∧ k = 257) ∨ (v = 17 ∧ n = 7 ∧ k = 385) ∨ (v = 18 ∧ n = 8 ∧ k = 513) ∨ (v = 19 ∧ n = 8 ∧ k = 769) ∨ (v = 20 ∧ n = 9 ∧ k = 1025) ∨ (v = 21 ∧ n = 9 ∧ k = 1537) ∨ (v = 22 ∧ n = 10 ∧ k = 2049) ∨ (v = 23 ∧ n = 10 ∧ k = 3073) ∨ (v = 24 ∧ n = 11 ∧ k = 4097) ∨ (v = 25 ∧ n = 11 ∧ k = 6145) ∨ (v = 26 ∧ n = 12 ∧ k = 8193) ∨ (v = 27 ∧ n = 12 ∧ k = 12289) ∨ (v = 28 ∧ n = 13 ∧ k = 16385) ∨ (v = 29 ∧ n = 13 ∧ k = 24577)
end
end Go.Proofs.YtlakgbckopjelaaDoor

/- The stream's back: contract. -/
namespace Go.Proofs.YtlakgbckopjelaaDoor
set_option maxRecDepth 100000
open Go Go.RowKit

section
variable {B bs br : Nat} {a : Option Addr} {len cap : Nat} {zs : List Int} {m : Nat} {w : World} {p : Nat} {o : Option Addr} {oc : Nat} {fc : Value} {out : List Int}
end
end Go.Proofs.YtlakgbckopjelaaDoor
