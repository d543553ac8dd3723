/- Several texts, laid together: HRef3, ReadBits, HNext, HAlive. -/
import Derived.Test.YtlakgbckopjelabDoorG06HRef2
import Derived.Test.YtlakgbckopjelabDoorG04HMath
import Derived.Test.YtlakgbckopjelabDoorG00Read
/- The reference's Match: contract. -/
namespace Go.Proofs.YtlakgbckopjelabDoor
set_option maxRecDepth 100000
open Go Go.RowKit

/-- Do the bits of L from p on agree with R, as far as they go? And are they all there? -/
def agB (L : List Int) (p : Nat) (R : List Int) : Bool := decide (∀ k, k < R.length → p + k < L.length → ln L (p + k) = ln R k)
def alB (L : List Int) (p : Nat) (R : List Int) : Bool := agB L p R && decide (p + R.length ≤ L.length)
/-- The bits of L from p on. -/
def bn (L : List Int) (p i : Nat) : Nat := (ln L (p + i)).toNat
/-- What the next bits are: a symbol's code, or none, and why. -/
def NextIs (ls : List Int) (b : Nat → Nat) (av N s n : Nat) (err : Int) : Prop :=
  (err = 0 ∧ n ≤ av ∧ s < ls.length ∧ 1 ≤ n ∧ ln ls s = (n : Int) ∧ cd ls s = vl b n) ∨ (s = 0 ∧ n = 0 ∧ (∀ m, m ≤ av → ¬ Hit ls b m) ∧ ((av < N ∧ err = 42) ∨ (N ≤ av ∧ err = 43)))

theorem NextIs.one {ls : List Int} {b : Nat → Nat} (hb : ∀ i, b i ≤ 1) {av N s n t m : Nat} {e f : Int} (h : NextIs ls b av N s n e) (k : NextIs ls b av N t m f) : s = t ∧ n = m ∧ e = f := by
  rcases h with ⟨h1, h2, h3, h4, h5, h6⟩ | ⟨h1, h2, h3, h4⟩ <;> rcases k with ⟨k1, k2, k3, k4, k5, k6⟩ | ⟨k1, k2, k3, k4⟩
  · have e1 : s = t := sym_one hb h3 k3 (by omega) (by omega) (by rw [h5, Int.toNat_natCast]; exact h6) (by rw [k5, Int.toNat_natCast]; exact k6)
    subst e1
    exact ⟨rfl, by omega, by omega⟩
  · exfalso
    have := sym_hit h3 (b := b) (by omega) (by rw [h5, Int.toNat_natCast]; exact h6)
    rw [h5, Int.toNat_natCast] at this
    exact k3 n h2 this
  · exfalso
    have := sym_hit k3 (b := b) (by omega) (by rw [k5, Int.toNat_natCast]; exact k6)
    rw [k5, Int.toNat_natCast] at this
    exact h3 m k2 this
  · omega

end Go.Proofs.YtlakgbckopjelabDoor

/- The reader's Bits: where so many bits are left, it tells them as a number and stands behind them. -/
namespace Go.Proofs.YtlakgbckopjelabDoor
set_option maxRecDepth 100000
open Go.RowKit

end Go.Proofs.YtlakgbckopjelabDoor

/- huff's Next: contract. -/
namespace Go.Proofs.YtlakgbckopjelabDoor
set_option maxRecDepth 100000
open Go Go.RowKit

/-- The bits of bytes from p on. -/
def bz (zs : List Int) (p i : Nat) : Nat := (bitAt zs (p + i)).toNat
end Go.Proofs.YtlakgbckopjelabDoor

/- The laws' probe, 'alive': it answers true, and writes nothing that was there. -/
namespace Go.Proofs.YtlakgbckopjelabDoor
set_option maxRecDepth 100000
open Go Go.RowKit

def ls4 : List Int := [2, 1, 3, 3]
end Go.Proofs.YtlakgbckopjelabDoor
