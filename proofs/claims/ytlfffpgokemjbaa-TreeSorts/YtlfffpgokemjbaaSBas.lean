/- What a stable sort over two given functions asks of them; two ranges swapped, a row turned. -/
import Derived.Test.YtlfffpgokemjbaaOSort
import Derived.Test.YtlfffpgokemjbaaUWq
namespace Go.Proofs.Ytlfffpgokemjbaa.O
set_option maxRecDepth 100000
open Go Go.RowKit
open Go.Proofs.Ytlfffpgokemjbaa.U (hide)
set_option linter.unusedVariables false
/-- 'less' (function g, bound to lb) and 'swap' (function sf, bound to sb) over a row of n in block blk: R d w: in w the row is d; k is the key. -/
structure LS (g : Nat) (lb : Array Value) (sf : Nat) (sb : Array Value) (blk n : Nat) (k : Int → Int) (R : List Int → World → Prop) : Prop where
  eg : ∀ args w, (callFunc g args).run Try.prog w = .ok (.enter g args) w
  drew : ∀ {d w} q, R d w → R d (w.drewN q)
  alloc : ∀ {d w} o, R d w → R d (w.alloc o)
  len : ∀ {d w}, R d w → d.length = n
  lt : ∀ {d w}, R d w → blk < w.heap.size
  less : ∀ {d w} (i j : Nat), R d w → i < n → j < n → Calls Try.prog g (#[.int .i64 i, .int .i64 j] ++ lb) w fun e w' => e = .returned (.bool (decide (k (ln d i) < k (ln d j)))) ∧ ∃ q, w' = w.drewN q
  swap : ∀ {d w} (i j : Nat), R d w → i < n → j < n → i ≠ j → ∃ w', (callFunc sf (#[.int .i64 i, .int .i64 j] ++ sb)).run Try.prog w = .ok (.value (.tuple #[])) w' ∧ R (swp d i j) w' ∧ Kept (fun i => i = blk) w w'
/-- The two given functions, as they lie in a block of their own. -/
def Box (b g : Nat) (lb : Array Value) (sf : Nat) (sb : Array Value) (w : World) : Prop := w.cell? ⟨b, 0, none⟩ = some (.func (.func g) #[] lb) ∧ w.cell? ⟨b, 1, none⟩ = some (.func (.func sf) #[] sb)
theorem Box.kept {b g : Nat} {lb : Array Value} {sf : Nat} {sb : Array Value} {w w' : World} {blk : Nat} (h : Box b g lb sf sb w) (k : Kept (fun i => i = blk) w w') (hn : b ≠ blk) : Box b g lb sf sb w' :=
  ⟨(k.cell (lt_of_cell h.1) hn).trans h.1, (k.cell (lt_of_cell h.2) hn).trans h.2⟩
theorem Box.new (g : Nat) (lb : Array Value) (sf : Nat) (sb : Array Value) (w : World) (t : TypeId) : Box w.heap.size g lb sf sb (w.alloc (.cells #[.func (.func g) #[] lb, .func (.func sf) #[] sb] t)) :=
  ⟨by rw [cells_of (heap_new w _)]; rfl, by rw [cells_of (heap_new w _)]; rfl⟩
theorem Box.drewN {b g : Nat} {lb : Array Value} {sf : Nat} {sb : Array Value} {w : World} (h : Box b g lb sf sb w) (q : Nat) : Box b g lb sf sb (w.drewN q) := h
variable {g : Nat} {lb : Array Value} {sf : Nat} {sb : Array Value} {blk n : Nat} {k : Int → Int} {R : List Int → World → Prop}
/-- From the world w a call has made e of d, and is on its way in its own block b. -/
def Gone (g : Nat) (lb : Array Value) (sf : Nat) (sb : Array Value) (blk : Nat) (R : List Int → World → Prop) (b : Nat) (w : World) (e : List Int) (w' : World) : Prop := R e w' ∧ Kept (fun i => i = blk) w w' ∧ Box b g lb sf sb w'
theorem Gone.start (L : LS g lb sf sb blk n k R) {d : List Int} {w : World} (h : R d w) (t : TypeId) : Gone g lb sf sb blk R w.heap.size w d (w.alloc (.cells #[.func (.func g) #[] lb, .func (.func sf) #[] sb] t)) :=
  ⟨L.alloc _ h, (Kept.refl _ w).alloc _ _, Box.new _ _ _ _ _ _⟩
theorem Gone.more {b : Nat} {w w1 w2 : World} {e f : List Int} (h : Gone g lb sf sb blk R b w e w1) (hb : b ≠ blk) (hR : R f w2) (hk : Kept (fun i => i = blk) w1 w2) : Gone g lb sf sb blk R b w f w2 :=
  ⟨hR, h.2.1.trans hk (fun _ _ h => h), h.2.2.kept hk hb⟩
theorem Gone.drewN (L : LS g lb sf sb blk n k R) {b : Nat} {w w1 : World} {e : List Int} (h : Gone g lb sf sb blk R b w e w1) (q : Nat) : Gone g lb sf sb blk R b w e (w1.drewN q) :=
  ⟨L.drew q h.1, h.2.1.drewN q, h.2.2⟩
end Go.Proofs.Ytlfffpgokemjbaa.O
