/- The finder in memory; a place's slot. -/
import Derived.Test.YtofcpnehnpopaaaMChain
namespace Go.Proofs.Ytofcpnehnpopaaa
set_option maxRecDepth 100000
open Go Go.RowKit

/-- Bytes where a slice leads. -/
structure Bys (w : World) (a : Option Addr) (zs : List Int) : Prop where
  at_ : zs.length = 0 ∨ ∃ b off, b < w.heap.size ∧ a = some ⟨b, off, none⟩ ∧ ∀ i, i < zs.length → w.cell? ⟨b, off + i, none⟩ = some (.int .u8 (ln zs i))
  rng : ∀ i, 0 ≤ ln zs i ∧ ln zs i ≤ 255
theorem Bys.kept {M : Nat → Prop} {w w' : World} {a : Option Addr} {zs : List Int} (h : Bys w a zs) (k : Kept M w w') (hn : 0 < zs.length → ∀ b off, a = some ⟨b, off, none⟩ → ¬ M b) : Bys w' a zs := by
  refine ⟨?_, h.rng⟩
  rcases h.at_ with h | ⟨b, off, h1, rfl, hc⟩
  · exact .inl h
  · exact .inr ⟨b, off, Nat.lt_of_lt_of_le h1 k.size, rfl, fun i hi => (k.cell (p := ⟨b, _, none⟩) h1 (hn (by omega) b off rfl)).trans (hc i hi)⟩
theorem Bys.stay {w w' : World} {a : Option Addr} {zs : List Int} (h : Bys w a zs) (k : Below w.heap.size w w') : Bys w' a zs := by
  refine ⟨?_, h.rng⟩
  rcases h.at_ with h | ⟨b, off, h1, rfl, hc⟩
  · exact .inl h
  · exact .inr ⟨b, off, Nat.lt_of_lt_of_le h1 k.size, rfl, fun i hi => (k.cell (p := ⟨b, off + i, none⟩) h1).trans (hc i hi)⟩
theorem Bys.drewN {w : World} {a : Option Addr} {zs : List Int} (h : Bys w a zs) (n : Nat) : Bys (w.drewN n) a zs := ⟨h.at_, h.rng⟩

/-- The finder lies at bf, what is ahead of each place at bb; both from B on, the data ahead of B. -/
structure FinAt (B : Nat) (w : World) (bf bb : Nat) (a : Option Addr) (cap : Nat) (zs : List Int) (tr n : Nat) (la be : Nat → Nat) : Prop where
  fb : ∃ cs, w.heap[bf]? = some (.cells cs 49 (0, 0)) ∧ cs[0]? = some (.slice a zs.length cap) ∧ cs[1]? = some (.int .i64 (tr : Int)) ∧ cs[2]? = some (.int .i64 (n : Int)) ∧ (∀ s, s < 16384 → cs[3 + s]? = some (.int .i32 (la s : Int))) ∧ cs[16387]? = some (.slice (some ⟨bb, 0, none⟩) (min zs.length 32768) (min zs.length 32768))
  bk : ∃ ds, w.heap[bb]? = some (.cells ds 21 (0, 0)) ∧ ∀ x, x < min zs.length 32768 → ds[x]? = some (.int .i32 (be x : Int))
  tx : Bys w a zs
  hB : 0 < zs.length → ∀ b off, a = some ⟨b, off, none⟩ → b < B
  inb : B ≤ bf ∧ B ≤ bb
  cp : zs.length ≤ cap
section
variable {B : Nat} {w w' : World} {bf bb : Nat} {a : Option Addr} {cap : Nat} {zs : List Int} {tr n : Nat} {la be : Nat → Nat}
theorem FinAt.c0 (h : FinAt B w bf bb a cap zs tr n la be) : w.cell? ⟨bf, 0, none⟩ = some (.slice a zs.length cap) := by
  obtain ⟨cs, hb, h0, _⟩ := h.fb
  rw [cells_of hb]; exact h0
theorem FinAt.c1 (h : FinAt B w bf bb a cap zs tr n la be) : w.cell? ⟨bf, 1, none⟩ = some (.int .i64 (tr : Int)) := by
  obtain ⟨cs, hb, _, h0, _⟩ := h.fb
  rw [cells_of hb]; exact h0
theorem FinAt.c2 (h : FinAt B w bf bb a cap zs tr n la be) : w.cell? ⟨bf, 2, none⟩ = some (.int .i64 (n : Int)) := by
  obtain ⟨cs, hb, _, _, h0, _⟩ := h.fb
  rw [cells_of hb]; exact h0
theorem FinAt.c3 (h : FinAt B w bf bb a cap zs tr n la be) {s : Nat} (hs : s < 16384) : w.cell? ⟨bf, 3 + s, none⟩ = some (.int .i32 (la s : Int)) := by
  obtain ⟨cs, hb, _, _, _, h0, _⟩ := h.fb
  rw [cells_of hb]; exact h0 s hs
theorem FinAt.c4 (h : FinAt B w bf bb a cap zs tr n la be) : w.cell? ⟨bf, 16387, none⟩ = some (.slice (some ⟨bb, 0, none⟩) (min zs.length 32768) (min zs.length 32768)) := by
  obtain ⟨cs, hb, _, _, _, _, h0⟩ := h.fb
  rw [cells_of hb]; exact h0
theorem FinAt.ffree (h : FinAt B w bf bb a cap zs tr n la be) (i : Nat) : w.frozen? ⟨bf, i, none⟩ = false := by
  obtain ⟨cs, hb, _⟩ := h.fb
  exact free_of hb i
theorem FinAt.b0 (h : FinAt B w bf bb a cap zs tr n la be) {x : Nat} (hx : x < min zs.length 32768) : w.cell? ⟨bb, x, none⟩ = some (.int .i32 (be x : Int)) := by
  obtain ⟨ds, hb, h0⟩ := h.bk
  rw [cells_of hb]; exact h0 x hx
theorem FinAt.bfree (h : FinAt B w bf bb a cap zs tr n la be) (i : Nat) : w.frozen? ⟨bb, i, none⟩ = false := by
  obtain ⟨cs, hb, _⟩ := h.bk
  exact free_of hb i
theorem FinAt.ne (h : FinAt B w bf bb a cap zs tr n la be) : bf ≠ bb := fun e => by
  obtain ⟨cs, hb, _⟩ := h.fb
  obtain ⟨ds, hd, _⟩ := h.bk
  rw [e, hd] at hb
  simp at hb
theorem FinAt.flt (h : FinAt B w bf bb a cap zs tr n la be) : bf < w.heap.size := by
  obtain ⟨cs, hb, _⟩ := h.fb
  exact lt_of_block hb
theorem FinAt.blt (h : FinAt B w bf bb a cap zs tr n la be) : bb < w.heap.size := by
  obtain ⟨cs, hb, _⟩ := h.bk
  exact lt_of_block hb
theorem FinAt.kept {M : Nat → Prop} (h : FinAt B w bf bb a cap zs tr n la be) (k : Kept M w w') (h1 : ¬ M bf) (h2 : ¬ M bb) (h3 : ∀ b, b < B → ¬ M b) : FinAt B w' bf bb a cap zs tr n la be := by
  obtain ⟨cs, hb, hr⟩ := h.fb
  obtain ⟨ds, hd, hs⟩ := h.bk
  exact ⟨⟨cs, k.heap hb h1, hr⟩, ⟨ds, k.heap hd h2, hs⟩, h.tx.kept k (fun h0 b off e => h3 b (h.hB h0 b off e)), h.hB, h.inb, h.cp⟩
theorem FinAt.stay (h : FinAt B w bf bb a cap zs tr n la be) (k : Below w.heap.size w w') : FinAt B w' bf bb a cap zs tr n la be :=
  h.kept (Kept.of_below k) (by have := h.flt; omega) (by have := h.blt; omega) (fun b hb => by have := h.inb; have := h.flt; omega)
theorem FinAt.drewN (h : FinAt B w bf bb a cap zs tr n la be) (q : Nat) : FinAt B (w.drewN q) bf bb a cap zs tr n la be := ⟨h.fb, h.bk, ⟨h.tx.at_, h.tx.rng⟩, h.hB, h.inb, h.cp⟩
theorem FinAt.drew (h : FinAt B w bf bb a cap zs tr n la be) : FinAt B w.drew bf bb a cap zs tr n la be := ⟨h.fb, h.bk, ⟨h.tx.at_, h.tx.rng⟩, h.hB, h.inb, h.cp⟩
theorem FinAt.text (h : FinAt B w bf bb a cap zs tr n la be) (h0 : 0 < zs.length) : ∃ b off, a = some ⟨b, off, none⟩ ∧ b < w.heap.size ∧ ∀ i, i < zs.length → w.cell? ⟨b, off + i, none⟩ = some (.int .u8 (ln zs i)) := by
  rcases h.tx.at_ with h' | ⟨b, off, h1, h2, h3⟩
  · omega
  · exact ⟨b, off, h2, h1, h3⟩

set_option maxHeartbeats 1000000 in
theorem slot_c (h : FinAt B w bf bb a cap zs tr n la be) (p : Nat) (hp : p + 3 ≤ zs.length) (hl : zs.length ≤ 1000000000) (hcap : cap ≤ 9223372036854775807) :
    Calls Try.prog 29 #[.pointer (some ⟨bf, 0, none⟩), .int .i64 (p : Int)] w fun e w' => e = .returned (.int .i64 (sl zs p : Int)) ∧ ∃ q, w' = w.drewN q := by
  obtain ⟨b, off, rfl, hbl, hc⟩ := h.text (by omega)
  have c0 := h.c0
  have d0 := hc p (by omega)
  have d1 := hc (p + 1) (by omega)
  have d2 := hc (p + 2) (by omega)
  rw [show off + (p + 1) = off + p + 1 by omega] at d1
  rw [show off + (p + 2) = off + p + 2 by omega] at d2
  have hcp := h.cp
  obtain ⟨⟨x0, x1⟩, ⟨y0, y1⟩, ⟨z0, z1⟩⟩ := And.intro (h.tx.rng p) (And.intro (h.tx.rng (p + 1)) (h.tx.rng (p + 2)))
  have HSL : Hid (sl zs p = sH (ln zs p) (ln zs (p + 1)) (ln zs (p + 2))) := rfl
  clear hc h
  generalize ln zs p = x at *
  generalize ln zs (p + 1) = y at *
  generalize ln zs (p + 2) = z at *
  generalize sl zs p = s at *
  have k1 : (p : Int) + 3 ≤ (cap : Int) := by omega
  go_enter Try.func29, Try.ntmps29
  go_upto_region 2 with fail
  have e3 : p + 3 - p = 3 := by omega
  rw [e3]
  clear e3
  go_quiet (fail)
  go_wp2_with fail
  rw [sH_eq, ← HSL.out]
  go_ret
  exact ⟨rfl, nq, rfl⟩
end
end Go.Proofs.Ytofcpnehnpopaaa
