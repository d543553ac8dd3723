/- Several texts, laid together: MSlot, MNote, MRun. -/
import Derived.Test.YtgjafmppkfgkfaaGreatDoorpMg00MChain
/- The finder in memory; a place's slot. -/
namespace Go.Proofs.YtgjafmppkfgkfaaGreatDoor.M
set_option maxRecDepth 100000
open Go Go.RowKit

/-- Bytes where a slice leads. -/
structure Bys (w : World) (a : Option Addr) (zs : List Int) : Prop where
  at_ : zs.length = 0 ∨ ∃ b off, b < w.heap.size ∧ a = some ⟨b, off, none⟩ ∧ ∀ i, i < zs.length → w.cell? ⟨b, off + i, none⟩ = some (.int .u8 (ln zs i))
  rng : ∀ i, 0 ≤ ln zs i ∧ ln zs i ≤ 255
theorem Bys.kept {M : Nat → Prop} {w w' : World} {a : Option Addr} {zs : List Int} (h : Bys w a zs) (k : Kept M w w') (hn : 0 < zs.length → ∀ b off, a = some ⟨b, off, none⟩ → ¬ M b) : Bys w' a zs := by
  refine ⟨?_, h.rng⟩
  rcases h.at_ with h | ⟨b, off, h1, rfl, hc⟩
  · exact .inl h
  · exact .inr ⟨b, off, Nat.lt_of_lt_of_le h1 k.size, rfl, fun i hi => (k.cell (p := ⟨b, _, none⟩) h1 (hn (by omega) b off rfl)).trans (hc i hi)⟩
theorem Bys.stay {w w' : World} {a : Option Addr} {zs : List Int} (h : Bys w a zs) (k : Below w.heap.size w w') : Bys w' a zs := by
  refine ⟨?_, h.rng⟩
  rcases h.at_ with h | ⟨b, off, h1, rfl, hc⟩
  · exact .inl h
  · exact .inr ⟨b, off, Nat.lt_of_lt_of_le h1 k.size, rfl, fun i hi => (k.cell (p := ⟨b, off + i, none⟩) h1).trans (hc i hi)⟩
theorem Bys.drewN {w : World} {a : Option Addr} {zs : List Int} (h : Bys w a zs) (n : Nat) : Bys (w.drewN n) a zs := ⟨h.at_, h.rng⟩

/-- The finder lies at bf, what is ahead of each place at bb; both from B on, the data ahead of B. -/
structure FinAt (B : Nat) (w : World) (bf bb : Nat) (a : Option Addr) (cap : Nat) (zs : List Int) (tr n : Nat) (la be : Nat → Nat) : Prop where
  fb : ∃ cs, w.heap[bf]? = some (.cells cs 188 (0, 0)) ∧ cs[0]? = some (.slice a zs.length cap) ∧ cs[1]? = some (.int .i64 (tr : Int)) ∧ cs[2]? = some (.int .i64 (n : Int)) ∧ (∀ s, s < 16384 → cs[3 + s]? = some (.int .i32 (la s : Int))) ∧ cs[16387]? = some (.slice (some ⟨bb, 0, none⟩) (min zs.length 32768) (min zs.length 32768))
  bk : ∃ ds, w.heap[bb]? = some (.cells ds 21 (0, 0)) ∧ ∀ x, x < min zs.length 32768 → ds[x]? = some (.int .i32 (be x : Int))
  tx : Bys w a zs
  hB : 0 < zs.length → ∀ b off, a = some ⟨b, off, none⟩ → b < B
  inb : B ≤ bf ∧ B ≤ bb
  cp : zs.length ≤ cap
section
variable {B : Nat} {w w' : World} {bf bb : Nat} {a : Option Addr} {cap : Nat} {zs : List Int} {tr n : Nat} {la be : Nat → Nat}
theorem FinAt.c0 (h : FinAt B w bf bb a cap zs tr n la be) : w.cell? ⟨bf, 0, none⟩ = some (.slice a zs.length cap) := by
  obtain ⟨cs, hb, h0, _⟩ := h.fb
  rw [cells_of hb]; exact h0
theorem FinAt.c1 (h : FinAt B w bf bb a cap zs tr n la be) : w.cell? ⟨bf, 1, none⟩ = some (.int .i64 (tr : Int)) := by
  obtain ⟨cs, hb, _, h0, _⟩ := h.fb
  rw [cells_of hb]; exact h0
theorem FinAt.c2 (h : FinAt B w bf bb a cap zs tr n la be) : w.cell? ⟨bf, 2, none⟩ = some (.int .i64 (n : Int)) := by
  obtain ⟨cs, hb, _, _, h0, _⟩ := h.fb
  rw [cells_of hb]; exact h0
theorem FinAt.c3 (h : FinAt B w bf bb a cap zs tr n la be) {s : Nat} (hs : s < 16384) : w.cell? ⟨bf, 3 + s, none⟩ = some (.int .i32 (la s : Int)) := by
  obtain ⟨cs, hb, _, _, _, h0, _⟩ := h.fb
  rw [cells_of hb]; exact h0 s hs
theorem FinAt.c4 (h : FinAt B w bf bb a cap zs tr n la be) : w.cell? ⟨bf, 16387, none⟩ = some (.slice (some ⟨bb, 0, none⟩) (min zs.length 32768) (min zs.length 32768)) := by
  obtain ⟨cs, hb, _, _, _, _, h0⟩ := h.fb
  rw [cells_of hb]; exact h0
theorem FinAt.ffree (h : FinAt B w bf bb a cap zs tr n la be) (i : Nat) : w.frozen? ⟨bf, i, none⟩ = false := by
  obtain ⟨cs, hb, _⟩ := h.fb
  exact free_of hb i
theorem FinAt.b0 (h : FinAt B w bf bb a cap zs tr n la be) {x : Nat} (hx : x < min zs.length 32768) : w.cell? ⟨bb, x, none⟩ = some (.int .i32 (be x : Int)) := by
  obtain ⟨ds, hb, h0⟩ := h.bk
  rw [cells_of hb]; exact h0 x hx
theorem FinAt.bfree (h : FinAt B w bf bb a cap zs tr n la be) (i : Nat) : w.frozen? ⟨bb, i, none⟩ = false := by
  obtain ⟨cs, hb, _⟩ := h.bk
  exact free_of hb i
theorem FinAt.ne (h : FinAt B w bf bb a cap zs tr n la be) : bf ≠ bb := fun e => by
  obtain ⟨cs, hb, _⟩ := h.fb
  obtain ⟨ds, hd, _⟩ := h.bk
  rw [e, hd] at hb
  simp at hb
theorem FinAt.flt (h : FinAt B w bf bb a cap zs tr n la be) : bf < w.heap.size := by
  obtain ⟨cs, hb, _⟩ := h.fb
  exact lt_of_block hb
theorem FinAt.blt (h : FinAt B w bf bb a cap zs tr n la be) : bb < w.heap.size := by
  obtain ⟨cs, hb, _⟩ := h.bk
  exact lt_of_block hb
theorem FinAt.kept {M : Nat → Prop} (h : FinAt B w bf bb a cap zs tr n la be) (k : Kept M w w') (h1 : ¬ M bf) (h2 : ¬ M bb) (h3 : ∀ b, b < B → ¬ M b) : FinAt B w' bf bb a cap zs tr n la be := by
  obtain ⟨cs, hb, hr⟩ := h.fb
  obtain ⟨ds, hd, hs⟩ := h.bk
  exact ⟨⟨cs, k.heap hb h1, hr⟩, ⟨ds, k.heap hd h2, hs⟩, h.tx.kept k (fun h0 b off e => h3 b (h.hB h0 b off e)), h.hB, h.inb, h.cp⟩
theorem FinAt.stay (h : FinAt B w bf bb a cap zs tr n la be) (k : Below w.heap.size w w') : FinAt B w' bf bb a cap zs tr n la be :=
  h.kept (Kept.of_below k) (by have := h.flt; omega) (by have := h.blt; omega) (fun b hb => by have := h.inb; have := h.flt; omega)
theorem FinAt.drewN (h : FinAt B w bf bb a cap zs tr n la be) (q : Nat) : FinAt B (w.drewN q) bf bb a cap zs tr n la be := ⟨h.fb, h.bk, ⟨h.tx.at_, h.tx.rng⟩, h.hB, h.inb, h.cp⟩
theorem FinAt.drew (h : FinAt B w bf bb a cap zs tr n la be) : FinAt B w.drew bf bb a cap zs tr n la be := ⟨h.fb, h.bk, ⟨h.tx.at_, h.tx.rng⟩, h.hB, h.inb, h.cp⟩
theorem FinAt.text (h : FinAt B w bf bb a cap zs tr n la be) (h0 : 0 < zs.length) : ∃ b off, a = some ⟨b, off, none⟩ ∧ b < w.heap.size ∧ ∀ i, i < zs.length → w.cell? ⟨b, off + i, none⟩ = some (.int .u8 (ln zs i)) := by
  rcases h.tx.at_ with h' | ⟨b, off, h1, h2, h3⟩
  · omega
  · exact ⟨b, off, h2, h1, h3⟩

set_option maxHeartbeats 1000000 in
theorem slot_c (h : FinAt B w bf bb a cap zs tr n la be) (p : Nat) (hp : p + 3 ≤ zs.length) (hl : zs.length ≤ 1000000000) (hcap : cap ≤ 9223372036854775807) :
    Calls Tryz.prog 122 #[.pointer (some ⟨bf, 0, none⟩), .int .i64 (p : Int)] w fun e w' => e = .returned (.int .i64 (sl zs p : Int)) ∧ ∃ q, w' = w.drewN q := by
  obtain ⟨b, off, rfl, hbl, hc⟩ := h.text (by omega)
  have c0 := h.c0
  have d0 := hc p (by omega)
  have d1 := hc (p + 1) (by omega)
  have d2 := hc (p + 2) (by omega)
  rw [show off + (p + 1) = off + p + 1 by omega] at d1
  rw [show off + (p + 2) = off + p + 2 by omega] at d2
  have hcp := h.cp
  obtain ⟨⟨x0, x1⟩, ⟨y0, y1⟩, ⟨z0, z1⟩⟩ := And.intro (h.tx.rng p) (And.intro (h.tx.rng (p + 1)) (h.tx.rng (p + 2)))
  have HSL : Hid (sl zs p = sH (ln zs p) (ln zs (p + 1)) (ln zs (p + 2))) := rfl
  clear hc h
  generalize ln zs p = x at *
  generalize ln zs (p + 1) = y at *
  generalize ln zs (p + 2) = z at *
  generalize sl zs p = s at *
  have k1 : (p : Int) + 3 ≤ (cap : Int) := by omega
  go_enter Tryz.func122, Tryz.ntmps122
  go_upto_region 2 with fail
  have e3 : p + 3 - p = 3 := by omega
  rw [e3]
  clear e3
  go_quiet (fail)
  go_wp2_with fail
  rw [sH_eq, ← HSL.out]
  go_ret
  exact ⟨rfl, nq, rfl⟩
end
end Go.Proofs.YtgjafmppkfgkfaaGreatDoor.M

/- The finder's note: contract. -/
namespace Go.Proofs.YtgjafmppkfgkfaaGreatDoor.M
set_option maxRecDepth 100000
open Go Go.RowKit

/-- The finder on its way. -/
def NSt (B : Nat) (bf bb : Nat) (a : Option Addr) (cap : Nat) (zs : List Int) (tr : Nat) (w wx : World) (m : Nat) : Prop :=
  ∃ la be, FinAt B wx bf bb a cap zs tr m la be ∧ Chain (sl zs) m la be ∧ Kept (fun b => b = bf ∨ b = bb) w wx
section
variable {B : Nat} {w w' : World} {bf bb : Nat} {a : Option Addr} {cap : Nat} {zs : List Int} {tr n : Nat} {la be : Nat → Nat}
/-- What is ahead of a place is kept. -/
theorem FinAt.setB (h : FinAt B w bf bb a cap zs tr n la be) {x : Nat} (hx : x < min zs.length 32768) (v : Nat) : FinAt B (w.setCell ⟨bb, x, none⟩ (.int .i32 (v : Int))) bf bb a cap zs tr n la (up be x v) := by
  obtain ⟨cs, hb, hr⟩ := h.fb
  obtain ⟨ds, hd, hs⟩ := h.bk
  have hk : Kept (fun b => b = bb) w (w.setCell ⟨bb, x, none⟩ (.int .i32 (v : Int))) := Kept.setCell (M := fun b => b = bb) (Kept.refl _ w) (fun _ => rfl) _
  refine ⟨⟨cs, Kept.heap hk hb h.ne, hr⟩, ⟨_, set_of hd x _, fun y hy => ?_⟩, h.tx.kept hk (fun h0 b off e => by have := h.hB h0 b off e; have := h.inb; omega), h.hB, h.inb, h.cp⟩
  rw [Array.getElem?_setIfInBounds]
  by_cases e : x = y
  · subst e
    have : x < ds.size := by
      have := hs x hx
      rcases Nat.lt_or_ge x ds.size with h' | h'
      · exact h'
      · rw [Array.getElem?_eq_none h'] at this; cases this
    rw [if_pos rfl, if_pos this, up_same]
  · rw [if_neg e, up_other _ _ (fun e' => e e'.symm)]; exact hs y hy
/-- The last place of a slot is kept. -/
theorem FinAt.setL (h : FinAt B w bf bb a cap zs tr n la be) {s : Nat} (hs : s < 16384) (v : Nat) : FinAt B (w.setCell ⟨bf, 3 + s, none⟩ (.int .i32 (v : Int))) bf bb a cap zs tr n (up la s v) be := by
  obtain ⟨cs, hb, h0, h1, h2, h3, h4⟩ := h.fb
  obtain ⟨ds, hd, hr⟩ := h.bk
  have hk : Kept (fun b => b = bf) w (w.setCell ⟨bf, 3 + s, none⟩ (.int .i32 (v : Int))) := Kept.setCell (M := fun b => b = bf) (Kept.refl _ w) (fun _ => rfl) _
  refine ⟨⟨_, set_of hb (3 + s) _, ?_, ?_, ?_, fun y hy => ?_, ?_⟩, ⟨ds, Kept.heap hk hd (fun e => h.ne e.symm), hr⟩, h.tx.kept hk (fun h0 b off e => by have := h.hB h0 b off e; have := h.inb; omega), h.hB, h.inb, h.cp⟩
  · rw [Array.getElem?_setIfInBounds, if_neg (by omega)]; exact h0
  · rw [Array.getElem?_setIfInBounds, if_neg (by omega)]; exact h1
  · rw [Array.getElem?_setIfInBounds, if_neg (by omega)]; exact h2
  · rw [Array.getElem?_setIfInBounds]
    by_cases e : s = y
    · subst e
      have : 3 + s < cs.size := by
        have := h3 s hs
        rcases Nat.lt_or_ge (3 + s) cs.size with h' | h'
        · exact h'
        · rw [Array.getElem?_eq_none h'] at this; cases this
      rw [if_pos rfl, if_pos this, up_same]
    · rw [if_neg (by omega), up_other _ _ (fun e' => e e'.symm)]; exact h3 y hy
  · rw [Array.getElem?_setIfInBounds, if_neg (by omega)]; exact h4
theorem FinAt.setN (h : FinAt B w bf bb a cap zs tr n la be) (v : Nat) : FinAt B (w.setCell ⟨bf, 2, none⟩ (.int .i64 (v : Int))) bf bb a cap zs tr v la be := by
  obtain ⟨cs, hb, h0, h1, h2, h3, h4⟩ := h.fb
  obtain ⟨ds, hd, hr⟩ := h.bk
  have hk : Kept (fun b => b = bf) w (w.setCell ⟨bf, 2, none⟩ (.int .i64 (v : Int))) := Kept.setCell (M := fun b => b = bf) (Kept.refl _ w) (fun _ => rfl) _
  have hsz : 2 < cs.size := by
    rcases Nat.lt_or_ge 2 cs.size with h' | h'
    · exact h'
    · rw [Array.getElem?_eq_none h'] at h2; cases h2
  refine ⟨⟨_, set_of hb 2 _, ?_, ?_, ?_, fun y hy => ?_, ?_⟩, ⟨ds, Kept.heap hk hd (fun e => h.ne e.symm), hr⟩, h.tx.kept hk (fun h0 b off e => by have := h.hB h0 b off e; have := h.inb; omega), h.hB, h.inb, h.cp⟩
  · rw [Array.getElem?_setIfInBounds, if_neg (by omega)]; exact h0
  · rw [Array.getElem?_setIfInBounds, if_neg (by omega)]; exact h1
  · rw [Array.getElem?_setIfInBounds, if_pos rfl, if_pos hsz]
  · rw [Array.getElem?_setIfInBounds, if_neg (by omega)]; exact h3 y hy
  · rw [Array.getElem?_setIfInBounds, if_neg (by omega)]; exact h4

set_option maxHeartbeats 4000000 in
theorem note_c (h : FinAt B w bf bb a cap zs tr n la be) (hch : Chain (sl zs) n la be) (p : Nat) (hn : n ≤ p) (hp : p + 2 ≤ zs.length) (hl : zs.length ≤ 1000000000) (hcap : cap ≤ 9223372036854775807) :
    Calls Tryz.prog 121 #[.pointer (some ⟨bf, 0, none⟩), .int .i64 (p : Int)] w fun e w' => e = .returned (.tuple #[]) ∧ NSt B bf bb a cap zs tr w w' p := by
  have HS0 : Hid (NSt B bf bb a cap zs tr w w n) := ⟨la, be, h, hch, Kept.refl _ _⟩
  clear h hch
  go_enter Tryz.func121, Tryz.ntmps121
  go_wp2_with fail
  go_loopg [4] (p - n) (fun gk v4 wx => ∃ m : Nat, m + gk = p ∧ Hid (NSt B bf bb a cap zs tr w wx m))
  case atStart => exact ⟨n, by omega, HS0.out⟩
  case round =>
    obtain ⟨m, hmg, HS⟩ := hrel
    cases gk with
    | zero =>
      obtain rfl : m = p := by omega
      obtain ⟨la', be', hF, hC, hK⟩ := HS.out
      have c2 := hF.c2
      clear hF hC hK
      go_wp2_with fail
      go_end0
      exact ⟨rfl, HS.out⟩
    | succ g1 =>
      have hlt : (m : Int) < (p : Int) := by omega
      obtain ⟨la', be', hF, hC, hK⟩ := HS.out
      have HF := hide hF
      have HC := hide hC
      have HK := hide hK
      have c2 := hF.c2
      have hslot := hide (slot_c hF m (by omega) hl hcap)
      clear hF hC hK
      go_upto_region 3 with (go_at_call 122; refine hslot.out.mono ?_; rintro e w1 ⟨rfl, q, rfl⟩)
      clear hslot c2
      have HF1 := hide (HF.out.drewN q)
      have HK1 := hide (HK.out.drewN q)
      generalize wr.drewN q = w1 at HF1 HK1 ⊢
      clear HF HK
      have hs := sl_lt zs m
      obtain ⟨s, hsd⟩ : ∃ s, sl zs m = s := ⟨_, rfl⟩
      obtain ⟨x, hx⟩ : ∃ x, m % 32768 = x := ⟨_, rfl⟩
      have hxl : x < min zs.length 32768 := by omega
      have hxm : (m : Int).tmod 32768 = (x : Int) := by rw [Int.tmod_eq_emod_of_nonneg (by omega)]; omega
      have hxm2 : (m : Int) % 32768 = (x : Int) := by omega
      rw [hsd] at hs ⊢
      have c2 := HF1.out.c2
      have c3 := HF1.out.c3 hs
      have c4 := HF1.out.c4
      have b0 := HF1.out.b0 hxl
      have fb := HF1.out.bfree x
      have HSD := hide hsd
      have HX := hide hx
      have HXL := hide hxl
      obtain ⟨N, hN⟩ : ∃ N, min zs.length 32768 = N := ⟨_, rfl⟩
      rw [hN] at hxl c4
      have HN := hide hN
      clear hN hsd hx
      have i1 : (0 : Int) ≤ (x : Int) := by omega
      have i2 : (x : Int) < (N : Int) := by omega
      have i3 : (0 : Int) ≤ (s : Int) := by omega
      have i4 : (s : Int) < 16384 := by omega
      have c3' : w1.cell? ⟨bf, 3 + s * 1, none⟩ = some (.int .i32 (la' s : Int)) := by rw [Nat.mul_one]; exact c3
      have hv := HC.out.la_le s
      generalize hV : la' s = V at c3 c3' hv
      generalize hE : be' x = E at b0
      have HV := hide hV
      clear hV hE
      go_region
      go_upto_region 4 with fail
      have HF2 : Hid (FinAt B (w1.setCell ⟨bb, x, none⟩ (.int .i32 (V : Int))).drew bf bb a cap zs tr m la' (up be' x V)) := (HF1.out.setB HXL.out V).drew
      have HK2 : Hid (Kept (fun b => b = bf ∨ b = bb) w (w1.setCell ⟨bb, x, none⟩ (.int .i32 (V : Int))).drew) := (HK1.out.setCell (fun _ => .inr rfl) _).drew
      generalize (w1.setCell ⟨bb, x, none⟩ (.int .i32 (V : Int))).drew = w2 at HF2 HK2 ⊢
      clear HF1 HK1 c2 c3 c3' c4 b0 fb hxm hxm2
      have c2 := HF2.out.c2
      have c3 := HF2.out.c3 hs
      have f3 := HF2.out.ffree (3 + s)
      have hw : IntKind.i32.wrap ((m : Int) + 1) = (m : Int) + 1 := by simp only [IntKind.wrap_i32]; omega
      generalize hE : la' s = E2 at c3
      clear hE
      go_region
      go_upto_region 1 with fail
      have HF3 : Hid (FinAt B (w2.setCell ⟨bf, 3 + s, none⟩ (.int .i32 ((m : Int) + 1))).drew bf bb a cap zs tr m (up la' s (m + 1)) (up be' x V)) := (HF2.out.setL hs (m + 1)).drew
      have HK3 : Hid (Kept (fun b => b = bf ∨ b = bb) w (w2.setCell ⟨bf, 3 + s, none⟩ (.int .i32 ((m : Int) + 1))).drew) := (HK2.out.setCell (fun _ => .inl rfl) _).drew
      generalize (w2.setCell ⟨bf, 3 + s, none⟩ (.int .i32 ((m : Int) + 1))).drew = w3 at HF3 HK3 ⊢
      clear HF2 HK2 c2 c3 f3 hw
      have c2 := HF3.out.c2
      have f2 := HF3.out.ffree 2
      go_wp2_with fail
      go_roundg g1
      case measure => omega
      case rel =>
        refine ⟨m + 1, by omega, _, _, HF3.out.setN (m + 1), ?_, HK3.out.setCell (fun _ => .inl rfl) _⟩
        have := HC.out.step
        rw [HSD.out, HX.out, HV.out] at this
        exact this
end
end Go.Proofs.YtgjafmppkfgkfaaGreatDoor.M

/- The finder's common and run: contracts. -/
namespace Go.Proofs.YtgjafmppkfgkfaaGreatDoor.M
set_option maxRecDepth 100000
open Go Go.RowKit
section
variable {B : Nat} {w w' : World} {bf bb : Nat} {a : Option Addr} {cap : Nat} {zs : List Int} {tr n : Nat} {la be : Nat → Nat}

/-- How many bytes are the same at two places. -/
def Com (zs : List Int) (i p most m : Nat) : Prop := m ≤ most ∧ (∀ x, x < m → ln zs (i + x) = ln zs (p + x)) ∧ (m < most → ln zs (i + m) ≠ ln zs (p + m))
theorem Com.le {zs : List Int} {i p most m : Nat} (h : Com zs i p most m) {k : Nat} (hk : k ≤ most) (hs : ∀ x, x < k → ln zs (i + x) = ln zs (p + x)) : k ≤ m := by
  rcases Nat.lt_or_ge m k with h' | h'
  · exact absurd (hs m h') (h.2.2 (by omega))
  · exact h'

set_option maxHeartbeats 2000000 in
theorem common_c (h : FinAt B w bf bb a cap zs tr n la be) (i p most : Nat) (hi : i + most ≤ zs.length) (hp : p + most ≤ zs.length) (h0 : 0 < most) (hl : zs.length ≤ 1000000000) :
    Calls Tryz.prog 123 #[.pointer (some ⟨bf, 0, none⟩), .int .i64 (i : Int), .int .i64 (p : Int), .int .i64 (most : Int)] w fun e w' => (∃ m : Nat, e = .returned (.int .i64 (m : Int)) ∧ Com zs i p most m) ∧ ∃ q, w' = w.drewN q := by
  obtain ⟨b, off, rfl, hbl, hc⟩ := h.text (by omega)
  have c0 := h.c0
  have HC := hide hc
  clear hc h
  go_enter Tryz.func123, Tryz.ntmps123
  go_wp2_with fail
  go_loopg [9] most (fun gk v9 wx => ∃ m q : Nat, m + gk = most ∧ v9 = .int .i64 m ∧ Hid (∀ x, x < m → ln zs (i + x) = ln zs (p + x)) ∧ wx = w.drewN q)
  case atStart => exact ⟨0, 0, by omega, rfl, fun x hx => by omega, rfl⟩
  case round =>
    obtain ⟨m, q, hmg, rfl, HS, rfl⟩ := hrel
    cases gk with
    | zero =>
      have hge : ¬ (m : Int) < (most : Int) := by omega
      have hd : decide ((m : Int) < (most : Int)) = false := by simpa using hge
      generalize hW : w.drewN q = w1 at *
      have HW := hide hW
      clear hW c0
      go_upto_region 2 with fail
      go_quiet (fail)
      go_wp2_with fail
      go_ret
      exact ⟨⟨m, rfl, by omega, HS.out, fun h => by omega⟩, q + nq, by rw [← HW.out, World.drewN_drewN]⟩
    | succ g1 =>
      have hlt : (m : Int) < (most : Int) := by omega
      have hd : decide ((m : Int) < (most : Int)) = true := by simpa using hlt
      have c1 : (w.drewN q).cell? ⟨bf, 0, none⟩ = some (.slice (some ⟨b, off, none⟩) zs.length cap) := c0
      have d1 : (w.drewN q).cell? ⟨b, off + (i + m), none⟩ = some (.int .u8 (ln zs (i + m))) := HC.out (i + m) (by omega)
      have d2 : (w.drewN q).cell? ⟨b, off + (p + m), none⟩ = some (.int .u8 (ln zs (p + m))) := HC.out (p + m) (by omega)
      have HX : Hid (ln zs (i + m) = ln zs (i + m) ∧ ln zs (p + m) = ln zs (p + m)) := ⟨rfl, rfl⟩
      obtain ⟨X, hX⟩ : ∃ X, ln zs (i + m) = X := ⟨_, rfl⟩
      obtain ⟨Y, hY⟩ : ∃ Y, ln zs (p + m) = Y := ⟨_, rfl⟩
      rw [hX] at d1
      rw [hY] at d2
      have EX := hide hX
      have EY := hide hY
      have HQ : Hid (∀ nq, (w.drewN q).drewN nq = w.drewN (q + nq)) := fun nq => World.drewN_drewN _ _ _
      generalize w.drewN q = w1 at c1 d1 d2 HQ ⊢
      clear c0 hX hY HX
      obtain ⟨I, hI⟩ : ∃ I, i + m = I := ⟨_, rfl⟩
      obtain ⟨J, hJ⟩ : ∃ J, p + m = J := ⟨_, rfl⟩
      rw [hI] at d1 EX
      rw [hJ] at d2 EY
      have hI1 : (i : Int) + (m : Int) = (I : Int) := by omega
      have hJ1 : (p : Int) + (m : Int) = (J : Int) := by omega
      have hI2 : (I : Int) < (zs.length : Int) := by omega
      have hJ2 : (J : Int) < (zs.length : Int) := by omega
      have HI := hide hI
      have HJ := hide hJ
      clear hI hJ
      by_cases hXY : X = Y
      · subst hXY
        go_upto_region 2 with fail
        go_quiet (fail)
        go_wp2_with fail
        go_roundg g1
        case measure => omega
        case rel =>
          refine ⟨m + 1, q + nq, by omega, by go_num, fun x hx => ?_, HQ.out nq⟩
          by_cases e : x = m
          · subst e; rw [HI.out, HJ.out, EX.out, EY.out]
          · exact HS.out x (by omega)
      · have hne : (X == Y) = false := by simpa using hXY
        go_upto_region 2 with fail
        go_quiet (fail)
        go_wp2_with fail
        go_ret
        exact ⟨⟨m, rfl, by omega, HS.out, fun _ => by rw [HI.out, HJ.out, EX.out, EY.out]; exact hXY⟩, q + nq, HQ.out nq⟩
end
end Go.Proofs.YtgjafmppkfgkfaaGreatDoor.M
