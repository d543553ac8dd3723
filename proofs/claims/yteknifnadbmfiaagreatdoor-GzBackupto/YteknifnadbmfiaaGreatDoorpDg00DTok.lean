/- Several texts, laid together: DMarks, DWr, DPut, DSplit, DTok. -/
import Derived.Test.YteknifnadbmfiaaGreatDoorpAg06PRun
import Derived.Test.YteknifnadbmfiaaGreatDoorpAg12HPut
import Derived.Test.YteknifnadbmfiaaGreatDoorpMg00MSlot
import Derived.Test.YteknifnadbmfiaaGreatDoorpAg04ISpec
import Derived.BigQuiet
/- Marks: symbols with what is left of a number; their bits, and how these are read. Of no program. -/
namespace Go.Proofs.YteknifnadbmfiaaGreatDoor
set_option maxRecDepth 100000
open Go Go.RowKit

/-- A mark: its symbol, what is left, how many further bits. -/
abbrev Mk := Nat × Nat × Nat
def mkB (ls : List Int) (m : Mk) : List Int := rowL (cd ls m.1) (ln ls m.1).toNat ++ bitsN (m.2.1 : Int) m.2.2
theorem mkB_length (ls : List Int) (m : Mk) : (mkB ls m).length = (ln ls m.1).toNat + m.2.2 := by simp [mkB, rowL_length, bitsN_length]

/-- How many bits further: the first place at which the number is below k. -/
def spg (k n : Nat) : Nat → Nat → Nat
  | 0, f => f
  | t + 1, f => if n / 2 ^ f < k then f else spg k n t (f + 1)
theorem spg_is {k n F : Nat} (h2 : n / 2 ^ F < k) : ∀ (t f : Nat), f ≤ F → F < f + t → (∀ g, f ≤ g → g < F → k ≤ n / 2 ^ g) → spg k n t f = F := by
  intro t
  induction t with
  | zero => intro f h h' _; omega
  | succ t ih =>
    intro f h h' hg
    unfold spg
    by_cases e : f = F
    · subst e; rw [if_pos h2]
    · have := hg f (Nat.le_refl _) (by omega)
      rw [if_neg (by omega)]
      exact ih (f + 1) (by omega) (by omega) (fun g h1 h3 => hg g (by omega) h3)
def spf (k n : Nat) : Nat := spg k n 20 0
theorem spf_is {k n F : Nat} (hF : F < 20) (h2 : n / 2 ^ F < k) (h1 : ∀ g, g < F → k ≤ n / 2 ^ g) : spf k n = F := spg_is h2 20 0 (Nat.zero_le _) (by omega) (fun g _ h => h1 g h)
/-- A number, parted. -/
def spl (fine n : Nat) : Mk := (spf (2 * 2 ^ fine) n * 2 ^ fine + n / 2 ^ spf (2 * 2 ^ fine) n, n % 2 ^ spf (2 * 2 ^ fine) n, spf (2 * 2 ^ fine) n)
/-- A run's length; its distance. -/
def lmk (l : Nat) : Mk := if l = 258 then (285, 0, 0) else (257 + (spl 2 (l - 3)).1, (spl 2 (l - 3)).2)
def bmk (d : Nat) : Mk := spl 1 (d - 1)
theorem lmk_ok (l : Nat) (h : 3 ≤ l ∧ l ≤ 258) : 257 ≤ (lmk l).1 ∧ (lmk l).1 ≤ 285 ∧ iLx (lmk l).1 = (lmk l).2.2 ∧ iLb (lmk l).1 + (lmk l).2.1 = l ∧ (lmk l).2.1 < 2 ^ (lmk l).2.2 ∧ (lmk l).2.2 ≤ 5 := by
  have key : ∀ x : Fin 256, 257 ≤ (lmk (x.val + 3)).1 ∧ (lmk (x.val + 3)).1 ≤ 285 ∧ iLx (lmk (x.val + 3)).1 = (lmk (x.val + 3)).2.2 ∧ iLb (lmk (x.val + 3)).1 + (lmk (x.val + 3)).2.1 = x.val + 3 ∧ (lmk (x.val + 3)).2.1 < 2 ^ (lmk (x.val + 3)).2.2 ∧ (lmk (x.val + 3)).2.2 ≤ 5 := by decide +kernel
  have := key ⟨l - 3, by omega⟩
  simpa only [show l - 3 + 3 = l by omega] using this
theorem spf_lt (n : Nat) (hn : n < 32768) : ∃ F, F ≤ 13 ∧ n / 2 ^ F < 4 ∧ (∀ g, g < F → 4 ≤ n / 2 ^ g) := by
  have key : ∀ t, n / 2 ^ t < 4 → ∃ F, F ≤ t ∧ n / 2 ^ F < 4 ∧ (∀ g, g < F → 4 ≤ n / 2 ^ g) := by
    intro t
    induction t with
    | zero => intro h; exact ⟨0, Nat.le_refl _, h, fun g hg => by omega⟩
    | succ t ih =>
      intro h
      by_cases h4 : n / 2 ^ t < 4
      · obtain ⟨F, h1, h2, h3⟩ := ih h4
        exact ⟨F, by omega, h2, h3⟩
      · refine ⟨t + 1, Nat.le_refl _, h, fun g hg => ?_⟩
        have : n / 2 ^ t ≤ n / 2 ^ g := Nat.div_le_div_left (Nat.pow_le_pow_right (by decide) (by omega)) (Nat.pow_pos (by decide))
        omega
  exact key 13 (by omega)
theorem bmk_ok (d : Nat) (h : 1 ≤ d ∧ d ≤ 32768) : (bmk d).1 ≤ 29 ∧ iDx (bmk d).1 = (bmk d).2.2 ∧ iDb (bmk d).1 + (bmk d).2.1 = d ∧ (bmk d).2.1 < 2 ^ (bmk d).2.2 ∧ (bmk d).2.2 ≤ 13 := by
  obtain ⟨n, rfl⟩ : ∃ n, d = n + 1 := ⟨d - 1, by omega⟩
  obtain ⟨F, h1, h2, h3⟩ := spf_lt n (by omega)
  have e := spf_is (k := 4) (by omega) h2 h3
  have hm : bmk (n + 1) = (F * 2 + n / 2 ^ F, n % 2 ^ F, F) := by
    unfold bmk spl
    rw [show n + 1 - 1 = n by omega, show 2 * 2 ^ 1 = 4 from rfl, e]
  rw [hm]
  have hp : 0 < 2 ^ F := Nat.pow_pos (by decide)
  have hml := Nat.mod_lt n hp
  have hdm := Nat.div_add_mod n (2 ^ F)
  have hge : F = 0 ∨ 2 ≤ n / 2 ^ F := by
    rcases Nat.eq_zero_or_pos F with h0 | h0
    · exact .inl h0
    · have := h3 (F - 1) (by omega)
      obtain ⟨G, rfl⟩ : ∃ G, F = G + 1 := ⟨F - 1, by omega⟩
      rw [show G + 1 - 1 = G by omega] at this
      rw [Nat.pow_succ, ← Nat.div_div_eq_div_mul]
      right; omega
  have hq : n / 2 ^ F = 0 ∨ n / 2 ^ F = 1 ∨ n / 2 ^ F = 2 ∨ n / 2 ^ F = 3 := by
    clear hdm hml hge
    generalize n / 2 ^ F = q at h2
    omega
  have hF : F = 0 ∨ F = 1 ∨ F = 2 ∨ F = 3 ∨ F = 4 ∨ F = 5 ∨ F = 6 ∨ F = 7 ∨ F = 8 ∨ F = 9 ∨ F = 10 ∨ F = 11 ∨ F = 12 ∨ F = 13 := by omega
  clear e hm h3 h2
  rcases hF with rfl | rfl | rfl | rfl | rfl | rfl | rfl | rfl | rfl | rfl | rfl | rfl | rfl | rfl <;> rcases hq with hq | hq | hq | hq <;> rw [hq] at hdm hge ⊢ <;> first
    | (exfalso; omega)
    | (simp only
       refine ⟨by decide, by decide, ?_, hml, by decide⟩
       first
         | (rw [show iDb (0 * 2 + 0) = 1 by decide]; omega)
         | (rw [show iDb (0 * 2 + 1) = 2 by decide]; omega)
         | (rw [show iDb (0 * 2 + 2) = 3 by decide]; omega)
         | (rw [show iDb (0 * 2 + 3) = 4 by decide]; omega)
         | (rw [show iDb (1 * 2 + 2) = 5 by decide]; omega)
         | (rw [show iDb (1 * 2 + 3) = 7 by decide]; omega)
         | (rw [show iDb (2 * 2 + 2) = 9 by decide]; omega)
         | (rw [show iDb (2 * 2 + 3) = 13 by decide]; omega)
         | (rw [show iDb (3 * 2 + 2) = 17 by decide]; omega)
         | (rw [show iDb (3 * 2 + 3) = 25 by decide]; omega)
         | (rw [show iDb (4 * 2 + 2) = 33 by decide]; omega)
         | (rw [show iDb (4 * 2 + 3) = 49 by decide]; omega)
         | (rw [show iDb (5 * 2 + 2) = 65 by decide]; omega)
         | (rw [show iDb (5 * 2 + 3) = 97 by decide]; omega)
         | (rw [show iDb (6 * 2 + 2) = 129 by decide]; omega)
         | (rw [show iDb (6 * 2 + 3) = 193 by decide]; omega)
         | (rw [show iDb (7 * 2 + 2) = 257 by decide]; omega)
         | (rw [show iDb (7 * 2 + 3) = 385 by decide]; omega)
         | (rw [show iDb (8 * 2 + 2) = 513 by decide]; omega)
         | (rw [show iDb (8 * 2 + 3) = 769 by decide]; omega)
         | (rw [show iDb (9 * 2 + 2) = 1025 by decide]; omega)
         | (rw [show iDb (9 * 2 + 3) = 1537 by decide]; omega)
         | (rw [show iDb (10 * 2 + 2) = 2049 by decide]; omega)
         | (rw [show iDb (10 * 2 + 3) = 3073 by decide]; omega)
         | (rw [show iDb (11 * 2 + 2) = 4097 by decide]; omega)
         | (rw [show iDb (11 * 2 + 3) = 6145 by decide]; omega)
         | (rw [show iDb (12 * 2 + 2) = 8193 by decide]; omega)
         | (rw [show iDb (12 * 2 + 3) = 12289 by decide]; omega)
         | (rw [show iDb (13 * 2 + 2) = 16385 by decide]; omega)
         | (rw [show iDb (13 * 2 + 3) = 24577 by decide]; omega))

/-- Bits stand at a place. -/
def BAt (b : Nat → Nat) (T p : Nat) (L : List Int) : Prop := p + L.length ≤ T ∧ ∀ i, i < L.length → (b (p + i) : Int) = ln L i
theorem BAt.left {b : Nat → Nat} {T p : Nat} {A B : List Int} (h : BAt b T p (A ++ B)) : BAt b T p A := by
  obtain ⟨h1, h2⟩ := h
  rw [List.length_append] at h1 h2
  exact ⟨by omega, fun i hi => by rw [h2 i (by omega)]; unfold ln; exact getD_left hi⟩
theorem BAt.right {b : Nat → Nat} {T p : Nat} {A B : List Int} (h : BAt b T p (A ++ B)) : BAt b T (p + A.length) B := by
  obtain ⟨h1, h2⟩ := h
  rw [List.length_append] at h1 h2
  refine ⟨by omega, fun i hi => ?_⟩
  rw [Nat.add_assoc, h2 (A.length + i) (by omega)]
  unfold ln
  rw [getD_right (by omega), Nat.add_sub_cancel_left]
theorem BAt.tk {b : Nat → Nat} {T p n x : Nat} (h : BAt b T p (bitsN (x : Int) n)) (hx : x < 2 ^ n) : iTk b T p n = .ok (p + n, x) := by
  obtain ⟨h1, h2⟩ := h
  rw [bitsN_length] at h1 h2
  rw [iTk_ok h1]
  congr 2
  have key : ∀ k, k ≤ n → iNum b p k = x % 2 ^ k := by
    intro k hk
    induction k with
    | zero => simp [iNum, Nat.mod_one]
    | succ k ih =>
      have e := h2 k (by omega)
      unfold ln at e
      rw [bitsN_getD, if_pos (by omega)] at e
      have e' : b (p + k) = x / 2 ^ k % 2 := by
        have : ((x / 2 ^ k % 2 : Nat) : Int) = (x : Int) / 2 ^ k % 2 := by simp
        omega
      rw [iNum, ih (by omega), e', Nat.mod_pow_succ, Nat.mul_comm (2 ^ k)]
  rw [key n (Nat.le_refl _), Nat.mod_eq_of_lt hx]
/-- A symbol that has a code. -/
def Has (ls : List Int) (s : Nat) : Prop := s < ls.length ∧ 1 ≤ ln ls s
theorem BAt.nx {ls : List Int} (hg : Good ls) {b : Nat → Nat} (hb : ∀ i, b i ≤ 1) {T p s : Nat} (hs : Has ls s) (h : BAt b T p (rowL (cd ls s) (ln ls s).toNat)) : iNx ls b T p = .ok (p + (ln ls s).toNat, s) := by
  obtain ⟨h1, h2⟩ := h
  rw [rowL_length] at h1 h2
  have hl := hs.2
  refine iNx_ok hb ⟨by simp only; omega, hs.1, by simp only; omega, by simp only; omega, ?_⟩
  simp only
  have hc := (cd_lt hg.le hg.fit hs.1 hs.2).2
  have := (vl_code (fun i => b (p + i)) (cd ls s) (ln ls s).toNat hc (ln ls s).toNat (Nat.le_refl _)).1 (fun k hk => by
    have e := h2 k hk
    rw [rowL_at _ _ hk] at e
    exact_mod_cast e)
  rw [this.1, Nat.sub_self, Nat.pow_zero, Nat.div_one]
theorem BAt.mark {ls : List Int} (hg : Good ls) {b : Nat → Nat} (hb : ∀ i, b i ≤ 1) {T p : Nat} {m : Mk} (hs : Has ls m.1) (hx : m.2.1 < 2 ^ m.2.2) (h : BAt b T p (mkB ls m)) :
    iNx ls b T p = .ok (p + (ln ls m.1).toNat, m.1) ∧ iTk b T (p + (ln ls m.1).toNat) m.2.2 = .ok (p + (mkB ls m).length, m.2.1) := by
  refine ⟨h.left.nx hg hb hs, ?_⟩
  have h2 := h.right
  rw [rowL_length] at h2
  rw [h2.tk hx, mkB_length, Nat.add_assoc]
end Go.Proofs.YteknifnadbmfiaaGreatDoor

/- The writer as a row of bits; Put and Bits into it: contracts. -/
namespace Go.Proofs.YteknifnadbmfiaaGreatDoor
set_option maxRecDepth 100000
open Go Go.RowKit

/-- The writer at bw holds the bits L; its row lies in ow. -/
def WS (base bw : Nat) (ow : Option Nat) (w : World) (L : List Int) : Prop := ∃ v bs t m, Wr base bw w v bs t m ∧ rowOf bs ++ bitsN t m = L ∧ v.ownBlock = ow
/-- From w on the writer was written into: it holds L now. -/
def WTo (base bw : Nat) (ow : Option Nat) (w : World) (L : List Int) (w' : World) : Prop := ∃ ow', WS base bw ow' w' L ∧ Kept (fun k => k = bw ∨ ow = some k) w w' ∧ (ow' = ow ∨ ∀ g, ow' = some g → w.heap.size ≤ g)
theorem WS.to {base bw : Nat} {ow : Option Nat} {w : World} {L : List Int} (h : WS base bw ow w L) : WTo base bw ow w L w := ⟨ow, h, Kept.refl _ _, .inl rfl⟩
theorem WS.block {base bw : Nat} {ow : Option Nat} {w : World} {L : List Int} (h : WS base bw ow w L) : ∃ cs, w.heap[bw]? = some (.cells cs 125 (0, 0)) := by
  obtain ⟨v, bs, t, m, h, _⟩ := h
  exact ⟨_, h.block⟩
theorem WS.lt {base bw : Nat} {ow : Option Nat} {w : World} {L : List Int} (h : WS base bw ow w L) : bw < w.heap.size := by
  obtain ⟨cs, h⟩ := h.block
  exact lt_of_block h
theorem WS.own {base bw : Nat} {ow : Option Nat} {w : World} {L : List Int} (h : WS base bw ow w L) {g : Nat} (e : ow = some g) : base ≤ g ∧ g < w.heap.size := by
  obtain ⟨v, bs, t, m, h, _, ho⟩ := h
  exact ownsRow_lt h.owns (ho.trans e)
/-- A block of another type is not the writer's. -/
theorem WS.apart {base bw : Nat} {ow : Option Nat} {w : World} {L : List Int} (h : WS base bw ow w L) {b : Nat} {cs : Array Value} {ty : TypeId} {fr : Nat × Nat} (hb : w.heap[b]? = some (.cells cs ty fr)) (h1 : ty ≠ 125) (h2 : ty ≠ 5) : ¬ (b = bw ∨ ow = some b) := by
  obtain ⟨v, bs, t, m, h, _, ho⟩ := h
  rintro (e | e)
  · subst e
    rw [h.block] at hb
    simp only [Option.some.injEq, Obj.cells.injEq] at hb
    exact h1 hb.2.1.symm
  · exact ownsRow_apart h.owns hb h2 (ho.trans e)
theorem WS.kept {base bw : Nat} {ow : Option Nat} {w w' : World} {L : List Int} {M : Nat → Prop} (h : WS base bw ow w L) (k : Kept M w w') (h1 : ¬ M bw) (h2 : ∀ g, ow = some g → ¬ M g) : WS base bw ow w' L := by
  obtain ⟨v, bs, t, m, h, hr, ho⟩ := h
  exact ⟨v, bs, t, m, ⟨k.heap h.block h1, ownsRow_kept h.owns k (fun g hg => h2 g (ho.symm.trans hg)), h.t0, h.t1, h.m1, h.bytes⟩, hr, ho⟩
theorem WS.below {base bw : Nat} {ow : Option Nat} {w w' : World} {L : List Int} (h : WS base bw ow w L) (k : Below w.heap.size w w') : WS base bw ow w' L :=
  h.kept (Kept.of_below k) (by have := h.lt; omega) (fun g e => by have := (h.own e).2; omega)
theorem WTo.below {base bw : Nat} {ow : Option Nat} {w w1 w2 : World} {L : List Int} (h : WTo base bw ow w L w1) (k : Below w1.heap.size w1 w2) : WTo base bw ow w L w2 := by
  obtain ⟨o, h1, h2, h3⟩ := h
  exact ⟨o, h1.below k, h2.trans (Kept.of_below k) (fun i hi e => by have := h2.size; omega), h3⟩
theorem WTo.trans {base bw : Nat} {ow o1 : Option Nat} {w w1 w2 : World} {L' : List Int} (k1 : Kept (fun k => k = bw ∨ ow = some k) w w1) (o : o1 = ow ∨ ∀ g, o1 = some g → w.heap.size ≤ g) (h : WTo base bw o1 w1 L' w2) : WTo base bw ow w L' w2 := by
  obtain ⟨o2, h1, h2, h3⟩ := h
  refine ⟨o2, h1, k1.trans h2 (fun i hi e => ?_), ?_⟩
  · rcases e with e | e
    · exact .inl e
    · rcases o with o | o
      · exact .inr (by rw [← o]; exact e)
      · have := o i e; omega
  · rcases h3 with h3 | h3
    · rcases o with o | o
      · exact .inl (h3.trans o)
      · exact .inr (fun g e => o g (h3.symm.trans e))
    · exact .inr (fun g e => by have := h3 g e; have := k1.size; omega)
/-- One behind the other. -/
theorem WTo.next {base bw : Nat} {ow : Option Nat} {w w1 w2 : World} {L L' : List Int} (h : WTo base bw ow w L w1) (k : ∀ o1, WS base bw o1 w1 L → WTo base bw o1 w1 L' w2) : WTo base bw ow w L' w2 := by
  obtain ⟨o1, h1, h2, h3⟩ := h
  exact WTo.trans h2 h3 (k o1 h1)
/-- What lies elsewhere stays. -/
theorem WTo.heap {base bw : Nat} {ow : Option Nat} {w w1 : World} {L : List Int} (h : WTo base bw ow w L w1) {b : Nat} {o : Obj} (hb : w.heap[b]? = some o) (hn : ¬ (b = bw ∨ ow = some b)) : w1.heap[b]? = some o := by
  obtain ⟨_, _, k, _⟩ := h
  exact k.heap hb hn
theorem WTo.size {base bw : Nat} {ow : Option Nat} {w w1 : World} {L : List Int} (h : WTo base bw ow w L w1) : w.heap.size ≤ w1.heap.size := by obtain ⟨_, _, k, _⟩ := h; exact k.size
theorem WTo.blw {base bw : Nat} {ow : Option Nat} {w w1 : World} {L : List Int} (h : WTo base bw ow w L w1) {B : Nat} (hB : B ≤ w.heap.size) (h1 : B ≤ bw) (h2 : ∀ g, ow = some g → B ≤ g) : Below B w w1 := by
  obtain ⟨_, _, k, _⟩ := h
  refine k.below hB (fun i hi e => ?_)
  rcases e with e | e
  · omega
  · have := h2 i e; omega
/-- The end of a call that lays. -/
def WRet (base bw : Nat) (ow : Option Nat) (w : World) (L : List Int) (v : Value) (e : Ending) (w' : World) : Prop := e = .returned v ∧ WTo base bw ow w L w'

theorem newW (w : World) : Calls Tryz.prog 45 #[] w fun e w' => e = .returned (.pointer (some ⟨w.heap.size, 0, none⟩)) ∧ WS w.heap.size w.heap.size none w' [] ∧ Below w.heap.size w w' := by
  refine (newWriter_any w).mono ?_
  rintro e w' ⟨rfl, rfl⟩
  refine ⟨rfl, ⟨.slice none 0 0, [], 0, 0, ⟨heap_new w _, ⟨rfl, .inl ⟨rfl, rfl⟩⟩, by decide, by decide, by decide, by simp⟩, rfl, rfl⟩, (Below.refl _ _).alloc (Nat.le_refl _) _⟩
theorem row_len {bs : List Int} {t : Int} {m : Nat} {L : List Int} (h : rowOf bs ++ bitsN t m = L) : L.length = 8 * bs.length + m := by rw [← h, List.length_append, rowOf_length, bitsN_length]
theorem bitsW {base bw : Nat} {ow : Option Nat} {w : World} {L : List Int} (h : WS base bw ow w L) (hb : base ≤ w.heap.size) (hl : L.length ≤ 1000000000000) (x n : Int) (hn : 0 ≤ n ∧ n ≤ 24) :
    Calls Tryz.prog 63 #[.pointer (some ⟨bw, 0, none⟩), .int .i64 x, .int .i64 n] w (WRet base bw ow w (L ++ bitsN x n.toNat) (.tuple #[])) := by
  obtain ⟨v, bs, t, m, h, hr, ho⟩ := h
  have hrl := row_len hr
  obtain ⟨k, rfl⟩ : ∃ k : Nat, n = k := ⟨n.toNat, by omega⟩
  refine (wbits_yes base bw v bs t m x k w h (by omega) (by omega) hb).mono ?_
  rintro e w' ⟨rfl, v', bs', t', m', h1, h2, h3, h4⟩
  refine ⟨rfl, v'.ownBlock, ⟨v', bs', t', m', h1, by rw [h2, hr, Int.toNat_natCast], rfl⟩, h3.mono (fun i _ e => ?_), ?_⟩
  · rw [← ho]; exact e
  · rw [← ho]; exact h4
theorem alignW {base bw : Nat} {ow : Option Nat} {w : World} {L : List Int} (h : WS base bw ow w L) (hb : base ≤ w.heap.size) (hl : L.length ≤ 1000000000000) :
    Calls Tryz.prog 62 #[.pointer (some ⟨bw, 0, none⟩)] w (WRet base bw ow w (L ++ bitsN 0 (pad L.length)) (.tuple #[])) := by
  obtain ⟨v, bs, t, m, h, hr, ho⟩ := h
  have hrl := row_len hr
  refine (walign_any base bw v bs t m w h (by omega) hb).mono ?_
  rintro e w' ⟨rfl, v', bs', h1, h2, h3, h4⟩
  refine ⟨rfl, v'.ownBlock, ⟨v', bs', 0, 0, h1, by rw [h2, hr, hrl]; simp [bitsN], rfl⟩, h3.mono (fun i _ e => ?_), ?_⟩
  · rw [← ho]; exact e
  · rw [← ho]; exact h4
theorem bytesW {base bw B : Nat} {ow : Option Nat} {w : World} {L : List Int} (h : WS base bw ow w L) (hb : base ≤ w.heap.size) (hl : L.length ≤ 100000000000) (a : Option Addr) (len cap : Nat) (zs : List Int) (ht : Text B w a len zs) (hnil : a = none → len = 0 ∧ cap = 0) (hB : B ≤ base) (hBw : B ≤ bw) (hlen : len ≤ 100000000000) :
    Calls Tryz.prog 64 #[.pointer (some ⟨bw, 0, none⟩), .slice a len cap] w (WRet base bw ow w (L ++ bitsN 0 (pad L.length) ++ rowOf zs) (.tuple #[])) := by
  obtain ⟨v, bs, t, m, h, hr, ho⟩ := h
  have hrl := row_len hr
  refine (wbytes_any base bw B v bs t m a len cap zs w h ht hnil hB hBw (by omega) hlen hb).mono ?_
  rintro e w' ⟨rfl, v', bs', h1, h2, h3, h4⟩
  refine ⟨rfl, v'.ownBlock, ⟨v', bs', 0, 0, h1, by rw [h2, hr, hrl]; simp [bitsN], rfl⟩, h3.mono (fun i _ e => ?_), ?_⟩
  · rw [← ho]; exact e
  · rw [← ho]; exact h4
theorem lenW {base bw : Nat} {ow : Option Nat} {w : World} {L : List Int} (h : WS base bw ow w L) (hl : L.length ≤ 1000000000000) :
    Calls Tryz.prog 115 #[.pointer (some ⟨bw, 0, none⟩)] w fun e w' => e = .returned (.int .i64 (L.length : Int)) ∧ ∃ q, w' = w.drewN q := by
  obtain ⟨v, bs, t, m, h, hr, ho⟩ := h
  have hrl := row_len hr
  refine (len_any base bw v bs t m w h (by omega)).mono ?_
  rintro e w' ⟨rfl, h⟩
  exact ⟨by rw [hrl, Nat.mul_comm], h⟩
theorem WTo.bits {base bw : Nat} {ow : Option Nat} {w wx : World} {L : List Int} (h : WTo base bw ow w L wx) (hb : base ≤ w.heap.size) (hl : L.length ≤ 1000000000000) (x n : Int) (hn : 0 ≤ n ∧ n ≤ 24) :
    Calls Tryz.prog 63 #[.pointer (some ⟨bw, 0, none⟩), .int .i64 x, .int .i64 n] wx fun e w' => e = .returned (.tuple #[]) ∧ WTo base bw ow w (L ++ bitsN x n.toNat) w' := by
  obtain ⟨o, s, k, oo⟩ := h
  refine (bitsW s (by have := k.size; omega) hl x n hn).mono ?_
  rintro e w' ⟨rfl, k2⟩
  exact ⟨rfl, WTo.trans k oo k2⟩
/-- The bytes of the bits. -/
theorem dataW {base bw : Nat} {ow : Option Nat} {w : World} {L : List Int} (h : WS base bw ow w L) (hl : L.length ≤ 1000000000) :
    Calls Tryz.prog 47 #[.pointer (some ⟨bw, 0, none⟩)] w fun e w' => ∃ g cap, e = .returned (.slice (some ⟨g, 0, none⟩) (dataL L).length cap) ∧ OwnsB w' w.heap.size (.slice (some ⟨g, 0, none⟩) (dataL L).length cap) (dataL L) ∧ Below w.heap.size w w' := by
  obtain ⟨v, bs, t, m, h, hr, ho⟩ := h
  have hrl := row_len hr
  have e := dataL_row bs t m h.bytes h.t0 h.t1 h.m1
  rw [hr] at e
  rw [e]
  exact data_any base bw v bs t m w h (by omega)

/-- The code of a Make, wherever it lies. -/
def CAt (w : World) (bc : Nat) (ls : List Int) : Prop := ∃ lo hi gl gc vo N, CodeAt lo hi w bc gl gc vo N ls
theorem CAt.kept {w w' : World} {bc : Nat} {ls : List Int} {base bw : Nat} {ow : Option Nat} {L L' : List Int} (h : CAt w bc ls) (hw : WS base bw ow w L) (k : WTo base bw ow w L' w') : CAt w' bc ls := by
  obtain ⟨lo, hi, gl, gc, vo, N, h⟩ := h
  obtain ⟨_, _, k, _⟩ := k
  refine ⟨lo, hi, gl, gc, vo, N, ?_⟩
  have hord : ∀ g, vo.ownBlock = some g → ¬ (g = bw ∨ ow = some g) := fun g hg => by
    obtain ⟨h1, h2⟩ := h.ord
    rcases h2 with ⟨rfl, _⟩ | ⟨g', cap, cur, rfl, hg', hh, _⟩
    · simp [Value.ownBlock] at hg
    · simp only [Value.ownBlock, Option.some.injEq] at hg
      subst hg
      exact hw.apart hh (by decide) (by decide)
  exact ⟨k.heap h.block (hw.apart h.block (by decide) (by decide)), k.heap h.lens (hw.apart h.lens (by decide) (by decide)), k.heap h.codes (hw.apart h.codes (by decide) (by decide)), Owns.kept h.ord k hord, h.ordlt, h.long, h.inb, h.inl, h.inc⟩
theorem CAt.below {w w' : World} {bc : Nat} {ls : List Int} (h : CAt w bc ls) (k : Below w.heap.size w w') : CAt w' bc ls := by
  obtain ⟨lo, hi, gl, gc, vo, N, h⟩ := h
  refine ⟨lo, hi, gl, gc, vo, N, ?_⟩
  have e : ∀ {b : Nat} {o : Obj}, w.heap[b]? = some o → w'.heap[b]? = some o := fun hb => (k.block _ (lt_of_block hb)).trans hb
  exact ⟨e h.block, e h.lens, e h.codes, Owns.kept h.ord (Kept.of_below k) (fun g hg => by have := (ownsRow_lt h.ord hg).2; omega), h.ordlt, h.long, h.inb, h.inl, h.inc⟩
end Go.Proofs.YteknifnadbmfiaaGreatDoor

/- Put into a writer that lies wherever it lies; the closures that lay symbols: contracts. -/
namespace Go.Proofs.YteknifnadbmfiaaGreatDoor
set_option maxRecDepth 100000
open Go Go.RowKit

set_option maxHeartbeats 2000000 in
theorem put_at (lo hi bc gl gc bw base : Nat) (vo v : Value) (N : Nat) (ls bs : List Int) (t : Int) (m s n : Nat) (w : World) (hc : CodeAt lo hi w bc gl gc vo N ls) (hg : Good ls) (hs : s < ls.length) (hl : ln ls s = (n : Int)) (hn : 1 ≤ n)
    (h : Wr base bw w v bs t m) (hb : bs.length ≤ 1000000000) (hbase : base ≤ w.heap.size) :
    Calls Tryz.prog 89 #[.pointer (some ⟨bc, 0, none⟩), .pointer (some ⟨bw, 0, none⟩), .int .i64 (s : Int)] w fun e w' => e = .returned (.bool true) ∧ ∃ v' bs' t' m', Wr base bw w' v' bs' t' m' ∧ rowOf bs' ++ bitsN t' m' = rowOf bs ++ bitsN t m ++ rowL (cd ls s) n ∧ Kept (fun k => k = bw ∨ v.ownBlock = some k) w w' ∧ (v'.ownBlock = v.ownBlock ∨ ∀ g, v'.ownBlock = some g → w.heap.size ≤ g) := by
  have hmf : ∀ (fn : Fn) (first cap : Array Value) (w : World), (Instr.makeFunc fn first cap).run Tryz.prog w = .ok (.func fn first cap) w := fun _ _ _ _ => rfl
  have hn15 : n ≤ 15 := by have := ln_fit hg.fit s; omega
  have hcd := (cd_lt hg.le hg.fit hs (by omega)).2
  rw [hl, Int.toNat_natCast] at hcd
  have c17 := cells_of hc.block 17
  have c18 := cells_of hc.block 18
  have cl := cells_of hc.lens s
  have cg := cells_of hc.codes s
  rw [codeA_17] at c17
  rw [codeA_18] at c18
  rw [valA_at ls hs, hl] at cl
  rw [valA_at _ (by rw [codesL_length]; exact hs), codesL_at ls hs, if_pos (by omega)] at cg
  have HLAY : Hid (Calls Tryz.prog 114 #[.func (.func 63) #[.pointer (some ⟨bw, 0, none⟩)] #[], .int .i64 (cd ls s : Int), .int .i64 (n : Int)] w.drew fun e w' => e = .returned (.tuple #[]) ∧ ∃ v' bs' t' m', Wr base bw w' v' bs' t' m' ∧ rowOf bs' ++ bitsN t' m' = rowOf bs ++ bitsN t m ++ rowL (cd ls s) n ∧ Kept (fun k => k = bw ∨ v.ownBlock = some k) w.drew w' ∧ (v'.ownBlock = v.ownBlock ∨ ∀ g, v'.ownBlock = some g → w.drew.heap.size ≤ g)) :=
    lay_c base bw v bs t m (cd ls s) n w.drew ⟨h.block, h.owns.drew, h.t0, h.t1, h.m1, h.bytes⟩ hn15 hb hbase
  have HC : Hid (CodeAt lo hi w bc gl gc vo N ls) := hc
  have i1 : (0 : Int) ≤ (s : Int) := by omega
  have i2 : (s : Int) < (ls.length : Int) := by omega
  have i3 : ((n : Int) == 0) = false := by simp; omega
  have i4 : ((ls.length : Int) ≤ (s : Int)) = False := by simp; omega
  have hws : WS base bw v.ownBlock w (rowOf bs ++ bitsN t m) := ⟨v, bs, t, m, h, rfl, rfl⟩
  have hbcw := hws.apart hc.block (by decide) (by decide)
  have hglw := hws.apart hc.lens (by decide) (by decide)
  have hgcw := hws.apart hc.codes (by decide) (by decide)
  have lb := lt_of_block hc.block
  have ll := lt_of_block hc.lens
  have lc := lt_of_block hc.codes
  have HO : Hid (¬ (bc = bw ∨ v.ownBlock = some bc) ∧ ¬ (gl = bw ∨ v.ownBlock = some gl) ∧ ¬ (gc = bw ∨ v.ownBlock = some gc)) := ⟨hbcw, hglw, hgcw⟩
  generalize cd ls s = C at cg HLAY ⊢
  clear h hc hl hcd hbcw hglw hgcw hws
  go_enter Tryz.func89, Tryz.ntmps89
  go_wp2
  go_region_held3 (fun w' => w'.cell? ⟨bc, 17, none⟩ = some (.slice (some ⟨gl, 0, none⟩) ls.length ls.length) ∧ w'.cell? ⟨bc, 18, none⟩ = some (.slice (some ⟨gc, 0, none⟩) ls.length ls.length) ∧ w'.cell? ⟨gl, s, none⟩ = some (.int .i64 (n : Int)) ∧ w'.cell? ⟨gc, s, none⟩ = some (.int .i64 (C : Int))) (first | go_keep | assumption) ((go_at_call 114; refine HLAY.out.mono ?_; rintro e w1 ⟨rfl, v', bs', t', m', hwr, hrow, hk, hob⟩; have H1 : Hid (∃ v' bs' t' m', Wr base bw w1 v' bs' t' m' ∧ rowOf bs' ++ bitsN t' m' = rowOf bs ++ bitsN t m ++ rowL C n ∧ Kept (fun k => k = bw ∨ v.ownBlock = some k) w w1 ∧ (v'.ownBlock = v.ownBlock ∨ ∀ g, v'.ownBlock = some g → w.heap.size ≤ g)) := ⟨v', bs', t', m', hwr, hrow, ⟨hk.os, hk.tape, hk.output, hk.size, hk.block⟩, hob⟩; have q1 : w1.cell? ⟨bc, 17, none⟩ = some (.slice (some ⟨gl, 0, none⟩) ls.length ls.length) := (hk.cell (p := ⟨bc, 17, none⟩) (by exact lb) HO.out.1).trans c17; have q2 : w1.cell? ⟨bc, 18, none⟩ = some (.slice (some ⟨gc, 0, none⟩) ls.length ls.length) := (hk.cell (p := ⟨bc, 18, none⟩) (by exact lb) HO.out.1).trans c18; have q3 : w1.cell? ⟨gl, s, none⟩ = some (.int .i64 (n : Int)) := (hk.cell (p := ⟨gl, s, none⟩) (by exact ll) HO.out.2.1).trans cl; have q4 : w1.cell? ⟨gc, s, none⟩ = some (.int .i64 (C : Int)) := (hk.cell (p := ⟨gc, s, none⟩) (by exact lc) HO.out.2.2).trans cg; clear hwr hrow hk hob))
  all_goals go_wp2
  all_goals go_ret
  all_goals exact ⟨rfl, H1.out⟩

theorem putW {base bw bc : Nat} {ow : Option Nat} {w : World} {L ls : List Int} {s : Nat} (hc : CAt w bc ls) (hg : Good ls) (hs : Has ls s) (h : WS base bw ow w L) (hb : base ≤ w.heap.size) (hl : L.length ≤ 1000000000) :
    Calls Tryz.prog 89 #[.pointer (some ⟨bc, 0, none⟩), .pointer (some ⟨bw, 0, none⟩), .int .i64 (s : Int)] w (WRet base bw ow w (L ++ rowL (cd ls s) (ln ls s).toNat) (.bool true)) := by
  obtain ⟨lo, hi, gl, gc, vo, N, hc⟩ := hc
  obtain ⟨v, bs, t, m, h, hr, ho⟩ := h
  have hrl := row_len hr
  have h1 := hs.2
  refine (put_at lo hi bc gl gc bw base vo v N ls bs t m s (ln ls s).toNat w hc hg hs.1 (by omega) (by omega) h (by omega) hb).mono ?_
  rintro e w' ⟨rfl, v', bs', t', m', h1, h2, h3, h4⟩
  refine ⟨rfl, v'.ownBlock, ⟨v', bs', t', m', h1, by rw [h2, hr], rfl⟩, h3.mono (fun i _ e => ?_), ?_⟩
  · rw [← ho]; exact e
  · rw [← ho]; exact h4

/-- A mark, as a value. -/
def mkV (m : Mk) : Value := .agg #[.int .i64 (m.1 : Int), .int .i64 (m.2.1 : Int), .int .i64 (m.2.2 : Int)]
theorem byCode_c (bw bc : Nat) (w : World) : Calls Tryz.prog 68 #[.pointer (some ⟨bw, 0, none⟩), .pointer (some ⟨bc, 0, none⟩)] w fun e w' => e = .returned (.func (.func 88) #[] #[.pointer (some ⟨w.heap.size + 1, 0, none⟩), .pointer (some ⟨w.heap.size, 0, none⟩)]) ∧ w' = (w.alloc (.cells #[.pointer (some ⟨bw, 0, none⟩)] 93)).alloc (.cells #[.pointer (some ⟨bc, 0, none⟩)] 129) := by
  have hmf : ∀ (fn : Fn) (first cap : Array Value) (w : World), (Instr.makeFunc fn first cap).run Tryz.prog w = .ok (.func fn first cap) w := fun _ _ _ _ => rfl
  go_enter Tryz.func68, Tryz.ntmps68
  go_wp2
  go_ret
  exact ⟨rfl, rfl⟩
/-- What a closure of byCode holds. -/
structure ByAt (w : World) (b1 b2 bw bc : Nat) : Prop where
  c : w.heap[b1]? = some (.cells #[.pointer (some ⟨bc, 0, none⟩)] 129 (0, 0))
  w : w.heap[b2]? = some (.cells #[.pointer (some ⟨bw, 0, none⟩)] 93 (0, 0))
theorem ByAt.kept {w w' : World} {b1 b2 bw bc base : Nat} {ow : Option Nat} {L L' : List Int} (h : ByAt w b1 b2 bw bc) (hw : WS base bw ow w L) (k : WTo base bw ow w L' w') : ByAt w' b1 b2 bw bc :=
  ⟨k.heap h.c (hw.apart h.c (by decide) (by decide)), k.heap h.w (hw.apart h.w (by decide) (by decide))⟩
theorem ByAt.below {w w' : World} {b1 b2 bw bc : Nat} (h : ByAt w b1 b2 bw bc) (k : Below w.heap.size w w') : ByAt w' b1 b2 bw bc :=
  ⟨(k.block _ (lt_of_block h.c)).trans h.c, (k.block _ (lt_of_block h.w)).trans h.w⟩
set_option maxHeartbeats 1000000 in
theorem byCode1_c {base bw bc b1 b2 : Nat} {ow : Option Nat} {w : World} {L ls : List Int} {m : Mk} (hby : ByAt w b1 b2 bw bc) (hc : CAt w bc ls) (hg : Good ls) (hs : Has ls m.1) (hm : m.2.2 ≤ 24) (h : WS base bw ow w L) (hb : base ≤ w.heap.size) (hl : L.length ≤ 900000000) :
    Calls Tryz.prog 88 #[mkV m, .pointer (some ⟨b1, 0, none⟩), .pointer (some ⟨b2, 0, none⟩)] w (WRet base bw ow w (L ++ mkB ls m) (.tuple #[])) := by
  obtain ⟨s, x, n⟩ := m
  unfold mkV
  obtain ⟨w0, hw0⟩ : ∃ w0, w0 = w.alloc (.cells #[.int .i64 (s : Int), .int .i64 (x : Int), .int .i64 (n : Int)] 163) := ⟨_, rfl⟩
  have bl0 : Below w.heap.size w w0 := by rw [hw0]; exact (Below.refl _ _).alloc (Nat.le_refl _) _
  have hby0 := hby.below bl0
  have hc0 := hc.below bl0
  have h0 := h.below bl0
  have hm0 : w0.heap[w.heap.size]? = some (.cells #[.int .i64 (s : Int), .int .i64 (x : Int), .int .i64 (n : Int)] 163 (0, 0)) := by rw [hw0]; exact heap_new w _
  have k0 : Kept (fun k => k = bw ∨ ow = some k) w w0 := (Kept.of_below bl0).mono (fun i hi e => by omega)
  have hsz0 : base ≤ w0.heap.size := by have := bl0.size; omega
  have HP := hide (putW hc0 hg hs h0 hsz0 (by omega))
  have c1 := cells_of hby0.c 0
  have c2 := cells_of hby0.w 0
  have m0 := cells_of hm0 0
  have m1 := cells_of hm0 1
  have m2 := cells_of hm0 2
  have HB0 := hide hby0
  have HM0 := hide hm0
  have HW0 := hide h0
  have HK0 := hide k0
  have hll : (rowL (cd ls s) (ln ls s).toNat).length ≤ 15 := by rw [rowL_length]; have := ln_fit hg.fit s; omega
  simp at c1 c2 m0 m1 m2
  have HE : Hid (w.alloc (.cells #[.int .i64 (s : Int), .int .i64 (x : Int), .int .i64 (n : Int)] 163) = w0) := hw0.symm
  clear hby0 hm0 h0 k0 hw0 bl0 h hc hby hc0
  go_enter Tryz.func88, Tryz.ntmps88
  go_upto_region 1 with fail
  rw [HE.out]
  go_upto_region 2 with (go_at_call 89; refine HP.out.mono ?_; rintro e w1 ⟨rfl, k1⟩; have HK1 := hide k1; clear k1)
  have hb1 := HB0.out.kept HW0.out HK1.out
  have hm1 := HK1.out.heap HM0.out (HW0.out.apart HM0.out (by decide) (by decide))
  have d2 := cells_of hb1.w 0
  have n1 := cells_of hm1 1
  have n2 := cells_of hm1 2
  simp at d2 n1 n2
  have hsz1 : base ≤ w1.heap.size := by have := HK1.out.size; omega
  clear hb1 hm1 c1 c2 m0 m1 m2 HE
  obtain ⟨o1, s1, k1, oo1⟩ := HK1.out
  have HB := hide (bitsW s1 hsz1 (by rw [List.length_append]; omega) (x : Int) (n : Int) (by omega))
  rw [Int.toNat_natCast] at HB
  have HK := hide k1
  have HO := hide oo1
  clear s1 k1 oo1
  go_wp2_with (go_at_call 63; refine HB.out.mono ?_; rintro e w2 ⟨rfl, k2⟩; have HK2 := hide k2; clear k2)
  go_end0
  refine ⟨rfl, ?_⟩
  have := WTo.trans HK.out HO.out HK2.out
  unfold mkB
  rw [← List.append_assoc]
  exact WTo.trans HK0.out (.inl rfl) this
theorem WTo.mark {base bw bc b1 b2 : Nat} {ow : Option Nat} {w wx : World} {L ls : List Int} {m : Mk} (h : WTo base bw ow w L wx) (hb : base ≤ w.heap.size) (hby : ByAt wx b1 b2 bw bc) (hc : CAt wx bc ls) (hg : Good ls) (hs : Has ls m.1) (hm : m.2.2 ≤ 24) (hl : L.length ≤ 900000000) :
    Calls Tryz.prog 88 #[mkV m, .pointer (some ⟨b1, 0, none⟩), .pointer (some ⟨b2, 0, none⟩)] wx fun e w' => e = .returned (.tuple #[]) ∧ WTo base bw ow w (L ++ mkB ls m) w' ∧ ByAt w' b1 b2 bw bc ∧ CAt w' bc ls ∧ ∃ o, WS base bw o wx L ∧ WTo base bw o wx (L ++ mkB ls m) w' := by
  obtain ⟨o, s, k, oo⟩ := h
  refine (byCode1_c hby hc hg hs hm s (by have := k.size; omega) hl).mono ?_
  rintro e w' ⟨rfl, k2⟩
  exact ⟨rfl, WTo.trans k oo k2, hby.kept s k2, hc.kept s k2, o, s, k2⟩
end Go.Proofs.YteknifnadbmfiaaGreatDoor

/- split, longMark, backMark: contracts. -/
namespace Go.Proofs.YteknifnadbmfiaaGreatDoor
set_option maxRecDepth 100000
open Go Go.RowKit

/-- The steps of split. -/
theorem infoMk : (Tryz.prog.info? 163).map (·.size) = some 3 := by kernel_rfl
theorem split1_c (n : Nat) (hn : n < 65536) (w : World) :
    Calls Tryz.prog 113 #[.int .i64 (n : Int), .int .i64 1] w fun e w' => e = .returned (mkV (spl 1 n)) ∧ Below w.heap.size w w' := by
  obtain ⟨w0, hw0⟩ : ∃ w0, w0 = w.alloc (.cells #[.int .i64 0, .int .i64 0, .int .i64 0] 163) := ⟨_, rfl⟩
  have HW0 := hide hw0
  have HR : Hid (∀ f X : Nat, f < 20 → n / 2 ^ f = X → X < 4 → (∀ g, g < f → 4 ≤ n / 2 ^ g) → Ending.returned (.agg #[.int .i64 ((f : Int) * 2 + (X : Int)), .int .i64 (bits .and .i64 (n : Int) (wrap64 (wrap64 (2 ^ f) - 1))), .int .i64 (f : Int)]) = .returned (mkV (spl 1 n))) := fun f X h1 h2 h3 h4 => by
    have e := spf_is (k := 4) h1 (by omega) h4
    have hp := pow_pos' f
    have hq := pow_le_62 (n := f) (by omega)
    have e1 : wrap64 (wrap64 (2 ^ f) - 1) = 2 ^ f - 1 := by rw [wrap_pow (by omega)]; exact IntWalk.wrap64_in _ ⟨by omega, by omega⟩
    rw [e1, and_mask _ f (by omega)]
    unfold mkV spl
    rw [show 2 * 2 ^ 1 = 4 from rfl, e, h2]
    simp
  generalize spl 1 n = Y at HR ⊢
  go_enter Tryz.func113, Tryz.ntmps113
  go_upto_region 2 with fail
  go_loopg [5] 20 (fun gk v5 wx => ∃ f q : Nat, f + gk = 20 ∧ v5 = .int .i64 f ∧ Hid (∀ g, g < f → 4 ≤ n / 2 ^ g) ∧ wx = w0.drewN q)
  case atStart => exact ⟨0, 0, by omega, rfl, fun g hg => by omega, hw0.symm⟩
  case round =>
    obtain ⟨f, q, hfg, rfl, HG, rfl⟩ := hrel
    have h0f : (0 : Int) ≤ (f : Int) := by omega
    have hc : (n : Int) / 2 ^ f = ((n / 2 ^ f : Nat) : Int) := by simp
    have hb0 : (w0.drewN q).heap[w.heap.size]? = some (.cells #[.int .i64 0, .int .i64 0, .int .i64 0] 163 (0, 0)) := by rw [hw0]; exact heap_new w _
    have hbel : Below w.heap.size w (w0.drewN q) := by rw [hw0]; exact (Kept.of_below ((Below.refl w.heap.size w).alloc (Nat.le_refl _) _)).drewN q |>.below (Nat.le_refl _) (fun i hi e => by omega)
    have HQ : Hid (∀ nq, (w0.drewN q).drewN nq = w0.drewN (q + nq)) := fun nq => World.drewN_drewN _ _ _
    generalize w0.drewN q = w1 at hb0 hbel HQ ⊢
    have HB := hide hbel
    have HB0 := hide hb0
    clear hw0 hbel hb0
    obtain ⟨X, hX⟩ : ∃ X, n / 2 ^ f = X := ⟨_, rfl⟩
    have HX := hide hX
    rw [hX] at hc
    cases gk with
    | zero =>
      exfalso
      have h20 : f = 20 := by omega
      subst h20
      have := HG.out 19 (by omega)
      omega
    | succ gk =>
    by_cases hlt : X < 4
    · have hd : ¬ (4 : Int) ≤ (n : Int) / 2 ^ f := by omega
      clear hX
      go_upto_region 2 with fail
      go_quiet (fail)
      go_wp2_with fail
      have kb : (w1.drewN nq).heap[w.heap.size]? = some (.cells #[.int .i64 0, .int .i64 0, .int .i64 0] 163 (0, 0)) := HB0.out
      have kB : Below w.heap.size w (w1.drewN nq) := (Kept.of_below HB.out).drewN nq |>.below (Nat.le_refl _) (fun i hi e => by omega)
      generalize w1.drewN nq = w2 at kb kB ⊢
      have c0 := cells_of kb 0
      have c1 := cells_of kb 1
      have c2 := cells_of kb 2
      have f0 := free_of kb 0
      have f1 := free_of kb 1
      have f2 := free_of kb 2
      simp at c0 c1 c2
      have KB := hide kb
      have KL := hide kB
      clear kb kB
      go_region
      go_wp2_with fail
      have hfin := set_of (set_of (set_of KB.out 0 (.int .i64 ((f : Int) * 2 + (X : Int)))) 1 (.int .i64 (bits .and .i64 (n : Int) (wrap64 (wrap64 (2 ^ f) - 1))))) 2 (.int .i64 (f : Int))
      refine bodyPost_ret (results_cell_row rfl _ _ w.heap.size 163 #[.int .i64 ((f : Int) * 2 + (X : Int)), .int .i64 (bits .and .i64 (n : Int) (wrap64 (wrap64 (2 ^ f) - 1))), .int .i64 (f : Int)] (0, 0) _ (by rfl) hfin Tryz.underlying163 rfl infoMk) rfl ⟨?_, ?_⟩
      · exact HR.out f X (by omega) HX.out hlt HG.out
      · exact (((KL.out.setCell (Nat.le_refl _) _).setCell (Nat.le_refl _) _).setCell (Nat.le_refl _) _).drew
    · have hd : (4 : Int) ≤ (n : Int) / 2 ^ f := by omega
      clear hX
      go_upto_region 2 with fail
      go_quiet (fail)
      go_wp2_with fail
      go_roundg gk
      case measure => omega
      case rel =>
        refine ⟨f + 1, q + nq, by omega, by go_num, fun g hg => ?_, HQ.out nq⟩
        by_cases e : g = f
        · subst e; rw [HX.out]; omega
        · exact HG.out g (by omega)

theorem split2_c (n : Nat) (hn : n < 65536) (w : World) :
    Calls Tryz.prog 113 #[.int .i64 (n : Int), .int .i64 2] w fun e w' => e = .returned (mkV (spl 2 n)) ∧ Below w.heap.size w w' := by
  obtain ⟨w0, hw0⟩ : ∃ w0, w0 = w.alloc (.cells #[.int .i64 0, .int .i64 0, .int .i64 0] 163) := ⟨_, rfl⟩
  have HW0 := hide hw0
  have HR : Hid (∀ f X : Nat, f < 20 → n / 2 ^ f = X → X < 8 → (∀ g, g < f → 8 ≤ n / 2 ^ g) → Ending.returned (.agg #[.int .i64 ((f : Int) * 4 + (X : Int)), .int .i64 (bits .and .i64 (n : Int) (wrap64 (wrap64 (2 ^ f) - 1))), .int .i64 (f : Int)]) = .returned (mkV (spl 2 n))) := fun f X h1 h2 h3 h4 => by
    have e := spf_is (k := 8) h1 (by omega) h4
    have hp := pow_pos' f
    have hq := pow_le_62 (n := f) (by omega)
    have e1 : wrap64 (wrap64 (2 ^ f) - 1) = 2 ^ f - 1 := by rw [wrap_pow (by omega)]; exact IntWalk.wrap64_in _ ⟨by omega, by omega⟩
    rw [e1, and_mask _ f (by omega)]
    unfold mkV spl
    rw [show 2 * 2 ^ 2 = 8 from rfl, e, h2]
    simp
  generalize spl 2 n = Y at HR ⊢
  go_enter Tryz.func113, Tryz.ntmps113
  go_upto_region 2 with fail
  go_loopg [5] 20 (fun gk v5 wx => ∃ f q : Nat, f + gk = 20 ∧ v5 = .int .i64 f ∧ Hid (∀ g, g < f → 8 ≤ n / 2 ^ g) ∧ wx = w0.drewN q)
  case atStart => exact ⟨0, 0, by omega, rfl, fun g hg => by omega, hw0.symm⟩
  case round =>
    obtain ⟨f, q, hfg, rfl, HG, rfl⟩ := hrel
    have h0f : (0 : Int) ≤ (f : Int) := by omega
    have hc : (n : Int) / 2 ^ f = ((n / 2 ^ f : Nat) : Int) := by simp
    have hb0 : (w0.drewN q).heap[w.heap.size]? = some (.cells #[.int .i64 0, .int .i64 0, .int .i64 0] 163 (0, 0)) := by rw [hw0]; exact heap_new w _
    have hbel : Below w.heap.size w (w0.drewN q) := by rw [hw0]; exact (Kept.of_below ((Below.refl w.heap.size w).alloc (Nat.le_refl _) _)).drewN q |>.below (Nat.le_refl _) (fun i hi e => by omega)
    have HQ : Hid (∀ nq, (w0.drewN q).drewN nq = w0.drewN (q + nq)) := fun nq => World.drewN_drewN _ _ _
    generalize w0.drewN q = w1 at hb0 hbel HQ ⊢
    have HB := hide hbel
    have HB0 := hide hb0
    clear hw0 hbel hb0
    obtain ⟨X, hX⟩ : ∃ X, n / 2 ^ f = X := ⟨_, rfl⟩
    have HX := hide hX
    rw [hX] at hc
    cases gk with
    | zero =>
      exfalso
      have h20 : f = 20 := by omega
      subst h20
      have := HG.out 19 (by omega)
      omega
    | succ gk =>
    by_cases hlt : X < 8
    · have hd : ¬ (8 : Int) ≤ (n : Int) / 2 ^ f := by omega
      clear hX
      go_upto_region 2 with fail
      go_quiet (fail)
      go_wp2_with fail
      have kb : (w1.drewN nq).heap[w.heap.size]? = some (.cells #[.int .i64 0, .int .i64 0, .int .i64 0] 163 (0, 0)) := HB0.out
      have kB : Below w.heap.size w (w1.drewN nq) := (Kept.of_below HB.out).drewN nq |>.below (Nat.le_refl _) (fun i hi e => by omega)
      generalize w1.drewN nq = w2 at kb kB ⊢
      have c0 := cells_of kb 0
      have c1 := cells_of kb 1
      have c2 := cells_of kb 2
      have f0 := free_of kb 0
      have f1 := free_of kb 1
      have f2 := free_of kb 2
      simp at c0 c1 c2
      have KB := hide kb
      have KL := hide kB
      clear kb kB
      go_region
      go_wp2_with fail
      have hfin := set_of (set_of (set_of KB.out 0 (.int .i64 ((f : Int) * 4 + (X : Int)))) 1 (.int .i64 (bits .and .i64 (n : Int) (wrap64 (wrap64 (2 ^ f) - 1))))) 2 (.int .i64 (f : Int))
      refine bodyPost_ret (results_cell_row rfl _ _ w.heap.size 163 #[.int .i64 ((f : Int) * 4 + (X : Int)), .int .i64 (bits .and .i64 (n : Int) (wrap64 (wrap64 (2 ^ f) - 1))), .int .i64 (f : Int)] (0, 0) _ (by rfl) hfin Tryz.underlying163 rfl infoMk) rfl ⟨?_, ?_⟩
      · exact HR.out f X (by omega) HX.out hlt HG.out
      · exact (((KL.out.setCell (Nat.le_refl _) _).setCell (Nat.le_refl _) _).setCell (Nat.le_refl _) _).drew
    · have hd : (8 : Int) ≤ (n : Int) / 2 ^ f := by omega
      clear hX
      go_upto_region 2 with fail
      go_quiet (fail)
      go_wp2_with fail
      go_roundg gk
      case measure => omega
      case rel =>
        refine ⟨f + 1, q + nq, by omega, by go_num, fun g hg => ?_, HQ.out nq⟩
        by_cases e : g = f
        · subst e; rw [HX.out]; omega
        · exact HG.out g (by omega)

theorem backMark_c (d : Nat) (hd : 1 ≤ d ∧ d ≤ 32768) (w : World) :
    Calls Tryz.prog 87 #[.int .i64 (d : Int)] w fun e w' => e = .returned (mkV (bmk d)) ∧ Below w.heap.size w w' := by
  obtain ⟨n, rfl⟩ : ∃ n, d = n + 1 := ⟨d - 1, by omega⟩
  have he : ((n + 1 : Nat) : Int) - 1 = (n : Int) := by omega
  have HS := fun w => hide (split1_c n (by omega) w)
  have HM : Hid (spl 1 n = bmk (n + 1)) := rfl
  obtain ⟨⟨s, x, f⟩, hm⟩ : ∃ m, spl 1 n = m := ⟨_, rfl⟩
  rw [hm] at HS HM
  unfold mkV at HS
  rw [← HM.out]
  unfold mkV
  have HB0 : Hid (Below w.heap.size w (w.alloc (.cells #[.int .i64 0, .int .i64 0, .int .i64 0] 163))) := (Below.refl _ _).alloc (Nat.le_refl _) _
  have HH0 : Hid ((w.alloc (.cells #[.int .i64 0, .int .i64 0, .int .i64 0] 163)).heap[w.heap.size]? = some (.cells #[.int .i64 0, .int .i64 0, .int .i64 0] 163 (0, 0))) := heap_new w _
  clear hm HM
  go_enter Tryz.func87, Tryz.ntmps87
  go_wp2_with (go_at_call 113; refine (HS _).out.mono ?_; rintro e w1 ⟨rfl, b1⟩; have hb := (b1.block w.heap.size (by simp)).trans HH0.out; have HB := hide hb; have B1 := hide (HB0.out.trans (b1.mono HB0.out.size)); have c0 := cells_of hb 0; have c1 := cells_of hb 1; have c2 := cells_of hb 2; have f0 := free_of hb 0; have f1 := free_of hb 1; have f2 := free_of hb 2; simp at c0 c1 c2; clear hb b1)
  have hfin := set_of (set_of (set_of HB.out 0 (.int .i64 (s : Int))) 1 (.int .i64 (x : Int))) 2 (.int .i64 (f : Int))
  refine bodyPost_ret (results_cell_row rfl _ _ w.heap.size 163 #[.int .i64 (s : Int), .int .i64 (x : Int), .int .i64 (f : Int)] (0, 0) _ (by rfl) hfin Tryz.underlying163 rfl infoMk) rfl ⟨rfl, ?_⟩
  exact ((B1.out.setCell (Nat.le_refl _) _).setCell (Nat.le_refl _) _).setCell (Nat.le_refl _) _

theorem longMark_c (l : Nat) (hl : 3 ≤ l ∧ l ≤ 258) (w : World) :
    Calls Tryz.prog 86 #[.int .i64 (l : Int)] w fun e w' => e = .returned (mkV (lmk l)) ∧ Below w.heap.size w w' := by
  have HB0 : Hid (Below w.heap.size w (w.alloc (.cells #[.int .i64 0, .int .i64 0, .int .i64 0] 163))) := (Below.refl _ _).alloc (Nat.le_refl _) _
  have HH0 : Hid ((w.alloc (.cells #[.int .i64 0, .int .i64 0, .int .i64 0] 163)).heap[w.heap.size]? = some (.cells #[.int .i64 0, .int .i64 0, .int .i64 0] 163 (0, 0))) := heap_new w _
  by_cases h8 : l = 258
  · subst h8
    rw [show lmk 258 = (285, 0, 0) from rfl]
    unfold mkV
    have c0 := cells_of HH0.out 0
    have c1 := cells_of HH0.out 1
    have c2 := cells_of HH0.out 2
    have f0 := free_of HH0.out 0
    have f1 := free_of HH0.out 1
    have f2 := free_of HH0.out 2
    simp at c0 c1 c2
    go_enter Tryz.func86, Tryz.ntmps86
    go_wp2
    refine bodyPost_ret (results_cell_row rfl _ _ w.heap.size 163 #[.int .i64 285, .int .i64 0, .int .i64 0] (0, 0) _ (by rfl) (heap_new w _) Tryz.underlying163 rfl infoMk) rfl ⟨rfl, ?_⟩
    exact (Below.refl _ _).alloc (Nat.le_refl _) _
  · obtain ⟨n, rfl⟩ : ∃ n, l = n + 3 := ⟨l - 3, by omega⟩
    have he : ((n + 3 : Nat) : Int) - 3 = (n : Int) := by omega
    have hne : (((n + 3 : Nat) : Int) == 258) = false := by simp; omega
    have HS := fun w => hide (split2_c n (by omega) w)
    have hlm := lmk_ok (n + 3) hl
    have HM : Hid (lmk (n + 3) = (257 + (spl 2 n).1, (spl 2 n).2)) := if_neg h8
    obtain ⟨⟨s, x, f⟩, hm⟩ : ∃ m, spl 2 n = m := ⟨_, rfl⟩
    rw [HM.out] at hlm
    rw [hm] at HS HM hlm
    unfold mkV at HS
    rw [HM.out]
    unfold mkV
    simp only at hlm
    have hs : s ≤ 28 := by omega
    have hsum : (s : Int) + 257 = ((257 + s : Nat) : Int) := by omega
    clear hm HM hlm
    go_enter Tryz.func86, Tryz.ntmps86
    go_wp2_with (go_at_call 113; refine (HS _).out.mono ?_; rintro e w1 ⟨rfl, b1⟩; have hb := (b1.block w.heap.size (by simp)).trans HH0.out; have HB := hide hb; have B1 := hide (HB0.out.trans (b1.mono HB0.out.size)); have hlt := lt_of_block hb; have c0 := cells_of hb 0; have c1 := cells_of hb 1; have c2 := cells_of hb 2; have f0 := free_of hb 0; have f1 := free_of hb 1; have f2 := free_of hb 2; simp at c0 c1 c2; clear hb b1)
    have h0 := set_of (set_of (set_of HB.out 0 (.int .i64 (257 + (s : Int)))) 1 (.int .i64 (x : Int))) 2 (.int .i64 (f : Int))
    have hfin := (Below.heap_alloc _ (.cells #[.int .i64 (257 + (s : Int)), .int .i64 (x : Int), .int .i64 (f : Int)] 163) _ (lt_of_block h0)).trans h0
    refine bodyPost_ret (results_cell_row rfl _ _ w.heap.size 163 #[.int .i64 (257 + (s : Int)), .int .i64 (x : Int), .int .i64 (f : Int)] (0, 0) _ (by rfl) hfin Tryz.underlying163 rfl infoMk) rfl ⟨by simp, ?_⟩
    have b2 := ((B1.out.setCell (p := ⟨w.heap.size, 0, none⟩) (Nat.le_refl _) (.int .i64 (257 + (s : Int)))).setCell (p := ⟨w.heap.size, 1, none⟩) (Nat.le_refl _) (.int .i64 (x : Int))).setCell (p := ⟨w.heap.size, 2, none⟩) (Nat.le_refl _) (.int .i64 (f : Int))
    exact b2.alloc b2.size _
end Go.Proofs.YteknifnadbmfiaaGreatDoor

/- Tokens as bits, and blocks of them, read. Of no program. -/
namespace Go.Proofs.YteknifnadbmfiaaGreatDoor
set_option maxRecDepth 100000
open Go Go.RowKit

theorem iCpy_cpy (out : List Int) (d n : Nat) : iCpy out d n = M.cpy out d n := by
  induction n with
  | zero => rfl
  | succ n ih => rw [iCpy_succ, ih, M.cpy, M.cpy_length]; rfl
/-- A token's bits. -/
def tokB (S D : List Int) (t : M.Tk) : List Int := if t.2.1 = 0 then mkB S (t.1.toNat, 0, 0) else mkB S (lmk t.2.1.toNat) ++ mkB D (bmk t.2.2.toNat)
def datB (S D : List Int) (ts : List M.Tk) : List Int := ts.flatMap (tokB S D) ++ mkB S (256, 0, 0)
/-- A token's symbols have codes. -/
def THas (S D : List Int) (t : M.Tk) : Prop := (t.2.1 = 0 → Has S t.1.toNat) ∧ (¬ t.2.1 = 0 → Has S (lmk t.2.1.toNat).1 ∧ Has D (bmk t.2.2.toNat).1)
theorem datB_cons (S D : List Int) (t : M.Tk) (ts : List M.Tk) : datB S D (t :: ts) = tokB S D t ++ datB S D ts := by simp [datB]
theorem rt_at {pre ts : List M.Tk} {t : M.Tk} (h : M.Rt (pre ++ t :: ts)) : M.OkT (M.sm pre) t := by
  have := h pre.length (by simp)
  rwa [List.take_left', show M.tk (pre ++ t :: ts) pre.length = t by simp [M.tk, List.getD]] at this
  rfl
theorem tel_mono {pre ts : List M.Tk} (h : M.Rt (pre ++ ts)) : (M.tel pre).length ≤ (M.tel (pre ++ ts)).length := by
  have h1 := M.tel_length h
  have h2 := M.tel_length h.of_app
  induction ts generalizing pre with
  | nil => simp
  | cons t ts ih =>
    have e : pre ++ t :: ts = (pre ++ [t]) ++ ts := by simp
    rw [e] at h h1 ⊢
    have h3 := M.tel_length h.of_app
    have h4 := ih h h1 h3
    have h5 : ((M.tel (pre ++ [t])).length : Int) = (M.tel pre).length + M.tl t := by
      rw [M.tel_snoc]
      exact M.tel1_length _ (rt_at (pre := pre) (t := t) (ts := []) h.of_app)
    have h6 := (rt_at (pre := pre) (t := t) (ts := []) h.of_app).tl
    omega
theorem one_read {S D : List Int} (hS : Good S) (hD : Good D) {b : Nat → Nat} (hb : ∀ i, b i ≤ 1) {T most p : Nat} {pre : List M.Tk} {t : M.Tk} (hr : M.Rt (pre ++ [t])) (h8 : 0 ≤ t.1 ∧ t.1 ≤ 255) (hh : THas S D t) (h : BAt b T p (tokB S D t)) (hm : (M.tel (pre ++ [t])).length ≤ most) :
    iOne S D b T most p (M.tel pre) = .ok (p + (tokB S D t).length, (true, M.tel (pre ++ [t]))) ∧ 1 ≤ (tokB S D t).length := by
  have hok := rt_at hr
  have hlen := M.tel_length hr.of_app
  have hl1 : ((M.tel (pre ++ [t])).length : Int) = (M.tel pre).length + M.tl t := by
    rw [M.tel_snoc]
    exact M.tel1_length _ hok
  by_cases h0 : t.2.1 = 0
  · have hs := hh.1 h0
    have hl := hs.2
    have e : tokB S D t = mkB S (t.1.toNat, 0, 0) := if_pos h0
    rw [e] at h ⊢
    have hn := h.left.nx hS hb hs
    have htl : M.tl t = 1 := if_pos h0
    have := iOne_byte (D := D) (most := most) (out := M.tel pre) hn (by omega) (by omega)
    rw [this, mkB_length]
    refine ⟨?_, by show 1 ≤ (ln S t.1.toNat).toNat + 0; omega⟩
    rw [M.tel_snoc]
    unfold M.tel1
    rw [if_pos h0]
    have e1 : ((t.1.toNat : Nat) : Int) = t.1 := by omega
    simp only [Nat.add_zero, e1]
  · obtain ⟨hs, hd⟩ := hh.2 h0
    rcases hok with hok | ⟨_, k1, k2, k3, k4, k5⟩
    · exact absurd hok.1 h0
    have e : tokB S D t = mkB S (lmk t.2.1.toNat) ++ mkB D (bmk t.2.2.toNat) := if_neg h0
    rw [e] at h ⊢
    obtain ⟨l1, l2, l3, l4, l5, l6⟩ := lmk_ok t.2.1.toNat (by omega)
    obtain ⟨b1, b2, b3, b4, b5⟩ := bmk_ok t.2.2.toNat (by omega)
    obtain ⟨n1, n2⟩ := h.left.mark hS hb hs l5
    obtain ⟨d1, d2⟩ := h.right.mark hD hb hd b4
    have hl := hs.2
    refine ⟨?_, by rw [List.length_append, mkB_length]; omega⟩
    unfold iOne
    rw [iThen_of_ok n1]
    try simp only
    rw [if_neg (by omega), if_neg (by omega), if_neg (by omega), l3, iThen_of_ok n2]
    try simp only
    rw [iThen_of_ok d1]
    try simp only
    rw [if_neg (by omega), b2, iThen_of_ok d2]
    try simp only
    rw [l4, b3]
    have htl : M.tl t = t.2.1 := if_neg h0
    rw [if_neg (by omega), if_neg (by omega), iCpy_cpy, M.tel_snoc]
    unfold M.tel1
    rw [if_neg h0, List.length_append, Nat.add_assoc]
theorem dat_read {S D : List Int} (hS : Good S) (hD : Good D) {b : Nat → Nat} (hb : ∀ i, b i ≤ 1) {T most : Nat} (he : Has S 256) : ∀ (ts pre : List M.Tk) (p : Nat), M.Rt (pre ++ ts) → (∀ t ∈ ts, 0 ≤ t.1 ∧ t.1 ≤ 255) → (∀ t ∈ ts, THas S D t) → BAt b T p (datB S D ts) → (M.tel (pre ++ ts)).length ≤ most →
    iDat S D b T most p (M.tel pre) = .ok (p + (datB S D ts).length, M.tel (pre ++ ts)) := by
  intro ts
  induction ts with
  | nil =>
    intro pre p _ _ _ h _
    have e : datB S D [] = mkB S (256, 0, 0) := by simp [datB]
    rw [e] at h ⊢
    have hn := h.left.nx hS hb he
    have := iOne_end (D := D) (most := most) (out := M.tel pre) hn
    unfold iDat
    rw [iLoop_end this, mkB_length, List.append_nil]
    rfl
  | cons t ts ih =>
    intro pre p hr h8 hh h hm
    have e : pre ++ t :: ts = (pre ++ [t]) ++ ts := by simp
    rw [datB_cons] at h ⊢
    rw [e] at hr hm ⊢
    have hmo := tel_mono hr
    obtain ⟨h1, h2⟩ := one_read (most := most) hS hD hb hr.of_app (h8 t (by simp)) (hh t (by simp)) h.left (by omega)
    have h3 := ih (pre ++ [t]) (p + (tokB S D t).length) hr (fun x hx => h8 x (by simp [hx])) (fun x hx => hh x (by simp [hx])) h.right hm
    have hle := h.left.1
    unfold iDat at h3 ⊢
    rw [iLoop_on h1 (by omega) hle, h3, List.length_append, Nat.add_assoc]

/-- A row of bits is read as a block that tells tokens. -/
def Rds (L : List Int) (last : Bool) (ts : List M.Tk) : Prop := ∀ (b : Nat → Nat) (T most p : Nat) (pre : List M.Tk), (∀ i, b i ≤ 1) → BAt b T p L → M.Rt (pre ++ ts) → (∀ t ∈ ts, 0 ≤ t.1 ∧ t.1 ≤ 255) → (M.tel (pre ++ ts)).length ≤ most →
  iBlk b T most p (M.tel pre) = .ok (p + L.length, (!last, M.tel (pre ++ ts))) ∧ 1 ≤ L.length
/-- How a block begins. -/
def knd (last : Bool) (k : Nat) : List Int := bitsN (if last then 1 else 0) 1 ++ bitsN (k : Int) 2
theorem knd_length (last : Bool) (k : Nat) : (knd last k).length = 3 := by simp [knd, bitsN_length]
theorem rds_of {L : List Int} {last : Bool} {k : Nat} {ts : List M.Tk} (hk : k < 4) (h : ∀ (b : Nat → Nat) (T most p : Nat) (pre : List M.Tk), (∀ i, b i ≤ 1) → BAt b T p L → M.Rt (pre ++ ts) → (∀ t ∈ ts, 0 ≤ t.1 ∧ t.1 ≤ 255) → (M.tel (pre ++ ts)).length ≤ most → iKind b T most k p (M.tel pre) = .ok (p + L.length, M.tel (pre ++ ts))) :
    Rds (knd last k ++ L) last ts := by
  intro b T most p pre hb hB hr h8 hm
  refine ⟨?_, by simp [knd_length]; omega⟩
  have h1 := hB.left.left
  have h2 := hB.left.right
  have h3 := hB.right
  rw [knd_length] at h3
  rw [bitsN_length] at h2
  have t1 : iTk b T p 1 = .ok (p + 1, if last then 1 else 0) := by
    cases last
    · exact BAt.tk (x := 0) h1 (by decide)
    · exact BAt.tk (x := 1) h1 (by decide)
  have t2 := BAt.tk h2 (by omega : k < 2 ^ 2)
  have hK := h b T most (p + 3) pre hb h3 hr h8 hm
  unfold iBlk
  rw [iThen_of_ok t1]
  try simp only
  rw [iThen_of_ok t2]
  try simp only
  rw [show p + 1 + 2 = p + 3 by omega, iThen_of_ok hK, List.length_append, knd_length]
  try simp only
  cases last <;> simp [Nat.add_assoc]
theorem rds_fixed (last : Bool) {ts : List M.Tk} (hg : Good iFix) (hf : Good iFive) (he : Has iFix 256) (hh : ∀ t ∈ ts, THas iFix iFive t) : Rds (knd last 1 ++ datB iFix iFive ts) last ts := by
  refine rds_of (by decide) fun b T most p pre hb hB hr h8 hm => ?_
  unfold iKind
  rw [if_neg (by decide), if_pos rfl]
  exact dat_read hg hf hb he ts pre p hr h8 hh hB hm
theorem rds_dynamic (last : Bool) {ts : List M.Tk} {S D H : List Int} (hg : Good S) (hf : Good D) (he : Has S 256) (hh : ∀ t ∈ ts, THas S D t) (hH : ∀ (b : Nat → Nat) (T p : Nat), (∀ i, b i ≤ 1) → BAt b T p H → iHdr b T p = .ok (p + H.length, (S, D))) : Rds (knd last 2 ++ (H ++ datB S D ts)) last ts := by
  refine rds_of (by decide) fun b T most p pre hb hB hr h8 hm => ?_
  unfold iKind
  rw [if_neg (by decide), if_neg (by decide), if_pos rfl, iThen_of_ok (hH b T p hb hB.left)]
  try simp only
  rw [dat_read hg hf hb he ts pre _ hr h8 hh hB.right hm, List.length_append, Nat.add_assoc]

/-- Blocks, one behind the other: the last one says that it is. -/
def RdsAll : List (List Int × List M.Tk) → Prop
  | [] => False
  | [x] => Rds x.1 true x.2
  | x :: y :: r => Rds x.1 false x.2 ∧ RdsAll (y :: r)
theorem loop_read {b : Nat → Nat} {T most : Nat} (hb : ∀ i, b i ≤ 1) : ∀ (xs : List (List Int × List M.Tk)) (pre : List M.Tk) (p : Nat), RdsAll xs → BAt b T p (xs.flatMap (·.1)) → M.Rt (pre ++ xs.flatMap (·.2)) → (∀ t ∈ xs.flatMap (·.2), 0 ≤ t.1 ∧ t.1 ≤ 255) → (M.tel (pre ++ xs.flatMap (·.2))).length ≤ most →
    iLoop T (iBlk b T most) p (M.tel pre) = .ok (p + (xs.flatMap (·.1)).length, M.tel (pre ++ xs.flatMap (·.2))) := by
  intro xs
  induction xs with
  | nil => intro pre p h; exact h.elim
  | cons x r ih =>
    intro pre p h hB hr h8 hm
    cases r with
    | nil =>
      simp only [List.flatMap_cons, List.flatMap_nil, List.append_nil] at hB hr h8 hm ⊢
      have := (h b T most p pre hb hB hr h8 hm).1
      rw [iLoop_end this]
    | cons y r =>
      obtain ⟨h1, h2⟩ := h
      rw [List.flatMap_cons] at hB hr h8 hm ⊢
      rw [List.flatMap_cons (f := fun x : List Int × List M.Tk => x.2)] at hr h8 hm ⊢
      rw [← List.append_assoc] at hr hm ⊢
      have hmo := tel_mono hr
      have hx := h1 b T most p pre hb hB.left hr.of_app (fun t ht => h8 t (List.mem_append_left _ ht)) (by omega)
      have hle := hB.left.1
      rw [iLoop_on hx.1 (by omega) hle, ih (pre ++ x.2) (p + x.1.length) h2 hB.right hr (fun t ht => h8 t (List.mem_append_right _ ht)) hm, List.length_append, Nat.add_assoc]
theorem ib_data (L : List Int) (h : Bin L) (i : Nat) (hi : i < L.length) : (ib (dataL L) i : Int) = ln L i := by
  have h1 := data_bitAt L h i hi
  unfold bitAt at h1
  have h2 := dataL_bytes L h (i / 8)
  unfold ib ln
  rw [← h1]
  have : 0 ≤ (dataL L).getD (i / 8) 0 / 2 ^ (i % 8) % 2 := by omega
  omega
/-- A stream of such blocks is read as all that they tell. -/
theorem ans_blocks (xs : List (List Int × List M.Tk)) (hx : RdsAll xs) (hB : Bin (xs.flatMap (·.1))) (hr : M.Rt (xs.flatMap (·.2))) (h8 : ∀ t ∈ xs.flatMap (·.2), 0 ≤ t.1 ∧ t.1 ≤ 255) (most : Nat) (hm : (M.tel (xs.flatMap (·.2))).length ≤ most) :
    iAns (dataL (xs.flatMap (·.1))) most = (M.tel (xs.flatMap (·.2)), (dataL (xs.flatMap (·.1))).length, 0) := by
  have hd := dataL_length (xs.flatMap (·.1))
  have := loop_read (b := ib (dataL (xs.flatMap (·.1)))) (T := 8 * (dataL (xs.flatMap (·.1))).length) (most := most) (ib_le _) xs [] 0 hx ⟨by omega, fun i hi => by rw [Nat.zero_add]; exact ib_data _ hB i hi⟩ (by simpa using hr) h8 (by simpa using hm)
  unfold iAns iInf
  rw [show ([] : List Int) = M.tel [] from rfl, this]
  simp only [iRes, List.nil_append]
  congr 2
  omega
end Go.Proofs.YteknifnadbmfiaaGreatDoor
