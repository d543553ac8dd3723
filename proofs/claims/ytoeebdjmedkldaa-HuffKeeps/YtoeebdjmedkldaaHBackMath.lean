/- What is laid is read: the plain mathematics of it; a writer and a row of numbers side by side. -/
import Derived.Test.YtoeebdjmedkldaaHPut
import Derived.Test.YtoeebdjmedkldaaHReads
import Derived.Test.YtoeebdjmedkldaaData
namespace Go.Proofs.Ytoeebdjmedkldaa
open Go Go.RowKit

/-- The bits of symbols, one behind the other. -/
def bo (ls : List Int) (O : List Int) : List Int := O.flatMap fun x => rowL (cd ls x.toNat) (ln ls x.toNat).toNat
/-- Symbols that have a code. -/
def Have (ls : List Int) (O : List Int) : Prop := ∀ x ∈ O, 0 ≤ x ∧ x.toNat < ls.length ∧ 1 ≤ ln ls x.toNat
theorem bo_push (ls O : List Int) (s n : Nat) (h : ln ls s = (n : Int)) : bo ls (O ++ [(s : Int)]) = bo ls O ++ rowL (cd ls s) n := by
  simp [bo, h]
theorem Have.push {ls O : List Int} (h : Have ls O) {s n : Nat} (hs : s < ls.length) (hl : ln ls s = (n : Int)) (hn : 1 ≤ n) : Have ls (O ++ [(s : Int)]) := by
  intro x hx
  rcases List.mem_append.1 hx with hx | hx
  · exact h x hx
  · rw [List.mem_singleton] at hx
    subst hx
    exact ⟨by omega, by simpa using hs, by simp [hl]; omega⟩
theorem bin_rowL (c n : Nat) : Bin (rowL c n) := by
  intro i
  by_cases h : i < n
  · have := rowL_at c n h
    unfold ln at this
    rw [this]
    unfold bitC; omega
  · simp [List.getD, List.getElem?_eq_none (show (rowL c n).length ≤ i by rw [rowL_length]; omega)]
theorem bin_nil : Bin [] := fun i => by simp
theorem bo_cons (ls : List Int) (x : Int) (r : List Int) : bo ls (x :: r) = rowL (cd ls x.toNat) (ln ls x.toNat).toNat ++ bo ls r := by simp [bo]
theorem bo_append (ls A B : List Int) : bo ls (A ++ B) = bo ls A ++ bo ls B := by simp [bo]
theorem bin_bo (ls O : List Int) : Bin (bo ls O) := by
  induction O with
  | nil => exact bin_nil
  | cons x r ih => rw [bo_cons]; exact bin_append (bin_rowL _ _) ih
theorem bo_length_le (ls O : List Int) (hf : Fit ls) : (bo ls O).length ≤ 15 * O.length := by
  induction O with
  | nil => simp [bo]
  | cons x r ih =>
    rw [bo_cons, List.length_append, rowL_length, List.length_cons]
    have := ln_fit hf x.toNat
    omega
/-- Where the reader stands ahead of symbol j. -/
def bp (ls O : List Int) (j : Nat) : Nat := (bo ls (O.take j)).length
theorem bo_parts (ls O : List Int) (j : Nat) (hj : j < O.length) : bo ls O = bo ls (O.take j) ++ (rowL (cd ls (ln O j).toNat) (ln ls (ln O j).toNat).toNat ++ bo ls (O.drop (j + 1))) := by
  have e : O = O.take j ++ (ln O j) :: O.drop (j + 1) := by
    have : ln O j = O[j] := by simp [ln, List.getD, hj]
    rw [this]; simp
  conv => lhs; rw [e]
  simp [bo]
theorem bp_succ (ls O : List Int) (j : Nat) (hj : j < O.length) : bp ls O (j + 1) = bp ls O j + (ln ls (ln O j).toNat).toNat := by
  unfold bp
  have e : ln O j = O[j] := by simp [ln, List.getD, hj]
  rw [List.take_succ_eq_append_getElem hj, ← e]
  simp [bo, rowL_length]
theorem bp_le (ls O : List Int) (j : Nat) : bp ls O j ≤ (bo ls O).length := by
  unfold bp
  conv => rhs; rw [← List.take_append_drop j O]
  rw [bo_append, List.length_append]; omega

/-- What was laid at a place is the next symbol there. -/
theorem back_next {ls O : List Int} (hg : Good ls) (hh : Have ls O) (j N : Nat) (hj : j < O.length) (zs : List Int) (hz : zs = dataL (bo ls O)) (T : Nat) (hT : (bo ls O).length ≤ T) :
    NextIs ls (bz zs (bp ls O j)) (T - bp ls O j) N (ln O j).toNat (ln ls (ln O j).toNat).toNat 0 := by
  have e : ln O j = O[j] := by simp [ln, List.getD, hj]
  obtain ⟨h0, h1, h2⟩ := hh (ln O j) (by rw [e]; exact List.getElem_mem hj)
  obtain ⟨n, hn⟩ := Int.eq_ofNat_of_zero_le (show 0 ≤ ln ls (ln O j).toNat by omega)
  have hlt := (cd_lt hg.le hg.fit h1 h2).2
  have hp := bo_parts ls O j hj
  have hs := bp_succ ls O j hj
  have hle := bp_le ls O (j + 1)
  rw [hn, Int.toNat_natCast] at hlt hs hp ⊢
  refine .inl ⟨rfl, by omega, h1, by omega, hn, ?_⟩
  have hv := (vl_code (bz zs (bp ls O j)) (cd ls (ln O j).toNat) n hlt n (Nat.le_refl _)).1 (fun k hk => ?_)
  · have := hv.1
    rw [Nat.sub_self, Nat.pow_zero, Nat.div_one] at this
    exact this.symm
  · have hb : bitAt zs (bp ls O j + k) = (bo ls O).getD (bp ls O j + k) 0 := by
      rw [hz]; exact data_bitAt _ (bin_bo ls O) _ (by omega)
    have hg2 : (bo ls O).getD (bp ls O j + k) 0 = (bitC (cd ls (ln O j).toNat) n k : Int) := by
      rw [hp, getD_right (by unfold bp; omega), show bp ls O j + k - (bo ls (O.take j)).length = k by unfold bp; omega, getD_left (by rw [rowL_length]; exact hk)]
      have := rowL_at (cd ls (ln O j).toNat) n hk
      unfold ln at this ⊢
      exact this
    unfold bz
    rw [hb, hg2]; rfl

/-- The block of a row of numbers is another one than a writer's. -/
theorem rows_apart {w : World} {base b2 bw : Nat} {v vO : Value} {bs O : List Int} {t : Int} {m : Nat} (h : Wr base bw w v bs t m) (ho : Owns w b2 vO O) : ∀ g, vO.ownBlock = some g → v.ownBlock ≠ some g := by
  intro g hg
  rcases ho.2 with ⟨rfl, _⟩ | ⟨g', cap, cur, rfl, _, hh, _⟩
  · simp [Value.ownBlock] at hg
  · simp [Value.ownBlock] at hg
    subst hg
    exact ownsRow_apart h.owns hh (by decide)

/-- A writer and the symbols that were laid. -/
structure Bk (ls : List Int) (w2 wr : World) (bw : Nat) (vO v : Value) (O bs : List Int) (t : Int) (m i : Nat) : Prop where
  wri : Wr w2.heap.size bw wr v bs t m
  row : rowOf bs ++ bitsN t m = bo ls O
  owns : Owns wr w2.heap.size vO O
  have_ : Have ls O
  len : O.length ≤ i
  kept : Kept (fun k => k = bw) w2 wr

theorem Bk.lenw {ls : List Int} {w2 wr : World} {bw : Nat} {vO v : Value} {O bs : List Int} {t : Int} {m i : Nat} (h : Bk ls w2 wr bw vO v O bs t m i) : bs.length * 8 + m = (bo ls O).length := by
  rw [← h.row]; simp [rowOf_length, bitsN_length]; omega
theorem Bk.drewN {ls : List Int} {w2 wr : World} {bw : Nat} {vO v : Value} {O bs : List Int} {t : Int} {m i : Nat} (h : Bk ls w2 wr bw vO v O bs t m i) (q : Nat) : Bk ls w2 (wr.drewN q) bw vO v O bs t m i :=
  ⟨⟨h.wri.block, ownsRow_kept h.wri.owns (Kept.drewN (Kept.refl (fun _ => False) wr) q) (fun _ _ e => e), h.wri.t0, h.wri.t1, h.wri.m1, h.wri.bytes⟩, h.row, h.owns.kept (Kept.drewN (Kept.refl (fun _ => False) wr) q) (fun _ _ e => e), h.have_, h.len, h.kept.drewN q⟩
theorem Bk.put {ls : List Int} {w2 wr w3 : World} {bw : Nat} {vO v : Value} {O bs bs' : List Int} {t t' : Int} {m m' i s n : Nat} (h : Bk ls w2 wr bw vO v O bs t m i) (hbw : bw < w2.heap.size)
    (hr : rowOf bs' ++ bitsN t' m' = rowOf bs ++ bitsN t m ++ rowL (cd ls s) n) (hk : Kept (fun k => k = bw ∨ v.ownBlock = some k) wr w3) :
    Owns w3 w2.heap.size vO O ∧ rowOf bs' ++ bitsN t' m' = bo ls O ++ rowL (cd ls s) n ∧ Kept (fun k => k = bw) w2 w3 := by
  refine ⟨h.owns.kept hk (fun g hg e => ?_), by rw [hr, h.row], h.kept.trans hk (fun k hk' e => ?_)⟩
  · rcases e with e | e
    · have := (ownsRow_lt h.owns hg).1; omega
    · exact rows_apart h.wri h.owns g hg e
  · rcases e with e | e
    · exact e
    · have := (ownsRow_lt h.wri.owns e).1; omega
end Go.Proofs.Ytoeebdjmedkldaa
