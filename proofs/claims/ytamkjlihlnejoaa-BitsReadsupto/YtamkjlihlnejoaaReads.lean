/- A reader, and the reference's reader beside it: what each call does to both. -/
import Derived.Test.YtamkjlihlnejoaaRefTake
namespace Go.Proofs.Ytamkjlihlnejoaa
open Go.RowKit

theorem row_bitAt (zs : List Int) (i : Nat) (h : i < 8 * zs.length) : bitAt zs i = (rowOf zs).getD i 0 := by
  rw [rowOf_getD, if_pos h]; rfl

theorem row_val (zs : List Int) (p n : Nat) (h : p + n ≤ 8 * zs.length) : bitsVal zs p n = packB (rowOf zs) p n :=
  bitsVal_pack zs (rowOf zs) p n (fun k hk => row_bitAt zs (p + k) (by omega))

theorem row_take (zs : List Int) (f m : Nat) (h : f + m ≤ zs.length) (hz : ∀ i, 0 ≤ zs.getD i 0 ∧ zs.getD i 0 ≤ 255) : bytesL (((rowOf zs).drop (8 * f)).take (8 * m)) m = (zs.drop f).take m := by
  apply List.ext_getElem
  · simp [bytesL]; omega
  · intro i hi hi'
    have him : i < m := by simpa [bytesL] using hi
    have h1 : (bytesL (((rowOf zs).drop (8 * f)).take (8 * m)) m)[i] = packB (((rowOf zs).drop (8 * f)).take (8 * m)) (8 * i) 8 := by simp [bytesL]
    rw [h1, packB_congr _ (bitsN (zs.getD (f + i) 0) 8) _ 0 8 (fun k hk => ?_), packB_num _ 8 8 (Nat.le_refl _)]
    · have hb := hz (f + i)
      have e : (2 : Int) ^ 8 = 256 := by decide
      have h2 : ((zs.drop f).take m)[i] = zs.getD (f + i) 0 := by
        rw [List.getElem_take, List.getElem_drop, List.getD, List.getElem?_eq_getElem (show f + i < zs.length by omega), Option.getD_some]
      rw [h2, e]; omega
    · have h3 : (((rowOf zs).drop (8 * f)).take (8 * m)).getD (8 * i + k) 0 = (rowOf zs).getD (8 * f + (8 * i + k)) 0 := by
        simp [List.getD, show 8 * i + k < 8 * m by omega]
      rw [h3, rowOf_getD, if_pos (by omega), Nat.zero_add, bitsN_getD, if_pos hk, show (8 * f + (8 * i + k)) / 8 = f + i by omega, show (8 * f + (8 * i + k)) % 8 = k by omega]

/-- The reader stands at place p, the reference's at place q; nothing else of what was there is written. -/
structure Rw (br sb : Nat) (w4 wr : World) (a : Option Addr) (len cap : Nat) (zs : List Int) (al : Option Addr) (cl : Nat) (L : List Int) (p q : Nat) : Prop where
  rd : wr.heap[br]? = some (.cells #[.slice a len cap, .int .i64 (p : Int)] 55 (0, 0))
  sd : wr.heap[sb]? = some (.cells #[.slice al L.length cl, .int .i64 (q : Int)] 28 (0, 0))
  tx : Text br wr a len zs
  ow : Owns wr 0 (.slice al L.length cl) L
  kp : Kept (fun k => k = br ∨ k = sb) w4 wr

section
variable {br sb : Nat} {w4 wr w' : World} {a : Option Addr} {len cap : Nat} {zs : List Int} {al : Option Addr} {cl : Nat} {L : List Int} {p q : Nat}

theorem Rw.below (s : Rw br sb w4 wr a len cap zs al cl L p q) (b : Below wr.heap.size wr w') : Rw br sb w4 w' a len cap zs al cl L p q := by
  have k := Kept.of_below b
  have h1 := lt_of_block s.rd
  have h2 := lt_of_block s.sd
  exact ⟨k.heap s.rd (by omega), k.heap s.sd (by omega), s.tx.kept k (fun b hb e => by omega), s.ow.kept k (fun g hg e => by have := (ownsRow_lt s.ow hg).2; omega), s.kp.trans k (fun i hi e => by have := s.kp.size; omega)⟩

theorem Rw.alloc (s : Rw br sb w4 wr a len cap zs al cl L p q) (o : Obj) : Rw br sb w4 (wr.alloc o) a len cap zs al cl L p q := s.below ((Below.refl _ _).alloc (Nat.le_refl _) o)
theorem Rw.drewN (s : Rw br sb w4 wr a len cap zs al cl L p q) (n : Nat) : Rw br sb w4 (wr.drewN n) a len cap zs al cl L p q := s.below ⟨rfl, rfl, rfl, Nat.le_refl _, fun _ _ => rfl⟩

theorem Rw.read (s : Rw br sb w4 wr a len cap zs al cl L p q) {p' : Nat} (h : w'.heap[br]? = some (.cells #[.slice a len cap, .int .i64 (p' : Int)] 55 (0, 0))) (k : Kept (fun k => k = br) wr w') : Rw br sb w4 w' a len cap zs al cl L p' q ∧ Same wr w' := by
  have hne : sb ≠ br := fun e => by have h1 := s.rd; have h2 := s.sd; rw [e, h1] at h2; simp at h2
  refine ⟨⟨h, k.heap s.sd hne, s.tx.kept k (fun b hb e => by omega), s.ow.kept k (fun g hg e => ?_), s.kp.trans k (fun i hi e => .inl e)⟩, k.size, fun ob cs hob => k.heap hob (fun e => by subst e; rw [s.rd] at hob; simp at hob)⟩
  subst e; exact ownsRow_apart s.ow s.rd (by decide) hg

theorem Rw.set (s : Rw br sb w4 wr a len cap zs al cl L p q) (hbs : br ≤ sb) (q' : Nat) : Rw br sb w4 ((wr.setCell ⟨sb, 0, none⟩ (.slice al L.length cl)).setCell ⟨sb, 1, none⟩ (.int .i64 (q' : Int))) a len cap zs al cl L p q' := by
  have hne : br ≠ sb := fun e => by have h1 := s.rd; have h2 := s.sd; rw [← e, h1] at h2; simp at h2
  have k : Kept (fun k => k = sb) wr ((wr.setCell ⟨sb, 0, none⟩ (.slice al L.length cl)).setCell ⟨sb, 1, none⟩ (.int .i64 (q' : Int))) := (Kept.setCell (M := fun k => k = sb) (Kept.refl _ _) (fun _ => rfl) _).setCell (fun _ => rfl) _
  refine ⟨k.heap s.rd hne, ?_, s.tx.kept k (fun b hb e => by omega), s.ow.kept k (fun g hg e => ?_), s.kp.trans k (fun i hi e => .inr e)⟩
  · rw [set_of (set_of s.sd 0 _) 1]; rfl
  · subst e; exact ownsRow_apart s.ow s.sd (by decide) hg

theorem Rw.nums (s : Rw br sb w4 wr a len cap zs al cl L p q) : Nums wr al L := by
  obtain ⟨a', c', hv, hc⟩ := s.ow.form
  simp at hv
  obtain ⟨rfl, rfl⟩ := hv
  by_cases h0 : L.length = 0
  · exact .inl h0
  · obtain ⟨g, _, _, hlt, ha, hcell⟩ := hc (by omega)
    exact .inr ⟨g, 0, hlt, ha, fun i hi => by rw [Nat.zero_add]; exact hcell i hi⟩

theorem Same.heap (h : Same wr w') {ob : Nat} {cs : Array Value} (hb : wr.heap[ob]? = some (.cells cs 32 (0, 0))) : w'.heap[ob]? = some (.cells cs 32 (0, 0)) := h.2 ob cs hb
end
end Go.Proofs.Ytamkjlihlnejoaa
