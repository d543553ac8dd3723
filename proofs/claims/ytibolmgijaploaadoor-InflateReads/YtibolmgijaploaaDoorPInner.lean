/- The stream's innerCode: contract. -/
import Derived.Test.YtibolmgijaploaaDoorG18PHead
namespace Go.Proofs.YtibolmgijaploaaDoor
set_option maxRecDepth 100000
open Go Go.RowKit

/-- The order of lengths lies in its variable. -/
def Tab (w : World) : Prop := ∀ i, i < 19 → w.cell? ⟨0, i, none⟩ = some (.int .i64 ((iOrd.getD i 0 : Nat) : Int))
theorem Tab.kept {M : Nat → Prop} {w w' : World} (h : Tab w) (k : Kept M w w') (h0 : ¬ M 0) : Tab w' := fun i hi => (k.cell (p := ⟨0, i, none⟩) (lt_of_cell (h i hi)) h0).trans (h i hi)
theorem Tab.below {B : Nat} {w w' : World} (h : Tab w) (k : Below B w w') (h0 : 0 < B) : Tab w' := h.kept (Kept.of_below k) (by omega)
theorem iOrd_lt : ∀ i, i < 19 → iOrd.getD i 0 < 19 := by decide
theorem valA_set (L : List Int) (i : Nat) (x : Int) : (valA L).setIfInBounds i (.int .i64 x) = valA (L.set i x) := by
  rw [← Array.toList_inj]
  simp [valA, List.map_set]
theorem zero19 : ∀ w, (zeroValue 94).run Tryd.prog w = .ok (.agg (valA (List.replicate 19 0))) w := by intro w; rfl

section
variable {B bs br : Nat} {a : Option Addr} {len cap : Nat} {zs : List Int} {m : Nat} {w w' : World} {p : Nat} {o : Option Addr} {oc : Nat} {fc : Value} {out : List Int}
/-- A code, wherever its parts lie. -/
def CodeX (lo hi : Nat) (w : World) (bc : Nat) (ls : List Int) : Prop := ∃ gl gc vo N, CodeAt lo hi w bc gl gc vo N ls
def IGot (br : Nat) (a : Option Addr) (len cap : Nat) (w : World) (q : Nat) (first : List Int) (x : Ending) (w' : World) : Prop :=
  ∃ bc, x = .returned (.tuple #[.pointer (some ⟨bc, 0, none⟩), .int .i64 0]) ∧ Kept (fun b => b = br) w w' ∧ w'.heap[br]? = some (.cells (rA a len cap q) 54 (0, 0)) ∧ q ≤ len * 8 ∧ CodeX w.heap.size w'.heap.size w' bc first
def IBad (br : Nat) (w : World) (e : Int) (x : Ending) (w' : World) : Prop := x = .returned (.tuple #[.pointer none, .int .i64 e]) ∧ Kept (fun b => b = br) w w' ∧ 60 ≤ e ∧ e ≤ 65
def IOk (br : Nat) (a : Option Addr) (len cap : Nat) (w : World) (r : Except Int (Nat × List Int)) (x : Ending) (w' : World) : Prop := (∃ q f, r = .ok (q, f) ∧ IGot br a len cap w q f x w') ∨ (∃ e, r = .error e ∧ IBad br w e x w')
theorem IOk.got {r : Except Int (Nat × List Int)} {x : Ending} {q : Nat} {f : List Int} (hr : r = .ok (q, f)) (h : IOk br a len cap w r x w') : IGot br a len cap w q f x w' := by
  subst hr
  obtain ⟨q', c', e, h⟩ | ⟨e, h', _⟩ := h
  · cases e; exact h
  · cases h'
theorem IOk.bad {r : Except Int (Nat × List Int)} {x : Ending} {e : Int} (hr : r = .error e) (h : IOk br a len cap w r x w') : IBad br w e x w' := by
  subst hr
  obtain ⟨q', c', e, h⟩ | ⟨e, h', h⟩ := h
  · cases e
  · cases h'; exact h

/-- While the lengths are read. -/
structure IS (br : Nat) (a : Option Addr) (len cap : Nat) (w wr : World) (p : Nat) (F : List Int) : Prop where
  kept : Kept (fun b => b = br) w wr
  rd : wr.heap[br]? = some (.cells (rA a len cap p) 54 (0, 0))
  row : wr.heap[w.heap.size]? = some (.cells (valA F) 94 (0, 0))
  pl : p ≤ len * 8
  fl : F.length = 19

set_option maxHeartbeats 4000000 in
theorem inner_c (h : SS B bs br a len cap zs m w p o oc fc out) (hT : Tab w) (hB : 0 < B) (hl8 : len * 8 ≤ 9223372036854775000) (z : Nat) (zi : Int) (hzi : zi = (z : Int) + 4) (hz : z ≤ 15) :
    Calls Tryd.prog 40 #[.pointer (some ⟨bs, 0, none⟩), .int .i64 zi] w (IOk br a len cap w (iInn (ib zs) (len * 8) p z)) := by
  subst hzi
  obtain ⟨R, hR⟩ : ∃ R, R = iInn (ib zs) (len * 8) p z := ⟨_, rfl⟩
  rw [← hR]
  have HR := hide hR
  have H0 := hide h
  have HT := hide hT
  have hz19 := zero19
  have hbr := lt_of_block h.rd
  have hpl := h.pl
  have hbr0 : br ≠ 0 := by have := h.inb; omega
  have HI0 : Hid (IS br a len cap w (w.alloc (.cells (valA (List.replicate 19 0)) 94)) p (List.replicate 19 0)) := ⟨Kept.alloc _ (Kept.refl _ w) _, heap_old h.rd, heap_new _ _, h.pl, by simp⟩
  clear h hT hR
  unfold iInn at HR
  go_enter Tryd.func40, Tryd.ntmps40
  go_wp2_with fail
  go_loopg [13] (z + 4) (fun gk v13 wx => ∃ (i p' : Nat) (F : List Int) (_ : i + gk = z + 4), v13 = .int .i64 (i : Int) ∧ Hid (iRd3 (ib zs) (len * 8) (z + 4) p 0 (List.replicate 19 0) = iRd3 (ib zs) (len * 8) gk p' i F) ∧ Hid (IS br a len cap w wx p' F))
  case atStart => exact ⟨0, p, List.replicate 19 0, by omega, rfl, rfl, HI0.out⟩
  case round =>
    obtain ⟨i, p', F, hig, rfl, HRd, HI⟩ := hrel
    clear HI0
    have HS := hide (H0.out.move HI.out.kept HI.out.rd HI.out.pl)
    cases gk with
    | succ g1 =>
      have hlt : (i : Int) < (z : Int) + 4 := by omega
      have hN := number_c HS.out hl8 3 3 rfl (by decide)
      rcases h1 : iTk (ib zs) (len * 8) p' 3 with e | ⟨q1, x⟩
      · rw [h1] at hN
        have HN := hide (hN.mono fun _ _ => NOk.bad rfl)
        have HRR : Hid (R = .error e) := by rw [HR.out, HRd.out, iRd3, iThen_of_err h1]; exact rfl
        clear hN h1 HRd HR
        go_wp2_with (go_at_call 23; refine HN.out.mono ?_; rintro x w1 ⟨rfl, k1, e1, e2⟩; have K1 := hide (HI.out.kept.trans k1 (fun _ _ e => e)); clear k1)
        go_ret2
        exact .inr ⟨e, HRR.out, rfl, K1.out, e1, e2⟩
      · have hx := iTk_lt (ib_le zs) h1
        rw [h1] at hN
        have HN := hide (hN.mono fun _ _ => NOk.got rfl)
        have HRR : Hid (iRd3 (ib zs) (len * 8) (z + 4) p 0 (List.replicate 19 0) = iRd3 (ib zs) (len * 8) g1 q1 (i + 1) (F.set (iOrd.getD i 0) (x : Int))) := by rw [HRd.out, iRd3, iThen_of_ok h1]; exact rfl
        have hio := iOrd_lt i (by omega)
        obtain ⟨y, hy⟩ : ∃ y, y = iOrd.getD i 0 := ⟨_, rfl⟩
        have hcy := HT.out i (by omega)
        rw [← hy] at HRR hio hcy
        have hFl := HI.out.fl
        have hrow := HI.out.row
        obtain ⟨c, hc⟩ : ∃ c, (valA F)[y]? = some c := ⟨_, valA_at F (by omega)⟩
        have hty : wr.cell? ⟨0, i, none⟩ = some (.int .i64 (y : Int)) := (HI.out.kept.cell (p := ⟨0, i, none⟩) (by show 0 < _; omega) (fun e => hbr0 e.symm)).trans hcy
        have hi19 : (i : Int) < 19 := by omega
        have hy19 : (y : Int) < 19 := by omega
        have HC := hide hc
        have HTY := hide hty
        clear hN h1 HRd hy hcy hFl hrow hc hty
        go_wp2_with (go_at_call 23; refine HN.out.mono ?_; rintro x w1 ⟨rfl, k1, r1, l1⟩; have K1 := hide (HI.out.kept.trans k1 (fun _ _ e => e)); have R1 := hide r1; have row1 := (k1.block w.heap.size (lt_of_block HI.out.row) (fun e => by omega)).trans HI.out.row; have c1 := cells_of row1 y; rw [HC.out] at c1; have f1 := free_of row1 y; have t1 := (k1.cell (p := ⟨0, i, none⟩) (lt_of_cell HTY.out) (fun e => hbr0 e.symm)).trans HTY.out; have z1 := lt_of_block row1; have ROW1 := hide row1; clear k1 r1 row1)
        go_roundg g1
        case measure => omega
        case rel =>
          refine ⟨i + 1, q1, F.set y (x : Int), by omega, by go_num, HRR, ?_⟩
          have kx : Kept (fun b => b = w.heap.size) w1 (w1.setCell ⟨w.heap.size, y, none⟩ (.int .i64 (x : Int))) := Kept.setCell (M := fun b => b = w.heap.size) (Kept.refl _ w1) (fun _ => rfl) _
          refine ⟨K1.out.trans kx (fun i hi e => by omega), ?_, ?_, l1, by rw [List.length_set]; exact HI.out.fl⟩
          · exact kx.heap R1.out (by omega)
          · rw [set_of ROW1.out y, valA_set]
    | zero =>
      obtain rfl : i = z + 4 := by omega
      have HRR : Hid (R = if ¬ check F false = 0 then .error 63 else .ok (p', F)) := by rw [HR.out, HRd.out, iRd3]; exact rfl
      have hFi := (ints_at HI.out.row).wide (Nat.zero_le _) (lt_of_block HI.out.row)
      clear HR HRd
      have hF19 := HI.out.fl
      by_cases hck : check F false = 0
      · have hM := make_ok wr.heap.size _ 19 F false wr hck hFi
        rw [hF19] at hM
        have HM := hide hM
        have HRE : Hid (R = .ok (p', F)) := by rw [HRR.out, if_neg (by simpa using hck)]; exact rfl
        clear hM hFi hck HRR hF19
        go_wp2_with (go_at_call 53; refine HM.out.mono ?_; rintro x w1 ⟨bc, gl, gc, vo, N, rfl, c1, b1⟩; have C1 := hide c1; have B1 := hide b1; clear c1 b1)
        go_ret2
        have hz1 := HI.out.kept.size
        exact .inl ⟨p', F, HRE.out, bc, rfl, HI.out.kept.trans (Kept.of_below B1.out) (fun i hi e => by omega), (B1.out.block br (lt_of_block HI.out.rd)).trans HI.out.rd, HI.out.pl, gl, gc, vo, N, C1.out.wide hz1 (Nat.le_refl _)⟩
      · have hM := make_err wr.heap.size _ 19 F false wr hck hFi
        rw [hF19] at hM
        have HRE : Hid (R = .error 63) := by rw [HRR.out, if_pos hck]; exact rfl
        generalize check F false = E at hM hck
        have HM := hide hM
        clear hM hFi HRR hF19
        go_wp2_with (go_at_call 53; refine HM.out.mono ?_; rintro x w1 ⟨rfl, b1⟩; have B1 := hide b1; clear b1)
        go_ret2
        have hz1 := HI.out.kept.size
        exact .inr ⟨63, HRE.out, rfl, HI.out.kept.trans (Kept.of_below B1.out) (fun i hi e => by omega), by decide, by decide⟩
end
end Go.Proofs.YtibolmgijaploaaDoor
