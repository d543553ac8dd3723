/- Symbols are given lengths: row by row, the last one first. -/
import Derived.Test.YtdeigchkpakdaaaLRows
namespace Go.Proofs.Ytdeigchkpakdaaa
open Go Go.RowKit

/-- How many of the first j parcels are symbols. -/
def cnt (R : List (Int × Bool)) : Nat → Nat
  | 0 => 0
  | j + 1 => cnt R j + if (px R j).2 then 0 else 1
theorem cnt_le (R : List (Int × Bool)) (j : Nat) : cnt R j ≤ j := by
  induction j with
  | zero => simp [cnt]
  | succ j ih => rw [cnt]; split <;> omega
theorem cnt_mono (R : List (Int × Bool)) {i j : Nat} (h : i ≤ j) : cnt R i ≤ cnt R j := by
  induction j with
  | zero => have : i = 0 := by omega
            subst this; exact Nat.le_refl _
  | succ j ih =>
    by_cases e : i = j + 1
    · subst e; exact Nat.le_refl _
    · have := ih (by omega)
      rw [cnt]; omega
theorem cnt_cons (x : Int × Bool) (R : List (Int × Bool)) (j : Nat) : cnt (x :: R) (j + 1) = (if x.2 then 0 else 1) + cnt R j := by
  induction j with
  | zero => simp [cnt, px]
  | succ j ih =>
    rw [cnt, ih, cnt]
    have : px (x :: R) (j + 1) = px R j := by simp [px]
    rw [this]; omega
/-- The first m symbols' lengths, one more each. -/
def incD (E d : List Int) : Nat → List Int
  | 0 => E
  | m + 1 => (incD E d m).set (ln d m).toNat (ln (incD E d m) (ln d m).toNat + 1)
theorem incD_length (E d : List Int) (m : Nat) : (incD E d m).length = E.length := by
  induction m with
  | zero => rfl
  | succ m ih => rw [incD, List.length_set, ih]
/-- Level by level. -/
def lenGo (S : List (Int × Bool)) (d : List Int) : Nat → Nat → List Int → List Int
  | 0, _, E => E
  | k + 1, T, E => lenGo S d k (2 * (T - cnt (rowsP S k) T)) (incD E d (cnt (rowsP S k) T))
/-- What may be taken of each row. -/
def TakeOk (S : List (Int × Bool)) (n : Nat) : Nat → Nat → Prop
  | 0, _ => True
  | k + 1, T => T ≤ (rowsP S k).length ∧ cnt (rowsP S k) T ≤ n ∧ TakeOk S n k (2 * (T - cnt (rowsP S k) T))
/-- No length is too great. -/
def Bd (E : List Int) (b : Int) : Prop := ∀ i, 0 ≤ ln E i ∧ ln E i ≤ b
theorem Bd.inc {E d : List Int} {b : Int} {m : Nat} (h : Bd (incD E d m) b) (hx : (ln d m).toNat < E.length) : Bd (incD E d (m + 1)) (b + 1) := by
  intro i
  rw [incD, ln_set _ _ _ (by rw [incD_length]; exact hx)]
  have h1 := h i
  have h2 := h (ln d m).toNat
  split <;> omega
/-- What lengthen leaves. -/
def LenOk (gl : Nat) (sp : Array Value) (F : List Int) (w : World) (e : Ending) (w' : World) : Prop := e = .returned (.tuple #[]) ∧ Ro gl sp F w' ∧ Kept (fun i => i = gl) w w'

set_option maxHeartbeats 2000000 in
set_option maxRecDepth 100000 in
theorem lengthen_c (gl : Nat) (sp : Array Value) (capl lo2 hi2 : Nat) (a2 : Option Addr) (cap2 lo g10 c10 : Nat) (S : List (Int × Bool)) (ls d E0 : List Int) (gs : List Nat) (L : Nat) (w : World) (h2 : 2 ≤ d.length) (hd : d.length ≤ 320) (hL : L ≤ 15) (hgs : gs.length = L) (hS : S.length = d.length)
    (hall : All (IsSym ls) d) (hE : E0.length = ls.length) (hl : Ro gl sp E0 w) (hB : Bd E0 0) (hI2 : Ints lo2 hi2 w a2 d) (hlo2 : hi2 ≤ gl) (hR : RowsAt lo S w (.slice (some ⟨g10, 0, none⟩) L c10) gs) (hlo : gl < lo) (hT : TakeOk S d.length L (2 * d.length - 2)) :
    Calls Try.prog 18 #[.slice (some ⟨gl, 0, none⟩) ls.length capl, .slice a2 d.length cap2, .slice (some ⟨g10, 0, none⟩) L c10] w (LenOk gl sp (lenGo S d L (2 * d.length - 2) E0) w) := by
  have HL := hide hl
  have HR := hide hR
  have HALL := hide hall
  have HE := hide hE
  have HGS := hide hgs
  have HT0 := hide hT
  have HBD := hide hB
  obtain ⟨b2, off2, _, hb2, hb2w, rfl, hcell2⟩ := hI2.resolve_left (by omega)
  have HC2 := hide hcell2
  have hg10 : lo ≤ g10 := by
    rcases hR.owns.2 with ⟨h, _⟩ | ⟨g, cap, cur, hv, hg, _⟩
    · simp at h
    · simp only [Value.slice.injEq, Option.some.injEq, Addr.mk.injEq] at hv
      omega
  obtain ⟨T0, hT0⟩ : ∃ T0, 2 * d.length - 2 = T0 := ⟨_, rfl⟩
  have hT0' : 2 * (d.length : Int) - 2 = (T0 : Int) := by omega
  have hT0b : T0 ≤ 640 := by omega
  rw [hT0] at HT0 ⊢
  clear hl hR hall hE hgs hT hB hI2 hcell2 hT0
  go_enter Try.func18, Try.ntmps18
  go_wp2_with fail
  go_loopg [6, 7] L (fun k v6 v7 wx => ∃ (T : Nat) (E : List Int), v6 = .int .i64 T ∧ v7 = .int .i64 ((k : Int) - 1) ∧ k ≤ L ∧ T ≤ 1280 ∧ Hid (TakeOk S d.length k T ∧ lenGo S d k T E = lenGo S d L T0 E0 ∧ E.length = ls.length ∧ Bd E (((L - k : Nat) : Int) * 1000) ∧ Ro gl sp E wx ∧ Kept (fun i => i = gl) w wx))
  case atStart => exact ⟨T0, E0, rfl, rfl, Nat.le_refl _, by omega, HT0.out, rfl, HE.out, by simpa using HBD.out, HL.out, Kept.refl _ _⟩
  case round =>
    obtain ⟨T, E, rfl, rfl, hkL, hT, HI⟩ := hrel
    cases gk with
    | zero =>
      go_wp2_with fail
      go_end0
      obtain ⟨q1, q2, q3, q4, q5, q6⟩ := HI.out
      refine ⟨rfl, ?_, q6⟩
      rw [← q2]; exact q5
    | succ k =>
      have hk0 : (0 : Int) ≤ ((k + 1 : Nat) : Int) - 1 := by omega
      have hkk : ((k + 1 : Nat) : Int) - 1 = (k : Int) := by omega
      have hkl : (k : Int) < (L : Int) := by omega
      rw [hkk]
      have hrow := HR.out.rows k (by rw [HGS.out]; omega)
      obtain ⟨gr, hgr⟩ : ∃ gr, gs.getD k 0 = gr := ⟨_, rfl⟩
      rw [hgr] at hrow
      have crow : wr.cell? ⟨g10, k, none⟩ = some (.slice (some ⟨gr, 0, none⟩) (rowsP S k).length (rowsP S k).length) := by
        have hlt : g10 < w.heap.size := (ownsRow_lt HR.out.owns rfl).2
        rw [HI.out.2.2.2.2.2.cell (p := ⟨g10, k, none⟩) hlt (show ¬ g10 = gl by omega)]
        have ho := HR.out.owns
        rw [HGS.out] at ho
        rw [World.ownsRow.cellAt ho k (by omega)]
        rw [rowVs_at S gs (by rw [HGS.out]; omega)]
        unfold rowV
        rw [hgr]
      have HROW := hide hrow
      obtain ⟨R, hRk⟩ : ∃ R, rowsP S k = R := ⟨_, rfl⟩
      have HRK := hide hRk
      have hTl : T ≤ (rowsP S k).length := HI.out.1.1
      have hRl := rowsP_length S k
      rw [hRk] at HROW crow hTl hRl
      clear hrow hgr hRk hkk hk0
      have hTl' : (T : Int) ≤ (R.length : Int) := by omega
      go_wp2_with fail
      clear crow
      go_loopg [8, 29] T (fun gj v8 v29 wx => ∃ j : Nat, v8 = .int .i64 (cnt R j : Int) ∧ v29 = .int .i64 j ∧ j + gj = T ∧ Hid (Ro gl sp (incD E d (cnt R j)) wx ∧ Bd (incD E d (cnt R j)) (((L - (k + 1) : Nat) : Int) * 1000 + cnt R j) ∧ Kept (fun i => i = gl) w wx))
      case atStart => exact ⟨0, rfl, rfl, by omega, HI.out.2.2.2.2.1, by simpa [cnt, incD] using HI.out.2.2.2.1, HI.out.2.2.2.2.2⟩
      case round =>
        obtain ⟨j, rfl, rfl, hjT, HJ⟩ := hrel
        cases gk with
        | zero =>
          obtain rfl : j = T := by omega
          have hcl := cnt_le R j
          obtain ⟨C, hC⟩ : ∃ C, cnt R j = C := ⟨_, rfl⟩
          have HCC := hide hC
          rw [hC] at HJ hcl ⊢
          clear hC
          go_wp2_with fail
          go_roundg k
          case measure => omega
          case rel =>
            obtain ⟨q1, q2, q3, q4, q5, q6⟩ := HI.out
            obtain ⟨r1, r2, r3⟩ := HJ.out
            obtain ⟨t1, t2, t3⟩ := q1
            rw [lenGo] at q2
            rw [HRK.out, HCC.out] at q2 t2 t3
            refine ⟨2 * (j - C), incD E d C, by go_num, rfl, by omega, by omega, t3, q2, by rw [incD_length]; exact q3, ?_, r1, r3⟩
            intro i
            have := r2 i
            omega
        | succ gj =>
          have hlt : (j : Int) < (T : Int) := by omega
          have hro : PRo gr R wr := HROW.out.2.kept HJ.out.2.2 (by have := HROW.out.1; omega)
          have c0 := hro.c0 (i := j) (by omega)
          have c1 := hro.c1 (i := j) (by omega)
          rw [show 2 * j = j * 2 by omega] at c0 c1
          have hgrw := hro.lt
          obtain ⟨y, hy⟩ : ∃ y, px R j = y := ⟨_, rfl⟩
          have HY := hide hy
          rw [hy] at c0 c1
          clear hy hro
          obtain ⟨Y, YB⟩ := y
          simp only at c0 c1
          have hcj : cnt R j ≤ j := cnt_le R j
          cases YB with
          | true =>
            go_wp2_with fail
            go_roundg gj
            case measure => omega
            case rel =>
              have e : cnt R (j + 1) = cnt R j := by rw [cnt, HY.out]; simp
              refine ⟨j + 1, by rw [e], by go_num, by omega, ?_⟩
              rw [e]
              exact ⟨heap_old HJ.out.1, HJ.out.2.1, Kept.alloc _ HJ.out.2.2 _⟩
          | false =>
            have e : cnt R (j + 1) = cnt R j + 1 := by rw [cnt, HY.out]; simp
            have hcm : cnt R (j + 1) ≤ cnt R T := cnt_mono R (by omega)
            have hcd : cnt R T ≤ d.length := by rw [← HRK.out]; exact HI.out.1.2.1
            have EE := hide e
            obtain ⟨C, hC⟩ : ∃ C, cnt R j = C := ⟨_, rfl⟩
            have HCC := hide hC
            rw [hC] at HJ hcj ⊢
            have hCd : C < d.length := by omega
            have hCd' : (C : Int) < (d.length : Int) := by omega
            clear hC e hcm hcd
            obtain ⟨x, hx, hxl⟩ := HALL.out.at (i := C) hCd
            have hxl' : (x : Int) < (ls.length : Int) := by omega
            have cd : wr.cell? ⟨b2, off2 + C, none⟩ = some (.int .i64 (x : Int)) := by
              rw [HJ.out.2.2.cell (p := ⟨b2, off2 + C, none⟩) hb2w (show ¬ b2 = gl by omega), HC2.out C hCd, hx]
            have hel : (incD E d C).length = ls.length := by rw [incD_length]; exact HI.out.2.2.1
            have cl := HJ.out.1.cell (i := x) (by rw [hel]; exact hxl)
            have fl := HJ.out.1.free x
            have hset := HJ.out.1.set (i := x) (by rw [hel]; exact hxl) (ln (incD E d C) x + 1)
            have bl := HJ.out.2.1 x
            have hinc : (incD E d C).set x (ln (incD E d C) x + 1) = incD E d (C + 1) := by rw [incD, hx]; simp
            rw [hinc] at hset
            have hbd : Bd (incD E d (C + 1)) (((L - (k + 1) : Nat) : Int) * 1000 + ((C + 1 : Nat) : Int)) := by
              have := HJ.out.2.1.inc (by rw [hx, HI.out.2.2.1]; simpa using hxl)
              intro i
              have := this i
              omega
            have HSET := hide hset
            have HBD2 := hide hbd
            have hglw : gl < wr.heap.size := HJ.out.1.lt
            have hb2r : b2 < wr.heap.size := lt_of_cell cd
            clear hset hinc hbd hx hel
            generalize ln (incD E d C) x = V at cl bl HSET
            have bl2 : V ≤ 100000 := by omega
            have bl1 := bl.1
            clear bl
            go_wp2_with fail
            go_roundg gj
            case measure => omega
            case rel =>
              refine ⟨j + 1, by rw [EE.out, HCC.out]; go_num, by go_num, by omega, ?_⟩
              rw [EE.out, HCC.out]
              exact ⟨heap_old HSET.out, HBD2.out, Kept.alloc _ (HJ.out.2.2.setCell (fun _ => rfl) _) _⟩
#print axioms lengthen_c
end Go.Proofs.Ytdeigchkpakdaaa
