/- Several texts, laid together: LLen, LMath, LBound. -/
import Derived.Test.YtlakgbckopjelaaDoorG23LRows
import Derived.Test.YtlakgbckopjelaaDoorRows
/- Symbols are given lengths: row by row, the last one first. -/
namespace Go.Proofs.YtlakgbckopjelaaDoor.L
set_option maxRecDepth 100000
open Go Go.RowKit

/-- How many of the first j parcels are symbols. -/
def cnt (R : List (Int × Bool)) : Nat → Nat
  | 0 => 0
  | j + 1 => cnt R j + if (px R j).2 then 0 else 1
theorem cnt_le (R : List (Int × Bool)) (j : Nat) : cnt R j ≤ j := by
  induction j with
  | zero => simp [cnt]
  | succ j ih => rw [cnt]; split <;> omega
theorem cnt_mono (R : List (Int × Bool)) {i j : Nat} (h : i ≤ j) : cnt R i ≤ cnt R j := by
  induction j with
  | zero => have : i = 0 := by omega
            subst this; exact Nat.le_refl _
  | succ j ih =>
    by_cases e : i = j + 1
    · subst e; exact Nat.le_refl _
    · have := ih (by omega)
      rw [cnt]; omega
theorem cnt_cons (x : Int × Bool) (R : List (Int × Bool)) (j : Nat) : cnt (x :: R) (j + 1) = (if x.2 then 0 else 1) + cnt R j := by
  induction j with
  | zero => simp [cnt, px]
  | succ j ih =>
    rw [cnt, ih, cnt]
    have : px (x :: R) (j + 1) = px R j := by simp [px]
    rw [this]; omega
/-- The first m symbols' lengths, one more each. -/
def incD (E d : List Int) : Nat → List Int
  | 0 => E
  | m + 1 => (incD E d m).set (ln d m).toNat (ln (incD E d m) (ln d m).toNat + 1)
theorem incD_length (E d : List Int) (m : Nat) : (incD E d m).length = E.length := by
  induction m with
  | zero => rfl
  | succ m ih => rw [incD, List.length_set, ih]
/-- Level by level. -/
def lenGo (S : List (Int × Bool)) (d : List Int) : Nat → Nat → List Int → List Int
  | 0, _, E => E
  | k + 1, T, E => lenGo S d k (2 * (T - cnt (rowsP S k) T)) (incD E d (cnt (rowsP S k) T))
/-- What may be taken of each row. -/
def TakeOk (S : List (Int × Bool)) (n : Nat) : Nat → Nat → Prop
  | 0, _ => True
  | k + 1, T => T ≤ (rowsP S k).length ∧ cnt (rowsP S k) T ≤ n ∧ TakeOk S n k (2 * (T - cnt (rowsP S k) T))
/-- No length is too great. -/
def Bd (E : List Int) (b : Int) : Prop := ∀ i, 0 ≤ ln E i ∧ ln E i ≤ b
theorem Bd.inc {E d : List Int} {b : Int} {m : Nat} (h : Bd (incD E d m) b) (hx : (ln d m).toNat < E.length) : Bd (incD E d (m + 1)) (b + 1) := by
  intro i
  rw [incD, ln_set _ _ _ (by rw [incD_length]; exact hx)]
  have h1 := h i
  have h2 := h (ln d m).toNat
  split <;> omega
/-- What lengthen leaves. -/
def LenOk (gl : Nat) (sp : Array Value) (F : List Int) (w : World) (e : Ending) (w' : World) : Prop := e = .returned (.tuple #[]) ∧ Ro gl sp F w' ∧ Kept (fun i => i = gl) w w'

set_option maxHeartbeats 2000000 in
set_option maxRecDepth 100000 in
theorem lengthen_c (gl : Nat) (sp : Array Value) (capl lo2 hi2 : Nat) (a2 : Option Addr) (cap2 lo g10 c10 : Nat) (S : List (Int × Bool)) (ls d E0 : List Int) (gs : List Nat) (L : Nat) (w : World) (h2 : 2 ≤ d.length) (hd : d.length ≤ 320) (hL : L ≤ 15) (hgs : gs.length = L) (hS : S.length = d.length)
    (hall : All (IsSym ls) d) (hE : E0.length = ls.length) (hl : Ro gl sp E0 w) (hB : Bd E0 0) (hI2 : Ints lo2 hi2 w a2 d) (hlo2 : hi2 ≤ gl) (hR : RowsAt lo S w (.slice (some ⟨g10, 0, none⟩) L c10) gs) (hlo : gl < lo) (hT : TakeOk S d.length L (2 * d.length - 2)) :
    Calls Tryd.prog 64 #[.slice (some ⟨gl, 0, none⟩) ls.length capl, .slice a2 d.length cap2, .slice (some ⟨g10, 0, none⟩) L c10] w (LenOk gl sp (lenGo S d L (2 * d.length - 2) E0) w) := by
  have HL := hide hl
  have HR := hide hR
  have HALL := hide hall
  have HE := hide hE
  have HGS := hide hgs
  have HT0 := hide hT
  have HBD := hide hB
  obtain ⟨b2, off2, _, hb2, hb2w, rfl, hcell2⟩ := hI2.resolve_left (by omega)
  have HC2 := hide hcell2
  have hg10 : lo ≤ g10 := by
    rcases hR.owns.2 with ⟨h, _⟩ | ⟨g, cap, cur, hv, hg, _⟩
    · simp at h
    · simp only [Value.slice.injEq, Option.some.injEq, Addr.mk.injEq] at hv
      omega
  obtain ⟨T0, hT0⟩ : ∃ T0, 2 * d.length - 2 = T0 := ⟨_, rfl⟩
  have hT0' : 2 * (d.length : Int) - 2 = (T0 : Int) := by omega
  have hT0b : T0 ≤ 640 := by omega
  rw [hT0] at HT0 ⊢
  clear hl hR hall hE hgs hT hB hI2 hcell2 hT0
  go_enter Tryd.func64, Tryd.ntmps64
  go_wp2_with fail
  go_loopg [6, 7] L (fun k v6 v7 wx => ∃ (T : Nat) (E : List Int), v6 = .int .i64 T ∧ v7 = .int .i64 ((k : Int) - 1) ∧ k ≤ L ∧ T ≤ 1280 ∧ Hid (TakeOk S d.length k T ∧ lenGo S d k T E = lenGo S d L T0 E0 ∧ E.length = ls.length ∧ Bd E (((L - k : Nat) : Int) * 1000) ∧ Ro gl sp E wx ∧ Kept (fun i => i = gl) w wx))
  case atStart => exact ⟨T0, E0, rfl, rfl, Nat.le_refl _, by omega, HT0.out, rfl, HE.out, by simpa using HBD.out, HL.out, Kept.refl _ _⟩
  case round =>
    obtain ⟨T, E, rfl, rfl, hkL, hT, HI⟩ := hrel
    cases gk with
    | zero =>
      go_wp2_with fail
      go_end0
      obtain ⟨q1, q2, q3, q4, q5, q6⟩ := HI.out
      refine ⟨rfl, ?_, q6⟩
      rw [← q2]; exact q5
    | succ k =>
      have hk0 : (0 : Int) ≤ ((k + 1 : Nat) : Int) - 1 := by omega
      have hkk : ((k + 1 : Nat) : Int) - 1 = (k : Int) := by omega
      have hkl : (k : Int) < (L : Int) := by omega
      rw [hkk]
      have hrow := HR.out.rows k (by rw [HGS.out]; omega)
      obtain ⟨gr, hgr⟩ : ∃ gr, gs.getD k 0 = gr := ⟨_, rfl⟩
      rw [hgr] at hrow
      have crow : wr.cell? ⟨g10, k, none⟩ = some (.slice (some ⟨gr, 0, none⟩) (rowsP S k).length (rowsP S k).length) := by
        have hlt : g10 < w.heap.size := (ownsRow_lt HR.out.owns rfl).2
        rw [HI.out.2.2.2.2.2.cell (p := ⟨g10, k, none⟩) hlt (show ¬ g10 = gl by omega)]
        have ho := HR.out.owns
        rw [HGS.out] at ho
        rw [World.ownsRow.cellAt ho k (by omega)]
        rw [rowVs_at S gs (by rw [HGS.out]; omega)]
        unfold rowV
        rw [hgr]
      have HROW := hide hrow
      obtain ⟨R, hRk⟩ : ∃ R, rowsP S k = R := ⟨_, rfl⟩
      have HRK := hide hRk
      have hTl : T ≤ (rowsP S k).length := HI.out.1.1
      have hRl := rowsP_length S k
      rw [hRk] at HROW crow hTl hRl
      clear hrow hgr hRk hkk hk0
      have hTl' : (T : Int) ≤ (R.length : Int) := by omega
      go_wp2_with fail
      clear crow
      go_loopg [8, 29] T (fun gj v8 v29 wx => ∃ j : Nat, v8 = .int .i64 (cnt R j : Int) ∧ v29 = .int .i64 j ∧ j + gj = T ∧ Hid (Ro gl sp (incD E d (cnt R j)) wx ∧ Bd (incD E d (cnt R j)) (((L - (k + 1) : Nat) : Int) * 1000 + cnt R j) ∧ Kept (fun i => i = gl) w wx))
      case atStart => exact ⟨0, rfl, rfl, by omega, HI.out.2.2.2.2.1, by simpa [cnt, incD] using HI.out.2.2.2.1, HI.out.2.2.2.2.2⟩
      case round =>
        obtain ⟨j, rfl, rfl, hjT, HJ⟩ := hrel
        cases gk with
        | zero =>
          obtain rfl : j = T := by omega
          have hcl := cnt_le R j
          obtain ⟨C, hC⟩ : ∃ C, cnt R j = C := ⟨_, rfl⟩
          have HCC := hide hC
          rw [hC] at HJ hcl ⊢
          clear hC
          go_wp2_with fail
          go_roundg k
          case measure => omega
          case rel =>
            obtain ⟨q1, q2, q3, q4, q5, q6⟩ := HI.out
            obtain ⟨r1, r2, r3⟩ := HJ.out
            obtain ⟨t1, t2, t3⟩ := q1
            rw [lenGo] at q2
            rw [HRK.out, HCC.out] at q2 t2 t3
            refine ⟨2 * (j - C), incD E d C, by go_num, rfl, by omega, by omega, t3, q2, by rw [incD_length]; exact q3, ?_, r1, r3⟩
            intro i
            have := r2 i
            omega
        | succ gj =>
          have hlt : (j : Int) < (T : Int) := by omega
          have hro : PRo gr R wr := HROW.out.2.kept HJ.out.2.2 (by have := HROW.out.1; omega)
          have c0 := hro.c0 (i := j) (by omega)
          have c1 := hro.c1 (i := j) (by omega)
          rw [show 2 * j = j * 2 by omega] at c0 c1
          have hgrw := hro.lt
          obtain ⟨y, hy⟩ : ∃ y, px R j = y := ⟨_, rfl⟩
          have HY := hide hy
          rw [hy] at c0 c1
          clear hy hro
          obtain ⟨Y, YB⟩ := y
          simp only at c0 c1
          have hcj : cnt R j ≤ j := cnt_le R j
          cases YB with
          | true =>
            go_wp2_with fail
            go_roundg gj
            case measure => omega
            case rel =>
              have e : cnt R (j + 1) = cnt R j := by rw [cnt, HY.out]; simp
              refine ⟨j + 1, by rw [e], by go_num, by omega, ?_⟩
              rw [e]
              exact ⟨heap_old HJ.out.1, HJ.out.2.1, Kept.alloc _ HJ.out.2.2 _⟩
          | false =>
            have e : cnt R (j + 1) = cnt R j + 1 := by rw [cnt, HY.out]; simp
            have hcm : cnt R (j + 1) ≤ cnt R T := cnt_mono R (by omega)
            have hcd : cnt R T ≤ d.length := by rw [← HRK.out]; exact HI.out.1.2.1
            have EE := hide e
            obtain ⟨C, hC⟩ : ∃ C, cnt R j = C := ⟨_, rfl⟩
            have HCC := hide hC
            rw [hC] at HJ hcj ⊢
            have hCd : C < d.length := by omega
            have hCd' : (C : Int) < (d.length : Int) := by omega
            clear hC e hcm hcd
            obtain ⟨x, hx, hxl⟩ := HALL.out.at (i := C) hCd
            have hxl' : (x : Int) < (ls.length : Int) := by omega
            have cd : wr.cell? ⟨b2, off2 + C, none⟩ = some (.int .i64 (x : Int)) := by
              rw [HJ.out.2.2.cell (p := ⟨b2, off2 + C, none⟩) hb2w (show ¬ b2 = gl by omega), HC2.out C hCd, hx]
            have hel : (incD E d C).length = ls.length := by rw [incD_length]; exact HI.out.2.2.1
            have cl := HJ.out.1.cell (i := x) (by rw [hel]; exact hxl)
            have fl := HJ.out.1.free x
            have hset := HJ.out.1.set (i := x) (by rw [hel]; exact hxl) (ln (incD E d C) x + 1)
            have bl := HJ.out.2.1 x
            have hinc : (incD E d C).set x (ln (incD E d C) x + 1) = incD E d (C + 1) := by rw [incD, hx]; simp
            rw [hinc] at hset
            have hbd : Bd (incD E d (C + 1)) (((L - (k + 1) : Nat) : Int) * 1000 + ((C + 1 : Nat) : Int)) := by
              have := HJ.out.2.1.inc (by rw [hx, HI.out.2.2.1]; simpa using hxl)
              intro i
              have := this i
              omega
            have HSET := hide hset
            have HBD2 := hide hbd
            have hglw : gl < wr.heap.size := HJ.out.1.lt
            have hb2r : b2 < wr.heap.size := lt_of_cell cd
            clear hset hinc hbd hx hel
            generalize ln (incD E d C) x = V at cl bl HSET
            have bl2 : V ≤ 100000 := by omega
            have bl1 := bl.1
            clear bl
            go_wp2_with fail
            go_roundg gj
            case measure => omega
            case rel =>
              refine ⟨j + 1, by rw [EE.out, HCC.out]; go_num, by go_num, by omega, ?_⟩
              rw [EE.out, HCC.out]
              exact ⟨heap_old HSET.out, HBD2.out, Kept.alloc _ (HJ.out.2.2.setCell (fun _ => rfl) _) _⟩
#print axioms lengthen_c
end Go.Proofs.YtlakgbckopjelaaDoor.L

/- The best lengths of codes, as plain arithmetic: sums of the first ones of sorted lists; lists merged, and their neighbours paired; no lengths cost less than the first ones of what is merged level by level. No Go text in sight. -/
namespace Go.Proofs.YtlakgbckopjelaaDoor.L
set_option maxRecDepth 100000

/-- Rising lists. -/
def Ris (A : List Nat) : Prop := A.Pairwise (· ≤ ·)
/-- The sum of the first k. -/
def pre (A : List Nat) (k : Nat) : Nat := (A.take k).sum

theorem pre_zero (A : List Nat) : pre A 0 = 0 := by simp [pre]
theorem pre_nil (k : Nat) : pre [] k = 0 := by simp [pre]
theorem pre_cons (x : Nat) (A : List Nat) (k : Nat) : pre (x :: A) (k + 1) = x + pre A k := by simp [pre]
theorem pre_succ (A : List Nat) (k : Nat) (h : k < A.length) : pre A (k + 1) = pre A k + A.getD k 0 := by
  unfold pre
  rw [List.take_succ_eq_append_getElem h, List.sum_append]
  have : A.getD k 0 = A[k] := by simp [List.getD, h]
  rw [this]; simp
theorem pre_mono (A : List Nat) {k m : Nat} (h : k ≤ m) : pre A k ≤ pre A m := by
  induction A generalizing k m with
  | nil => simp [pre_nil]
  | cons x A ih =>
    cases k with
    | zero => rw [pre_zero]; omega
    | succ k =>
      obtain ⟨m, rfl⟩ : ∃ m', m = m' + 1 := ⟨m - 1, by omega⟩
      rw [pre_cons, pre_cons]
      have := ih (k := k) (m := m) (by omega)
      omega
theorem Ris.tail {x : Nat} {A : List Nat} (h : Ris (x :: A)) : Ris A := (List.pairwise_cons.1 h).2
theorem Ris.head {x : Nat} {A : List Nat} (h : Ris (x :: A)) : ∀ y ∈ A, x ≤ y := (List.pairwise_cons.1 h).1
theorem Ris.cons {x : Nat} {A : List Nat} (h : Ris A) (hx : ∀ y ∈ A, x ≤ y) : Ris (x :: A) := List.pairwise_cons.2 ⟨hx, h⟩
/-- One more of a rising list is not below what lies ahead of it all. -/
theorem pre_more (A : List Nat) (x k : Nat) (hk : k < A.length) (hx : ∀ y ∈ A, x ≤ y) : x + pre A k ≤ pre A (k + 1) := by
  rw [pre_succ A k hk]
  have := hx A[k] (List.getElem_mem hk)
  simp [List.getD, hk]
  omega
/-- Without its first one a rising list's first k are not below. -/
theorem pre_shift {x : Nat} {A : List Nat} (h : Ris (x :: A)) (k : Nat) (hk : k ≤ A.length) : pre (x :: A) k ≤ pre A k := by
  cases k with
  | zero => simp [pre_zero]
  | succ k => rw [pre_cons]; exact pre_more A x k (by omega) h.head

/-- Two rising lists, laid together. -/
def mrg : List Nat → List Nat → List Nat
  | [], B => B
  | x :: A, [] => x :: A
  | x :: A, y :: B => if x ≤ y then x :: mrg A (y :: B) else y :: mrg (x :: A) B
theorem mrg_nil (A : List Nat) : mrg A [] = A := by cases A <;> simp [mrg]
theorem mrg_length (A B : List Nat) : (mrg A B).length = A.length + B.length := by
  induction A generalizing B with
  | nil => simp [mrg]
  | cons x A ihA =>
    induction B with
    | nil => simp [mrg]
    | cons y B ihB =>
      rw [mrg]
      split
      · simp [ihA]; omega
      · simp only [List.length_cons] at ihB ⊢; rw [ihB]; omega
theorem mrg_mem (A B : List Nat) (z : Nat) : z ∈ mrg A B ↔ z ∈ A ∨ z ∈ B := by
  induction A generalizing B with
  | nil => simp [mrg]
  | cons x A ihA =>
    induction B with
    | nil => simp [mrg]
    | cons y B ihB =>
      rw [mrg]
      split
      · rw [List.mem_cons, ihA]; simp only [List.mem_cons]
        constructor
        · rintro (h | h | h | h) <;> simp [h]
        · rintro ((h | h) | h | h) <;> simp [h]
      · rw [List.mem_cons, ihB]; simp only [List.mem_cons]
        constructor
        · rintro (h | (h | h) | h) <;> simp [h]
        · rintro ((h | h) | h | h) <;> simp [h]
theorem mrg_ris {A B : List Nat} (hA : Ris A) (hB : Ris B) : Ris (mrg A B) := by
  induction A generalizing B with
  | nil => simpa [mrg] using hB
  | cons x A ihA =>
    induction B with
    | nil => simpa [mrg] using hA
    | cons y B ihB =>
      rw [mrg]
      split
      · rename_i hxy
        refine (ihA hA.tail hB).cons fun z hz => ?_
        rcases (mrg_mem _ _ _).1 hz with h | h
        · exact hA.head z h
        · rcases List.mem_cons.1 h with h | h
          · omega
          · have := hB.head z h; omega
      · rename_i hxy
        refine (ihB hB.tail).cons fun z hz => ?_
        rcases (mrg_mem _ _ _).1 hz with h | h
        · rcases List.mem_cons.1 h with h | h
          · omega
          · have := hA.head z h; omega
        · exact hB.head z h
/-- The first ones of both are not below the first ones of what is laid together. -/
theorem pre_mrg {A B : List Nat} (hA : Ris A) (hB : Ris B) (a b : Nat) (ha : a ≤ A.length) (hb : b ≤ B.length) : pre (mrg A B) (a + b) ≤ pre A a + pre B b := by
  induction A generalizing B a b with
  | nil =>
    simp at ha
    subst ha
    simp [mrg, pre_nil]
  | cons x A ihA =>
    induction B generalizing a b with
    | nil =>
      simp at hb
      subst hb
      simp [mrg, pre_nil]
    | cons y B ihB =>
      rw [mrg]
      split
      · rename_i hxy
        cases a with
        | succ a =>
          rw [show a + 1 + b = (a + b) + 1 by omega, pre_cons, pre_cons]
          have := ihA hA.tail hB a b (by simpa using ha) hb
          omega
        | zero =>
          cases b with
          | zero => simp [pre_zero]
          | succ b =>
            rw [show 0 + (b + 1) = b + 1 by omega, pre_cons, pre_zero]
            have h1 := ihA hA.tail hB 0 b (by omega) (by simp at hb ⊢; omega)
            rw [Nat.zero_add, pre_zero] at h1
            have h2 := pre_more (y :: B) x b (by simp at hb ⊢; omega) (fun z hz => by
              rcases List.mem_cons.1 hz with h | h
              · omega
              · have := hB.head z h; omega)
            omega
      · rename_i hxy
        cases b with
        | succ b =>
          rw [show a + (b + 1) = (a + b) + 1 by omega, pre_cons, pre_cons]
          have := ihB hB.tail a b ha (by simpa using hb)
          omega
        | zero =>
          cases a with
          | zero => simp [pre_zero]
          | succ a =>
            rw [show a + 1 + 0 = a + 1 by omega, pre_cons, pre_zero]
            have h1 := ihB hB.tail a 0 (by simp at ha ⊢; omega) (by omega)
            rw [Nat.add_zero, pre_zero] at h1
            have h2 := pre_more (x :: A) y a (by simp at ha ⊢; omega) (fun z hz => by
              rcases List.mem_cons.1 hz with h | h
              · omega
              · have := hA.head z h; omega)
            omega

/-- Neighbours, paired; a last one that has none is left out. -/
def prs : List Nat → List Nat
  | x :: y :: r => (x + y) :: prs r
  | [_] => []
  | [] => []
theorem prs_length : ∀ A : List Nat, (prs A).length = A.length / 2
  | [] => rfl
  | [_] => by simp [prs]
  | x :: y :: r => by rw [prs, List.length_cons, prs_length r]; simp only [List.length_cons]; omega
theorem pre_prs : ∀ (A : List Nat) (m : Nat), 2 * m ≤ A.length → pre (prs A) m = pre A (2 * m)
  | [], m, h => by
    have : m = 0 := by simp at h; omega
    subst this; simp [pre_zero]
  | [_], m, h => by
    have : m = 0 := by simp at h; omega
    subst this; simp [pre_zero]
  | x :: y :: r, m, h => by
    cases m with
    | zero => simp [pre_zero]
    | succ m =>
      rw [prs, show 2 * (m + 1) = 2 * m + 1 + 1 by omega, pre_cons, pre_cons, pre_cons, pre_prs r m (by simp at h; omega)]
      omega
theorem prs_le2 : ∀ (A : List Nat) (x : Nat), (∀ y ∈ A, x ≤ y) → ∀ y ∈ prs A, 2 * x ≤ y
  | [], _, _ => by simp [prs]
  | [_], _, _ => by simp [prs]
  | a :: b :: r, x, h => by
    intro y hy
    rw [prs, List.mem_cons] at hy
    rcases hy with hy | hy
    · have := h a (by simp); have := h b (by simp); omega
    · exact prs_le2 r x (fun z hz => h z (by simp [hz])) y hy
theorem prs_ris : ∀ {A : List Nat}, Ris A → Ris (prs A)
  | [], _ => by simp [prs, Ris]
  | [_], _ => by simp [prs, Ris]
  | x :: y :: r, h => by
    rw [prs]
    refine (prs_ris h.tail.tail).cons fun z hz => ?_
    have hy := h.tail.head
    have hx := h.head y (by simp)
    have := prs_le2 r y hy z hz
    omega

/-- What is merged, d levels deep. -/
def pk (A : List Nat) : Nat → List Nat
  | 0 => []
  | d + 1 => mrg A (prs (pk A d))
theorem pk_ris {A : List Nat} (h : Ris A) (d : Nat) : Ris (pk A d) := by
  induction d with
  | zero => simp [pk, Ris]
  | succ d ih => exact mrg_ris h (prs_ris ih)
theorem pk_length (A : List Nat) (d : Nat) : (pk A (d + 1)).length = A.length + (pk A d).length / 2 := by
  rw [pk, mrg_length, prs_length]

/-- How many are taken, d levels deep, where each level takes c of the list itself. -/
def tk (c : Nat → Nat) : Nat → Nat
  | 0 => 0
  | d + 1 => c (d + 1) + tk c d / 2
/-- What that costs at least. -/
def cc (A : List Nat) (c : Nat → Nat) : Nat → Nat
  | 0 => 0
  | d + 1 => cc A c d + pre A (c (d + 1))
theorem tk_le (A : List Nat) (c : Nat → Nat) (hc : ∀ d, c d ≤ A.length) (d : Nat) : tk c d ≤ (pk A d).length := by
  induction d with
  | zero => simp [tk]
  | succ d ih =>
    rw [pk_length, tk]
    have := hc (d + 1)
    have : tk c d / 2 ≤ (pk A d).length / 2 := Nat.div_le_div_right ih
    omega
/-- No way of taking costs less than the first ones of what is merged. -/
theorem pk_least {A : List Nat} (hA : Ris A) (c : Nat → Nat) (hc : ∀ d, c d ≤ A.length) (d : Nat) : pre (pk A d) (tk c d) ≤ cc A c d := by
  induction d with
  | zero => simp [tk, pre_zero, cc]
  | succ d ih =>
    rw [pk, tk, cc]
    have hl := tk_le A c hc d
    have h1 := pre_mrg hA (prs_ris (pk_ris hA d)) (c (d + 1)) (tk c d / 2) (hc _) (by rw [prs_length]; exact Nat.div_le_div_right hl)
    rw [pre_prs (pk A d) (tk c d / 2) (by omega)] at h1
    have h2 := pre_mono (pk A d) (show 2 * (tk c d / 2) ≤ tk c d by omega)
    omega
end Go.Proofs.YtlakgbckopjelaaDoor.L

/- No lengths that may be cost less than the first 2n - 2 of what is merged. No Go text in sight. -/
namespace Go.Proofs.YtlakgbckopjelaaDoor.L
set_option maxRecDepth 100000

/-- Weights and lengths: what they cost. -/
def cst (Z : List (Nat × Nat)) : Nat := (Z.map fun z => z.1 * z.2).sum
/-- How much room they take, out of 2^L. -/
def krf (L : Nat) (Z : List (Nat × Nat)) : Nat := (Z.map fun z => 2 ^ (L - z.2)).sum
/-- How many are at least so long; their weights together. -/
def cge (Z : List (Nat × Nat)) (k : Nat) : Nat := (Z.filter fun z => decide (k ≤ z.2)).length
def sge (Z : List (Nat × Nat)) (k : Nat) : Nat := ((Z.filter fun z => decide (k ≤ z.2)).map (·.1)).sum

theorem cst_cons (z : Nat × Nat) (Z : List (Nat × Nat)) : cst (z :: Z) = z.1 * z.2 + cst Z := by simp [cst]
theorem krf_cons (L : Nat) (z : Nat × Nat) (Z : List (Nat × Nat)) : krf L (z :: Z) = 2 ^ (L - z.2) + krf L Z := by simp [krf]
theorem cge_cons (z : Nat × Nat) (Z : List (Nat × Nat)) (k : Nat) : cge (z :: Z) k = (if k ≤ z.2 then 1 else 0) + cge Z k := by
  unfold cge
  by_cases h : k ≤ z.2 <;> simp [h]; omega
theorem sge_cons (z : Nat × Nat) (Z : List (Nat × Nat)) (k : Nat) : sge (z :: Z) k = (if k ≤ z.2 then z.1 else 0) + sge Z k := by
  unfold sge
  by_cases h : k ≤ z.2 <;> simp [h]
theorem cge_le (Z : List (Nat × Nat)) (k : Nat) : cge Z k ≤ Z.length := List.length_filter_le _ _

/-- Those that are so long weigh at least as much as as many of the lightest. -/
theorem pre_sge {Z : List (Nat × Nat)} (h : Ris (Z.map (·.1))) (k : Nat) : pre (Z.map (·.1)) (cge Z k) ≤ sge Z k := by
  induction Z with
  | nil => simp [cge, pre_zero]
  | cons z Z ih =>
    have i := ih h.tail
    rw [cge_cons, sge_cons, List.map_cons]
    by_cases hz : k ≤ z.2
    · rw [if_pos hz, if_pos hz, Nat.add_comm 1, pre_cons]; omega
    · rw [if_neg hz, if_neg hz, Nat.zero_add, Nat.zero_add]
      rw [List.map_cons] at h
      have := pre_shift h (cge Z k) (by rw [List.length_map]; exact cge_le Z k)
      omega

/-- Sums over levels, the deepest first. -/
def sumD (f : Nat → Nat) : Nat → Nat
  | 0 => 0
  | d + 1 => sumD f d + f (d + 1)
theorem sumD_le {f g : Nat → Nat} (h : ∀ d, f d ≤ g d) (d : Nat) : sumD f d ≤ sumD g d := by
  induction d with
  | zero => simp [sumD]
  | succ d ih => rw [sumD, sumD]; have := h (d + 1); omega
theorem sumD_add (f g : Nat → Nat) (d : Nat) : sumD (fun k => f k + g k) d = sumD f d + sumD g d := by
  induction d with
  | zero => simp [sumD]
  | succ d ih => rw [sumD, sumD, sumD, ih]; omega
theorem cc_sumD (A : List Nat) (c : Nat → Nat) (d : Nat) : cc A c d = sumD (fun k => pre A (c k)) d := by
  induction d with
  | zero => rfl
  | succ d ih => rw [cc, sumD, ih]

/-- One symbol's levels. -/
theorem one_w (L l w d : Nat) (hl : l ≤ L) (hd : d ≤ L) : sumD (fun k => if L + 1 - k ≤ l then w else 0) d = w * (d - (L - l)) := by
  induction d with
  | zero => simp [sumD]
  | succ d ih =>
    rw [sumD, ih (by omega)]
    by_cases h : L + 1 - (d + 1) ≤ l
    · rw [if_pos h, show d + 1 - (L - l) = (d - (L - l)) + 1 by omega, Nat.mul_succ]
    · rw [if_neg h, show d + 1 - (L - l) = 0 by omega, show d - (L - l) = 0 by omega, Nat.add_zero]
theorem one_2 (L l d : Nat) (hl : l ≤ L) (hd : d ≤ L) (h : L - l ≤ d) : sumD (fun k => if L + 1 - k ≤ l then 2 ^ k else 0) d + 2 ^ (L + 1 - l) = 2 ^ (d + 1) := by
  induction d with
  | zero =>
    have : l = L := by omega
    subst this
    simp [sumD]
  | succ d ih =>
    rw [sumD]
    by_cases e : L - l = d + 1
    · have hz : sumD (fun k => if L + 1 - k ≤ l then 2 ^ k else 0) d = 0 := by
        have : ∀ j, j ≤ d → sumD (fun k => if L + 1 - k ≤ l then 2 ^ k else 0) j = 0 := by
          intro j hj
          induction j with
          | zero => rfl
          | succ j ihj => rw [sumD, ihj (by omega), if_neg (by omega)]
        exact this d (Nat.le_refl _)
      rw [hz, if_neg (by omega), show L + 1 - l = d + 1 + 1 by omega]; omega
    · have i := ih (by omega) (by omega)
      rw [if_pos (by omega), Nat.pow_succ 2 (d + 1)]
      omega

/-- The cost, level by level. -/
theorem cst_levels (L : Nat) (Z : List (Nat × Nat)) (h : ∀ z ∈ Z, z.2 ≤ L) : sumD (fun d => sge Z (L + 1 - d)) L = cst Z := by
  induction Z with
  | nil =>
    have : ∀ d, sumD (fun d => sge [] (L + 1 - d)) d = 0 := by
      intro d
      induction d with
      | zero => rfl
      | succ d ih => rw [sumD, ih]; simp [sge]
    rw [this]; simp [cst]
  | cons z Z ih =>
    have e : (fun d => sge (z :: Z) (L + 1 - d)) = fun d => (if L + 1 - d ≤ z.2 then z.1 else 0) + sge Z (L + 1 - d) := by
      funext d; exact sge_cons z Z _
    rw [e, sumD_add, ih (fun y hy => h y (by simp [hy])), one_w L z.2 z.1 L (h z (by simp)) (Nat.le_refl _), cst_cons, show L - (L - z.2) = z.2 by have := h z (by simp); omega]
/-- The room, level by level. -/
theorem krf_levels (L : Nat) (Z : List (Nat × Nat)) (h : ∀ z ∈ Z, z.2 ≤ L) : sumD (fun d => cge Z (L + 1 - d) * 2 ^ d) L + 2 * krf L Z = Z.length * 2 ^ (L + 1) := by
  induction Z with
  | nil =>
    have : ∀ d, sumD (fun d => cge [] (L + 1 - d) * 2 ^ d) d = 0 := by
      intro d
      induction d with
      | zero => rfl
      | succ d ih => rw [sumD, ih]; simp [cge]
    rw [this]; simp [krf]
  | cons z Z ih =>
    have hz := h z (by simp)
    have e : (fun d => cge (z :: Z) (L + 1 - d) * 2 ^ d) = fun d => (if L + 1 - d ≤ z.2 then 2 ^ d else 0) + cge Z (L + 1 - d) * 2 ^ d := by
      funext d
      rw [cge_cons, Nat.add_mul]
      by_cases h : L + 1 - d ≤ z.2 <;> simp [h]
    have i := ih (fun y hy => h y (by simp [hy]))
    have o := one_2 L z.2 L hz (Nat.le_refl _) (by omega)
    rw [e, sumD_add, krf_cons, List.length_cons, Nat.add_mul, Nat.one_mul]
    have p : 2 ^ (L + 1 - z.2) = 2 * 2 ^ (L - z.2) := by rw [show L + 1 - z.2 = (L - z.2) + 1 by omega, Nat.pow_succ]; omega
    omega

theorem tk_div (c : Nat → Nat) (d : Nat) : tk c d = sumD (fun k => c k * 2 ^ k) d / 2 ^ d := by
  induction d with
  | zero => simp [tk, sumD]
  | succ d ih =>
    rw [tk, ih, sumD, Nat.add_mul_div_right _ _ (Nat.two_pow_pos (d + 1)), Nat.pow_succ, ← Nat.div_div_eq_div_mul]
    omega

/-- THE BOUND: lengths of at most L bits that take no more room than there is cost no less than the first 2n - 2 of what is merged. -/
theorem best_least (L : Nat) (Z : List (Nat × Nat)) (hr : Ris (Z.map (·.1))) (h : ∀ z ∈ Z, z.2 ≤ L) (hk : krf L Z ≤ 2 ^ L) : pre (pk (Z.map (·.1)) L) (2 * Z.length - 2) ≤ cst Z := by
  have hc : ∀ d, (fun d => cge Z (L + 1 - d)) d ≤ (Z.map (·.1)).length := fun d => by rw [List.length_map]; exact cge_le Z _
  have h1 := pk_least hr (fun d => cge Z (L + 1 - d)) hc L
  have h2 : cc (Z.map (·.1)) (fun d => cge Z (L + 1 - d)) L ≤ cst Z := by
    rw [cc_sumD, ← cst_levels L Z h]
    exact sumD_le (fun d => pre_sge hr _) L
  have h3 : 2 * Z.length - 2 ≤ tk (fun d => cge Z (L + 1 - d)) L := by
    rw [tk_div, Nat.le_div_iff_mul_le (Nat.two_pow_pos L)]
    have k := krf_levels L Z h
    rw [Nat.pow_succ] at k
    have e : (2 * Z.length - 2) * 2 ^ L = Z.length * (2 ^ L * 2) - 2 * 2 ^ L := by
      rw [Nat.sub_mul, Nat.mul_comm (2 ^ L) 2, ← Nat.mul_assoc, Nat.mul_comm Z.length 2]
    omega
  have h4 := pre_mono (pk (Z.map (·.1)) L) h3
  omega
#print axioms best_least
end Go.Proofs.YtlakgbckopjelaaDoor.L
