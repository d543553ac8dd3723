/- Two rising rows of parcels laid together. -/
import Derived.Test.YtdeigchkpakdaaaLCopy
import Derived.Deep.DeepCutAuto
import Derived.Deep.RegionWith
namespace Go.Proofs.Ytdeigchkpakdaaa
open Go Go.RowKit

def mrgP : List (Int × Bool) → List (Int × Bool) → List (Int × Bool)
  | [], B => B
  | x :: A, [] => x :: A
  | x :: A, y :: B => if x.1 ≤ y.1 then x :: mrgP A (y :: B) else y :: mrgP (x :: A) B
theorem mrgP_nil (A : List (Int × Bool)) : mrgP A [] = A := by cases A <;> simp [mrgP]
theorem mrgP_length (A B : List (Int × Bool)) : (mrgP A B).length = A.length + B.length := by
  induction A generalizing B with
  | nil => simp [mrgP]
  | cons x A ihA =>
    induction B with
    | nil => simp [mrgP]
    | cons y B ihB =>
      rw [mrgP]
      split
      · simp only [List.length_cons, ihA]; omega
      · simp only [List.length_cons, ihB]; omega
/-- What goes ahead of the next package. -/
theorem mrgP_step (A B : List (Int × Bool)) (y : Int × Bool) (t : Nat) (ht : t ≤ A.length) (h1 : ∀ i, i < t → (px A i).1 ≤ y.1) (h2 : t = A.length ∨ y.1 < (px A t).1) : mrgP A (y :: B) = A.take t ++ y :: mrgP (A.drop t) B := by
  induction A generalizing t with
  | nil =>
    have : t = 0 := by simpa using ht
    subst this; simp [mrgP]
  | cons x A ih =>
    cases t with
    | zero =>
      have h3 : y.1 < x.1 := by
        rcases h2 with h2 | h2
        · simp at h2
        · simpa [px] using h2
      rw [mrgP, if_neg (by omega)]; simp
    | succ t =>
      have h0 := h1 0 (by omega)
      simp [px] at h0
      rw [mrgP, if_pos h0, ih t (by simpa using ht) (fun i hi => by have := h1 (i + 1) (by omega); simpa [px] using this) (by
        rcases h2 with h2 | h2
        · left; simpa using h2
        · right; simpa [px] using h2)]
      simp
theorem px_drop (A : List (Int × Bool)) (s i : Nat) : px (A.drop s) i = px A (s + i) := by simp [px, List.getD]
theorem px_app_left {A B : List (Int × Bool)} {i : Nat} (h : i < A.length) : px (A ++ B) i = px A i := by simp [px, List.getD, List.getElem?_append_left h]
theorem px_app_right {A B : List (Int × Bool)} {i : Nat} (h : A.length ≤ i) : px (A ++ B) i = px B (i - A.length) := by simp [px, List.getD, List.getElem?_append_right h]
theorem px_take {A : List (Int × Bool)} {t i : Nat} (h : i < t) : px (A.take t) i = px A i := by simp [px, List.getD, h]
/-- So far: s of the first row, j of the second. -/
structure MgI (A B Z : List (Int × Bool)) (s j : Nat) : Prop where
  hs : s ≤ A.length
  hj : j ≤ B.length
  eq : Z.drop (s + j) = mrgP (A.drop s) (B.drop j)
theorem MgI.start (A B : List (Int × Bool)) : MgI A B (mrgP A B) 0 0 := ⟨Nat.zero_le _, Nat.zero_le _, rfl⟩
theorem MgI.step {A B Z : List (Int × Bool)} {s j t : Nat} (h : MgI A B Z s j) (hj : j < B.length) (ht : s + t ≤ A.length) (h1 : ∀ i, i < t → (px A (s + i)).1 ≤ (px B j).1) (h2 : s + t = A.length ∨ (px B j).1 < (px A (s + t)).1) :
    MgI A B Z (s + t) (j + 1) ∧ (∀ i, i < t → px Z (s + j + i) = px A (s + i)) ∧ px Z (s + j + t) = px B j := by
  have e := h.eq
  have hb : B.drop j = px B j :: B.drop (j + 1) := by rw [px_in hj]; exact List.drop_eq_getElem_cons hj
  rw [hb, mrgP_step (A.drop s) (B.drop (j + 1)) (px B j) t (by rw [List.length_drop]; omega) (fun i hi => by rw [px_drop]; exact h1 i hi) (by
    rcases h2 with h2 | h2
    · left; rw [List.length_drop]; omega
    · right; rw [px_drop]; exact h2)] at e
  have hlt : ((A.drop s).take t).length = t := by rw [List.length_take, List.length_drop]; omega
  refine ⟨⟨ht, hj, ?_⟩, fun i hi => ?_, ?_⟩
  · have e2 := congrArg (List.drop (t + 1)) e
    rw [List.drop_drop, List.drop_append, hlt] at e2
    rw [show s + t + (j + 1) = s + j + (t + 1) by omega, e2, List.drop_eq_nil_of_le (by rw [hlt]; omega), show t + 1 - t = 1 by omega, List.drop_drop]
    simp
  · have e2 := congrArg (fun L => px L i) e
    simp only [px_drop] at e2
    rw [e2, px_app_left (by rw [hlt]; exact hi), px_take hi, px_drop]
  · have e2 := congrArg (fun L => px L t) e
    simp only [px_drop] at e2
    rw [e2, px_app_right (by rw [hlt]; exact Nat.le_refl _), hlt, Nat.sub_self]
    simp [px]
theorem MgI.done {A B Z : List (Int × Bool)} {s : Nat} (h : MgI A B Z s B.length) (i : Nat) (_hi : i < A.length - s) : px Z (s + B.length + i) = px A (s + i) := by
  have e := h.eq
  rw [List.drop_length, mrgP_nil] at e
  have e2 := congrArg (fun L => px L i) e
  simpa only [px_drop] using e2

abbrev parO (p : Int × Bool) : Obj := .cells #[.int .i64 p.1, .bool p.2] 45

set_option maxHeartbeats 2000000 in
set_option maxRecDepth 100000 in
theorem merge_c (gA gB : Nat) (A B : List (Int × Bool)) (w : World) (hA : PRo gA A w) (hB : PRo gB B w) (hn : A.length ≤ 100000) (hm : B.length ≤ 100000) :
    Calls Try.prog 26 #[.slice (some ⟨gA, 0, none⟩) A.length A.length, .slice (some ⟨gB, 0, none⟩) B.length B.length] w fun e w' => e = .returned (.slice (some ⟨w.heap.size, 0, none⟩) (A.length + B.length) (A.length + B.length)) ∧ PRo w.heap.size (mrgP A B) w' ∧ Below w.heap.size w w' := by
  obtain ⟨i0, hi0, hz0, hz1', hz2'⟩ := info_parts Try.infoPar
  have hmk := made_pars (A.length + B.length) i0 hi0 hz0 hz1' hz2' (by omega)
  obtain ⟨N, hN⟩ : ∃ N, A.length + B.length = N := ⟨_, rfl⟩
  have hN' : (A.length : Int) + (B.length : Int) = (N : Int) := by omega
  have hN1 : N ≤ A.length + B.length := by omega
  have hN2 : A.length + B.length ≤ N := by omega
  rw [hN] at hmk ⊢
  have HN := hide hN
  clear hN
  have HA := hide hA
  have HB := hide hB
  have hgA := hA.lt
  have hgB := hB.lt
  clear hA hB
  obtain ⟨Z, hZ⟩ : ∃ Z, mrgP A B = Z := ⟨_, rfl⟩
  have HZL : Hid (Z.length = N) := (show Z.length = N by rw [← hZ, mrgP_length, HN.out])
  have HMI : Hid (MgI A B Z 0 0) := hide (by rw [← hZ]; exact MgI.start A B)
  rw [hZ]
  clear hZ
  go_enter Try.func26, Try.ntmps26
  go_wp2_with fail
  go_loopg [0, 6, 18] B.length (fun gk v0 v6 v18 wx => ∃ s j o : Nat, v0 = .slice (some ⟨gA, o, none⟩) (A.length - s) (A.length - s) ∧ v6 = .int .i64 ((s + j : Nat) : Int) ∧ v18 = .int .i64 j ∧ j + gk = B.length ∧ s ≤ A.length ∧ Hid ((s < A.length → o = s * 2) ∧ MgI A B Z s j ∧ PRo w.heap.size (filP Z (s + j)) wx ∧ Below w.heap.size w wx))
  case atStart =>
    refine ⟨0, 0, 0, rfl, rfl, rfl, by omega, by omega, fun _ => rfl, HMI.out, ?_, (Below.refl _ w).alloc (Nat.le_refl _) _⟩
    rw [filP_zero, HZL.out]
    exact heap_new w _
  case round =>
    obtain ⟨s, j, o, rfl, rfl, rfl, hjg, hsA, HI⟩ := hrel
    obtain ⟨L, hL⟩ : ∃ L, A.length - s = L := ⟨_, rfl⟩
    obtain ⟨T, hT⟩ : ∃ T, s + j = T := ⟨_, rfl⟩
    have hL1 : L + s ≤ A.length := by omega
    have hL2 : A.length ≤ L + s := by omega
    have hT1 : s + j ≤ T := by omega
    have hT2 : T ≤ s + j := by omega
    rw [hL, hT]
    rw [hT] at HI
    clear hL hT
    cases gk with
    | zero =>
      have hjB : j = B.length := by omega
      have hTN1 : (T : Int) ≤ (N : Int) := by omega
      have HRW : Hid (PRo w.heap.size (filP Z T) wr) := HI.out.2.2.1
      have hmg := HI.out.2.1
      rw [hjB] at hmg
      have hdn := hmg.done
      rw [← hjB, show s + j = T by omega] at hdn
      have hsrc : Par gA (gA + 1) wr (some ⟨gA, o, none⟩) (A.drop s) := by
        by_cases h0 : L = 0
        · left; rw [List.length_drop]; omega
        · right
          refine ⟨gA, s, A, Nat.le_refl _, by omega, HA.out.kept (Kept.of_below HI.out.2.2.2) (by omega), ?_, ?_, fun i hi => ?_⟩
          · rw [HI.out.1 (by omega), Nat.mul_comm]
          · simp; omega
          · rw [px_drop]
      have hdl : (A.drop s).length = L := by rw [List.length_drop]; omega
      have hrunX := fun dp (hdp : 0 < (A.drop s).length → dp = some ⟨w.heap.size, T * 2, none⟩) => copy_run 3 w.heap.size Z T (N - T) (N - T) dp (some ⟨gA, o, none⟩) L L wr (A.drop s) gA (gA + 1) hsrc (by rw [hdl]; have : L ≤ N - T := (by omega); exact (Nat.min_eq_left this).symm) hdp HRW.out (by rw [hdl, HZL.out]; omega) (fun i hi => by rw [hdn i (by rw [hdl] at hi; omega), px_drop])
      rw [hdl] at hrunX
      have HBL := hide HI.out.2.2.2
      have hfin : ∀ w2, CpOk w.heap.size Z (T + L) wr w2 → PRo w.heap.size Z w2 ∧ Below w.heap.size w w2 := by
        intro w2 hok
        refine ⟨?_, HBL.out.trans (hok.2.below (B := w.heap.size) HBL.out.size (fun i hi e => by omega))⟩
        have := hok.1
        rw [show T + L = Z.length by rw [HZL.out]; omega, filP_all] at this
        exact this
      have HFIN := hide hfin
      clear hdn hmg hsrc hdl hfin HI hjB
      by_cases hNT : N = T
      · have hL0 : L = 0 := by omega
        obtain ⟨w2, hrun, hok⟩ := hrunX (some ⟨w.heap.size, 0, none⟩) (fun h => by omega)
        have HOK := hide hok
        clear hok hrunX hL0
        subst hNT
        rw [Nat.sub_self] at hrun
        go_wp2_with fail
        go_ret
        exact ⟨rfl, HFIN.out _ HOK.out⟩
      · obtain ⟨w2, hrun, hok⟩ := hrunX (some ⟨w.heap.size, T * 2, none⟩) (fun _ => rfl)
        have HOK := hide hok
        clear hok hrunX
        have hNT' : ¬ T = N := fun e => hNT e.symm
        go_wp2_with fail
        go_ret
        exact ⟨rfl, HFIN.out _ HOK.out⟩
    | succ g1 =>
      have hlt : (j : Int) < (B.length : Int) := by omega
      have hBr : PRo gB B wr := HB.out.kept (Kept.of_below HI.out.2.2.2) (by omega)
      have cb0 := hBr.c0 (i := j) (by omega)
      have cb1 := hBr.c1 (i := j) (by omega)
      rw [show 2 * j = j * 2 by omega] at cb0 cb1
      obtain ⟨y, hy⟩ : ∃ y, px B j = y := ⟨_, rfl⟩
      have HY := hide hy
      rw [hy] at cb0 cb1
      clear hy hBr
      obtain ⟨Y, YB⟩ := y
      simp only at cb0 cb1
      have HWs : Hid (w.heap.size + 1 ≤ wr.heap.size) := hide (by have := HI.out.2.2.1.lt; omega)
      go_wp2_with fail
      have HR1 : Hid (PRo w.heap.size (filP Z T) (wr.alloc (parO (Y, YB)))) := hide (heap_old HI.out.2.2.1)
      have HB1 : Hid (Below w.heap.size w (wr.alloc (parO (Y, YB)))) := hide (HI.out.2.2.2.alloc (by have := HWs.out; omega) _)
      have HY0 : Hid ((wr.alloc (parO (Y, YB))).cell? ⟨wr.heap.size, 0, none⟩ = some (.int .i64 Y) ∧ (wr.alloc (parO (Y, YB))).cell? ⟨wr.heap.size, 1, none⟩ = some (.bool YB)) := hide ⟨by rw [cells_of (heap_new wr _)]; rfl, by rw [cells_of (heap_new wr _)]; rfl⟩
      have HSZ : Hid ((wr.alloc (parO (Y, YB))).heap.size = wr.heap.size + 1) := hide (by simp)
      clear cb0 cb1
      obtain ⟨pb, hpb⟩ : ∃ pb, wr.heap.size = pb := ⟨_, rfl⟩
      have hpb1 : w.heap.size + 1 ≤ pb := by have := HWs.out; omega
      obtain ⟨W1, hW1⟩ : ∃ W1, wr.alloc (parO (Y, YB)) = W1 := ⟨_, rfl⟩
      have HMG := hide HI.out.2.1
      have HO := hide HI.out.1
      rw [hpb, hW1] at HY0 HSZ
      rw [hW1] at HR1 HB1
      rw [hpb]
      change Code.wp _ _ _ _ (wr.alloc (parO (Y, YB)))
      rw [hW1]
      clear hpb hW1 HI HWs
      go_loopg [9] L (fun g2 v9 wx => ∃ t q : Nat, v9 = .int .i64 t ∧ t + g2 = L ∧ Hid (∀ i, i < t → (px A (s + i)).1 ≤ Y) ∧ wx = W1.drewN q)
      case atStart => exact ⟨0, 0, rfl, by omega, fun i hi => by omega, rfl⟩
      case round =>
        obtain ⟨t, q, rfl, htg, HT, rfl⟩ := hrel
        go_upto_region 7 with fail
        go_cut [35] (fun v wx => ∃ (β : Bool) (q' : Nat), v = .bool β ∧ Hid (β = true ↔ (t < L ∧ (px A (s + t)).1 ≤ Y)) ∧ wx = W1.drewN q')
        case first =>
          have cp : (W1.drewN q).cell? ⟨pb, 0, none⟩ = some (.int .i64 Y) := HY0.out.1
          by_cases htL : t < L
          · have htL' : (t : Int) < (L : Int) := by omega
            have hdt : decide ((t : Int) < (L : Int)) = true := by simp; omega
            have hro : PRo gA A (W1.drewN q) := (HA.out.kept (Kept.of_below HB1.out) (by omega) : PRo gA A W1)
            have cA := hro.c0 (i := s + t) (by omega)
            rw [show 2 * (s + t) = o + t * 2 by have := HO.out (by omega); omega] at cA
            obtain ⟨X, hX⟩ : ∃ X, (px A (s + t)).1 = X := ⟨_, rfl⟩
            rw [hX] at cA
            have EX := hide hX
            clear hX hro
            generalize hWq : W1.drewN q = wq at cp cA ⊢
            have HWq := hide hWq
            clear hWq
            by_cases hXY : X ≤ Y
            · go_quiet (fail)
              go_wp2_with fail
              go_meet
              case rel => exact ⟨true, q + nq, rfl, ⟨fun _ => ⟨htL, by rw [EX.out]; exact hXY⟩, fun _ => rfl⟩, by rw [← HWq.out, World.drewN_drewN]⟩
            · go_quiet (fail)
              go_wp2_with fail
              go_meet
              case rel => exact ⟨false, q + nq, rfl, ⟨fun h => (by cases h), fun h => absurd h.2 (by rw [EX.out]; omega)⟩, by rw [← HWq.out, World.drewN_drewN]⟩
          · have htL' : ¬ (t : Int) < (L : Int) := by omega
            have hdt : decide ((t : Int) < (L : Int)) = false := by simp; omega
            generalize hWq : W1.drewN q = wq at cp ⊢
            have HWq := hide hWq
            clear hWq
            go_quiet (fail)
            go_wp2_with fail
            go_meet
            case rel => exact ⟨false, q + nq, rfl, ⟨fun h => (by cases h), fun h => absurd h.1 htL⟩, by rw [← HWq.out, World.drewN_drewN]⟩
        case rest =>
          obtain ⟨β, q', rfl, HBT, rfl⟩ := hcut
          cases β with
          | true =>
            have HK := hide (HBT.out.1 rfl)
            have hk1 := HK.out.1
            clear HBT
            go_wp2_with fail
            go_roundg (L - (t + 1))
            case measure => omega
            case rel =>
              obtain ⟨k1, k2⟩ := HK.out
              refine ⟨t + 1, q', by go_num, by omega, fun i hi => ?_, rfl⟩
              by_cases e : i = t
              · rw [e]; exact k2
              · exact HT.out i (by omega)
          | false =>
            have HK : Hid (L ≤ t ∨ Y < (px A (s + t)).1) := hide (Classical.byContradiction fun h => by have := HBT.out.2 (by omega); cases this)
            clear HBT
            have htL : t ≤ L := by omega
            have hTN : (T : Int) < (N : Int) := by have := HMG.out.hj; omega
            have hTN1 : (T : Int) ≤ (N : Int) := by omega
            have htL1 : (t : Int) ≤ (L : Int) := by omega
            obtain ⟨hmg, hz1, hz2⟩ := HMG.out.step (t := t) (by omega) (by omega) (by rw [HY.out]; exact HT.out) (by rw [HY.out]; have := HK.out; omega)
            rw [HY.out] at hz2
            rw [show s + j = T by omega] at hz1 hz2
            have HR2 : Hid (PRo w.heap.size (filP Z T) (W1.drewN q')) := HR1.out
            have HA2 : Hid (PRo gA A (W1.drewN q')) := (HA.out.kept (Kept.of_below HB1.out) (by omega) : PRo gA A W1)
            have HB2 : Hid (Below w.heap.size w (W1.drewN q')) := ⟨HB1.out.os, HB1.out.tape, HB1.out.output, HB1.out.size, HB1.out.block⟩
            have HY2 : Hid ((W1.drewN q').cell? ⟨pb, 0, none⟩ = some (.int .i64 Y) ∧ (W1.drewN q').cell? ⟨pb, 1, none⟩ = some (.bool YB) ∧ pb < (W1.drewN q').heap.size) := ⟨HY0.out.1, HY0.out.2, (by show pb < W1.heap.size; rw [HSZ.out]; omega)⟩
            generalize W1.drewN q' = wq at HR2 HA2 HB2 HY2 ⊢
            have hsrc : Par gA (gA + 1) (wq.drew) (some ⟨gA, o, none⟩) ((A.drop s).take t) := by
              by_cases h0 : t = 0
              · left; simp [h0]
              · right
                refine ⟨gA, s, A, Nat.le_refl _, by omega, HA2.out, ?_, ?_, fun i hi => ?_⟩
                · rw [HO.out (by omega), Nat.mul_comm]
                · simp; omega
                · have : i < t := by simp at hi; omega
                  rw [px_take this, px_drop]
            have htl : ((A.drop s).take t).length = t := by simp; omega
            obtain ⟨w2, hrun, hok⟩ := copy_run 3 w.heap.size Z T (N - T) (N - T) (some ⟨w.heap.size, T * 2, none⟩) (some ⟨gA, o, none⟩) t L (wq.drew) ((A.drop s).take t) gA (gA + 1) hsrc (by rw [htl]; have : t ≤ N - T := (by omega); exact (Nat.min_eq_left this).symm) (fun _ => rfl) HR2.out (by rw [htl, HZL.out]; omega) (fun i hi => by have : i < t := (by rw [htl] at hi; exact hi); rw [hz1 i this, px_take this, px_drop])
            rw [htl] at hrun hok
            have HOK := hide hok
            have HMG2 := hide hmg
            have HZ2 := hide hz2
            clear hok hmg hz1 hz2 hsrc htl
            have hNT : ¬ N = T := by omega
            go_wp2_with fail
            go_region
            have hq0 : (0 : Int) ≤ (T : Int) + (t : Int) := by omega
            have hq1 : (T : Int) + (t : Int) < (N : Int) := by have := HMG2.out.hj; have := HMG2.out.hs; omega
            have hq2 : ((T : Int) + (t : Int)).toNat = T + t := by omega
            have hqz : T + t < Z.length := by rw [HZL.out]; omega
            have c0 := HOK.out.1.c0 (i := T + t) (by rw [filP_length]; exact hqz)
            have c1 := HOK.out.1.c1 (i := T + t) (by rw [filP_length]; exact hqz)
            have f0 := HOK.out.1.free (2 * (T + t))
            have f1 := HOK.out.1.free (2 * (T + t) + 1)
            rw [show 2 * (T + t) = (T + t) * 2 by omega] at c0 c1 f0 f1
            have p0 : w2.cell? ⟨pb, 0, none⟩ = some (.int .i64 Y) := (HOK.out.2.cell (p := ⟨pb, 0, none⟩) HY2.out.2.2 (show ¬ pb = w.heap.size by omega)).trans HY2.out.1
            have p1 : w2.cell? ⟨pb, 1, none⟩ = some (.bool YB) := (HOK.out.2.cell (p := ⟨pb, 1, none⟩) HY2.out.2.2 (show ¬ pb = w.heap.size by omega)).trans HY2.out.2.1
            have hset := HOK.out.1.set (i := T + t) (by rw [filP_length]; exact hqz) (px Z (T + t))
            rw [filP_set Z (T + t) hqz, HZ2.out, show 2 * (T + t) = (T + t) * 2 by omega] at hset
            have HSET := hide hset
            have HBW : Hid (Below w.heap.size w w2) := (HB2.out.drew).trans (HOK.out.2.below (B := w.heap.size) HB2.out.size (fun i hi e => by omega))
            generalize (px (filP Z (T + t)) (T + t)).1 = E0 at c0
            generalize (px (filP Z (T + t)) (T + t)).2 = E1 at c1
            clear hset hrun hqz
            have HEND : Hid (PRo w.heap.size (filP Z (s + t + (j + 1))) ((w2.setCell ⟨w.heap.size, (T + t) * 2, none⟩ (.int .i64 Y)).setCell ⟨w.heap.size, (T + t) * 2 + 1, none⟩ (.bool YB)) ∧ Below w.heap.size w ((w2.setCell ⟨w.heap.size, (T + t) * 2, none⟩ (.int .i64 Y)).setCell ⟨w.heap.size, (T + t) * 2 + 1, none⟩ (.bool YB))) := by
              refine ⟨?_, (HBW.out.setCell (Nat.le_refl _) _).setCell (Nat.le_refl _) _⟩
              rw [show s + t + (j + 1) = T + t + 1 by omega]
              exact HSET.out
            by_cases hLt : L = t
            · have HLT := hide hLt
              clear HSET HBW
              subst hLt
              go_wp2_with fail
              go_roundg g1
              case measure => omega
              case rel => exact ⟨s + L, j + 1, o, by rw [show A.length - (s + L) = 0 by omega], congrArg (Value.int .i64) (by omega), by go_num, by omega, by omega, fun h => by omega, HMG2.out, HEND.out⟩
            · have hLt' : ¬ t = L := fun e => hLt e.symm
              clear HSET HBW
              go_wp2_with fail
              go_roundg g1
              case measure => omega
              case rel => exact ⟨s + t, j + 1, _, by rw [show A.length - (s + t) = L - t by omega], congrArg (Value.int .i64) (by omega), by go_num, by omega, by omega, fun h => by have := HO.out (by omega); omega, HMG2.out, HEND.out⟩
#print axioms merge_c
end Go.Proofs.Ytdeigchkpakdaaa
