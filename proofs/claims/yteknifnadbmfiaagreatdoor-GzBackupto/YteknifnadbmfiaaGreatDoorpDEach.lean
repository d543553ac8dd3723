/- each: tokens gone through by two closures: contract. -/
import Derived.Test.YteknifnadbmfiaaGreatDoorpDg00DTok
import Derived.Test.YteknifnadbmfiaaGreatDoorpMg00MSlot
namespace Go.Proofs.YteknifnadbmfiaaGreatDoor
set_option maxRecDepth 100000
open Go Go.RowKit

/-- A token's marks, symbols (false) and distances (true); all of them, with the end. -/
def tmk (t : M.Tk) : List (Bool × Mk) := if t.2.1 = 0 then [(false, (t.1.toNat, 0, 0))] else [(false, lmk t.2.1.toNat), (true, bmk t.2.2.toNat)]
def tms (ts : List M.Tk) : List (Bool × Mk) := ts.flatMap tmk
def emk (ts : List M.Tk) : List (Bool × Mk) := tms ts ++ [(false, (256, 0, 0))]
theorem tms_take {ts : List M.Tk} {i : Nat} (h : i < ts.length) : tms (ts.take (i + 1)) = tms (ts.take i) ++ tmk (M.tk ts i) := by
  rw [M.tk_take_snoc h]; simp [tms]
theorem tms_pre {ts : List M.Tk} {i : Nat} (h : i < ts.length) : tms (ts.take i) ++ tmk (M.tk ts i) <+: emk ts := by
  rw [← tms_take h]
  refine ⟨tms (ts.drop (i + 1)) ++ [(false, (256, 0, 0))], ?_⟩
  unfold emk tms
  rw [← List.append_assoc, ← List.flatMap_append, List.take_append_drop]
theorem end_pre (ts : List M.Tk) : tms ts ++ [(false, ((256, 0, 0) : Mk))] <+: emk ts := List.prefix_refl _
theorem pre_mem {ms ns : List (Bool × Mk)} {x : Bool × Mk} (h : ms ++ [x] <+: ns) : x ∈ ns := h.subset (by simp)
theorem pre_len {ms ns : List (Bool × Mk)} {x : Bool × Mk} (h : ms ++ [x] <+: ns) : ms.length < ns.length := by have := h.length_le; simp at this; omega
/-- What a closure does: the marks go on, tokens' blocks stay. -/
def MRet (I : List (Bool × Mk) → World → Prop) (ms : List (Bool × Mk)) (w : World) (e : Ending) (w' : World) : Prop :=
  e = .returned (.tuple #[]) ∧ I ms w' ∧ w.heap.size ≤ w'.heap.size ∧ ∀ (b : Nat) (cs : Array Value), w.heap[b]? = some (Obj.cells cs 109 (0, 0)) → w'.heap[b]? = some (Obj.cells cs 109 (0, 0))
/-- Tokens of which each may be. -/
def TOk (ts : List M.Tk) : Prop := ∀ t ∈ ts, (t.2.1 = 0 ∧ 0 ≤ t.1 ∧ t.1 ≤ 255) ∨ (3 ≤ t.2.1 ∧ t.2.1 ≤ 258 ∧ 1 ≤ t.2.2 ∧ t.2.2 ≤ 32768)
theorem TOk.of {ts : List M.Tk} (h : M.Rt ts) (h8 : M.Bt ts) : TOk ts := fun t ht => by
  obtain ⟨i, hi, rfl⟩ := List.getElem_of_mem ht
  have h1 := h i hi
  have h2 := h8 i
  rw [M.tk_in hi] at h1 h2
  rcases h1 with ⟨a, b⟩ | ⟨_, a, b, c, d, _⟩
  · exact .inl ⟨a, h2⟩
  · exact .inr ⟨a, b, c, d⟩
theorem TOk.at {ts : List M.Tk} (h : TOk ts) {i : Nat} (hi : i < ts.length) : ((M.tk ts i).2.1 = 0 ∧ 0 ≤ (M.tk ts i).1 ∧ (M.tk ts i).1 ≤ 255) ∨ (3 ≤ (M.tk ts i).2.1 ∧ (M.tk ts i).2.1 ≤ 258 ∧ 1 ≤ (M.tk ts i).2.2 ∧ (M.tk ts i).2.2 ≤ 32768) := by
  have := h _ (List.getElem_mem hi)
  rwa [← M.tk_in hi] at this

set_option maxHeartbeats 2000000 in
theorem each_count (I : List (Bool × Mk) → World → Prop) (p1 p2 : Value) (a : Option Addr) (cap : Nat) (ts : List M.Tk)
    (hst : ∀ ms w w', I ms w → Below w.heap.size w w' → I ms w') (hT : ∀ ms w, I ms w → M.Toks w a ts)
    (h1 : ∀ ms m w, I ms w → ms ++ [(false, m)] <+: emk ts → Calls Tryz.prog 90 #[mkV m, p1] w (MRet I (ms ++ [(false, m)]) w))
    (h2 : ∀ ms m w, I ms w → ms ++ [(true, m)] <+: emk ts → Calls Tryz.prog 91 #[mkV m, p2] w (MRet I (ms ++ [(true, m)]) w))
    (hok : TOk ts) (hl : ts.length ≤ 1000000000) (w : World) (h0 : I [] w) :
    Calls Tryz.prog 67 #[.slice a ts.length cap, .func (.func 90) #[] #[p1], .func (.func 91) #[] #[p2]] w fun e w' => e = .returned (.tuple #[]) ∧ I (emk ts) w' := by
  have HST := hide hst
  have HT := hide hT
  have H1 := hide h1
  have H2 := hide h2
  have HOK := hide hok
  have H0 := hide h0
  clear hst hT h1 h2 hok h0
  go_enter Tryz.func67, Tryz.ntmps67
  go_wp2_with fail
  go_loopg [10] ts.length (fun gk v10 wx => ∃ i : Nat, i + gk = ts.length ∧ v10 = .int .i64 i ∧ Hid (I (tms (ts.take i)) wx))
  case atStart => exact ⟨0, by omega, rfl, hide (by simpa [tms] using H0.out)⟩
  case round =>
    obtain ⟨i, hig, rfl, HI⟩ := hrel
    cases gk with
    | zero =>
      obtain rfl : i = ts.length := by omega
      have hE := H1.out _ (256, 0, 0) _ HI.out (by rw [List.take_length]; exact end_pre ts)
      rw [List.take_length] at hE
      have HE := hide hE
      unfold mkV at HE
      clear hE H0
      go_wp2_with (go_at_call 90; refine HE.out.mono ?_; rintro e w1 ⟨rfl, k1, -, -⟩; have K1 := hide k1; clear k1)
      go_end0
      exact ⟨rfl, K1.out⟩
    | succ g1 =>
      have hlt : (i : Int) < (ts.length : Int) := by omega
      have hi : i < ts.length := by omega
      obtain ⟨b, off, hb, rfl, hc⟩ := (HT.out _ _ HI.out).resolve_left (by omega)
      obtain ⟨c0, c1, c2⟩ := hc i hi
      have hcase := HOK.out.at hi
      have htk := tms_take hi
      have hmem := tms_pre hi
      clear hc
      generalize M.tk ts i = t at c0 c1 c2 hcase htk hmem
      obtain ⟨B, Lg, Bk⟩ := t
      simp only at c0 c1 c2 hcase
      obtain ⟨W, hW⟩ : ∃ W, W = wr.alloc (.cells #[.int .u8 B, .int .i64 Lg, .int .i64 Bk] 109) := ⟨_, rfl⟩
      have hIW : I (tms (ts.take i)) W := HST.out _ _ _ HI.out (by rw [hW]; exact (Below.refl _ _).alloc (Nat.le_refl _) _)
      have hWt : W.heap[wr.heap.size]? = some (.cells #[.int .u8 B, .int .i64 Lg, .int .i64 Bk] 109 (0, 0)) := by rw [hW]; exact heap_new wr _
      rcases hcase with ⟨hz, hB0, hB1⟩ | ⟨hL0, hL1, hD0, hD1⟩
      · subst hz
        have hE := H1.out _ (B.toNat, 0, 0) _ hIW (by simpa [tmk] using hmem)
        unfold mkV at hE
        have eB : ((B.toNat : Nat) : Int) = B := by omega
        simp only [eB] at hE
        have HE := hide hE
        have HM := hide htk
        have HW : Hid (wr.alloc (.cells #[.int .u8 B, .int .i64 0, .int .i64 Bk] 109) = W) := hW.symm
        have d0 := cells_of hWt 0
        have d1 := cells_of hWt 1
        simp at d0 d1
        clear hE htk hmem hIW hWt hW H0
        go_upto_region 3 with fail
        rw [HW.out]
        go_wp2_with (go_at_call 90; refine HE.out.mono ?_; rintro e w1 ⟨rfl, k1, -, -⟩; have K1 := hide k1; clear k1)
        go_roundg g1
        case measure => omega
        case rel => exact ⟨i + 1, by omega, by go_num, by rw [HM.out]; exact K1.out⟩
      · have hnz : ¬ Lg = 0 := by omega
        have hnz' : (Lg == 0) = false := by simpa using hnz
        obtain ⟨l, rfl⟩ : ∃ l : Nat, Lg = l := ⟨Lg.toNat, by omega⟩
        obtain ⟨d, rfl⟩ : ∃ d : Nat, Bk = d := ⟨Bk.toNat, by omega⟩
        have e2 : tmk (B, (l : Int), (d : Int)) = [(false, lmk l), (true, bmk d)] := by unfold tmk; rw [if_neg (by simp only; omega)]; simp
        rw [e2] at htk hmem
        have HL := hide (longMark_c l (by omega) W)
        have HD := fun W => hide (backMark_c d (by omega) W)
        have HE1 : Hid (∀ w1, Below W.heap.size W w1 → Calls Tryz.prog 90 #[mkV (lmk l), p1] w1 (MRet I (tms (ts.take i) ++ [(false, lmk l)]) w1)) := fun w1 k => H1.out _ _ _ (HST.out _ _ _ hIW k) (List.IsPrefix.trans ⟨[(true, bmk d)], by simp⟩ hmem)
        have HE2 : Hid (∀ w2 w3, I (tms (ts.take i) ++ [(false, lmk l)]) w2 → Below w2.heap.size w2 w3 → Calls Tryz.prog 91 #[mkV (bmk d), p2] w3 (MRet I (tms (ts.take (i + 1))) w3)) := fun w2 w3 h k => by
          have := H2.out _ _ _ (HST.out _ _ _ h k) (by rw [List.append_assoc]; exact hmem)
          rw [List.append_assoc] at this
          rw [htk]
          exact this
        have HW : Hid (wr.alloc (.cells #[.int .u8 B, .int .i64 (l : Int), .int .i64 (d : Int)] 109) = W) := hW.symm
        have HWT := hide hWt
        have d1 := cells_of hWt 1
        have d2 := cells_of hWt 2
        simp at d1 d2
        clear htk hmem hIW hWt hW H0 e2
        generalize lmk l = ml at HL HE1 HE2
        generalize bmk d = md at HD HE2
        unfold mkV at HL HD HE1 HE2
        go_upto_region 3 with fail
        rw [HW.out]
        go_upto_region 6 with (first
          | (go_at_call 86; refine HL.out.mono ?_; rintro e w1 ⟨rfl, b1⟩; have KX := hide (HE1.out w1 b1); have BX := hide b1; clear b1 HL HE1)
          | (go_at_call 90; refine KX.out.mono ?_; rintro e w2 ⟨rfl, k2, s2, t2⟩; have K2 := hide k2; have c9 := t2 _ _ ((BX.out.block wr.heap.size (lt_of_block HWT.out)).trans HWT.out); have d9 := cells_of c9 2; simp at d9; clear k2 s2 t2 c9 KX))
        go_wp2_with (first
          | (go_at_call 87; refine (HD _).out.mono ?_; rintro e w3 ⟨rfl, b3⟩; have KY := hide (HE2.out w2 w3 K2.out b3); clear b3 HD)
          | (go_at_call 91; refine KY.out.mono ?_; rintro e w4 ⟨rfl, k4, -, -⟩; have K4 := hide k4; clear k4 KY))
        go_roundg g1
        case measure => omega
        case rel => exact ⟨i + 1, by omega, by go_num, K4.out⟩

set_option maxHeartbeats 2000000 in
theorem each_by (I : List (Bool × Mk) → World → Prop) (p1 q1 p2 q2 : Value) (a : Option Addr) (cap : Nat) (ts : List M.Tk)
    (hst : ∀ ms w w', I ms w → Below w.heap.size w w' → I ms w') (hT : ∀ ms w, I ms w → M.Toks w a ts)
    (h1 : ∀ ms m w, I ms w → ms ++ [(false, m)] <+: emk ts → Calls Tryz.prog 88 #[mkV m, p1, q1] w (MRet I (ms ++ [(false, m)]) w))
    (h2 : ∀ ms m w, I ms w → ms ++ [(true, m)] <+: emk ts → Calls Tryz.prog 88 #[mkV m, p2, q2] w (MRet I (ms ++ [(true, m)]) w))
    (hok : TOk ts) (hl : ts.length ≤ 1000000000) (w : World) (h0 : I [] w) :
    Calls Tryz.prog 67 #[.slice a ts.length cap, .func (.func 88) #[] #[p1, q1], .func (.func 88) #[] #[p2, q2]] w fun e w' => e = .returned (.tuple #[]) ∧ I (emk ts) w' := by
  have HST := hide hst
  have HT := hide hT
  have H1 := hide h1
  have H2 := hide h2
  have HOK := hide hok
  have H0 := hide h0
  clear hst hT h1 h2 hok h0
  go_enter Tryz.func67, Tryz.ntmps67
  go_wp2_with fail
  go_loopg [10] ts.length (fun gk v10 wx => ∃ i : Nat, i + gk = ts.length ∧ v10 = .int .i64 i ∧ Hid (I (tms (ts.take i)) wx))
  case atStart => exact ⟨0, by omega, rfl, hide (by simpa [tms] using H0.out)⟩
  case round =>
    obtain ⟨i, hig, rfl, HI⟩ := hrel
    cases gk with
    | zero =>
      obtain rfl : i = ts.length := by omega
      have hE := H1.out _ (256, 0, 0) _ HI.out (by rw [List.take_length]; exact end_pre ts)
      rw [List.take_length] at hE
      have HE := hide hE
      unfold mkV at HE
      clear hE H0
      go_wp2_with (go_at_call 88; refine HE.out.mono ?_; rintro e w1 ⟨rfl, k1, -, -⟩; have K1 := hide k1; clear k1)
      go_end0
      exact ⟨rfl, K1.out⟩
    | succ g1 =>
      have hlt : (i : Int) < (ts.length : Int) := by omega
      have hi : i < ts.length := by omega
      obtain ⟨b, off, hb, rfl, hc⟩ := (HT.out _ _ HI.out).resolve_left (by omega)
      obtain ⟨c0, c1, c2⟩ := hc i hi
      have hcase := HOK.out.at hi
      have htk := tms_take hi
      have hmem := tms_pre hi
      clear hc
      generalize M.tk ts i = t at c0 c1 c2 hcase htk hmem
      obtain ⟨B, Lg, Bk⟩ := t
      simp only at c0 c1 c2 hcase
      obtain ⟨W, hW⟩ : ∃ W, W = wr.alloc (.cells #[.int .u8 B, .int .i64 Lg, .int .i64 Bk] 109) := ⟨_, rfl⟩
      have hIW : I (tms (ts.take i)) W := HST.out _ _ _ HI.out (by rw [hW]; exact (Below.refl _ _).alloc (Nat.le_refl _) _)
      have hWt : W.heap[wr.heap.size]? = some (.cells #[.int .u8 B, .int .i64 Lg, .int .i64 Bk] 109 (0, 0)) := by rw [hW]; exact heap_new wr _
      rcases hcase with ⟨hz, hB0, hB1⟩ | ⟨hL0, hL1, hD0, hD1⟩
      · subst hz
        have hE := H1.out _ (B.toNat, 0, 0) _ hIW (by simpa [tmk] using hmem)
        unfold mkV at hE
        have eB : ((B.toNat : Nat) : Int) = B := by omega
        simp only [eB] at hE
        have HE := hide hE
        have HM := hide htk
        have HW : Hid (wr.alloc (.cells #[.int .u8 B, .int .i64 0, .int .i64 Bk] 109) = W) := hW.symm
        have d0 := cells_of hWt 0
        have d1 := cells_of hWt 1
        simp at d0 d1
        clear hE htk hmem hIW hWt hW H0
        go_upto_region 3 with fail
        rw [HW.out]
        go_wp2_with (go_at_call 88; refine HE.out.mono ?_; rintro e w1 ⟨rfl, k1, -, -⟩; have K1 := hide k1; clear k1)
        go_roundg g1
        case measure => omega
        case rel => exact ⟨i + 1, by omega, by go_num, by rw [HM.out]; exact K1.out⟩
      · have hnz : ¬ Lg = 0 := by omega
        have hnz' : (Lg == 0) = false := by simpa using hnz
        obtain ⟨l, rfl⟩ : ∃ l : Nat, Lg = l := ⟨Lg.toNat, by omega⟩
        obtain ⟨d, rfl⟩ : ∃ d : Nat, Bk = d := ⟨Bk.toNat, by omega⟩
        have e2 : tmk (B, (l : Int), (d : Int)) = [(false, lmk l), (true, bmk d)] := by unfold tmk; rw [if_neg (by simp only; omega)]; simp
        rw [e2] at htk hmem
        have HL := hide (longMark_c l (by omega) W)
        have HD := fun W => hide (backMark_c d (by omega) W)
        have HE1 : Hid (∀ w1, Below W.heap.size W w1 → Calls Tryz.prog 88 #[mkV (lmk l), p1, q1] w1 (MRet I (tms (ts.take i) ++ [(false, lmk l)]) w1)) := fun w1 k => H1.out _ _ _ (HST.out _ _ _ hIW k) (List.IsPrefix.trans ⟨[(true, bmk d)], by simp⟩ hmem)
        have HE2 : Hid (∀ w2 w3, I (tms (ts.take i) ++ [(false, lmk l)]) w2 → Below w2.heap.size w2 w3 → Calls Tryz.prog 88 #[mkV (bmk d), p2, q2] w3 (MRet I (tms (ts.take (i + 1))) w3)) := fun w2 w3 h k => by
          have := H2.out _ _ _ (HST.out _ _ _ h k) (by rw [List.append_assoc]; exact hmem)
          rw [List.append_assoc] at this
          rw [htk]
          exact this
        have HW : Hid (wr.alloc (.cells #[.int .u8 B, .int .i64 (l : Int), .int .i64 (d : Int)] 109) = W) := hW.symm
        have HWT := hide hWt
        have d1 := cells_of hWt 1
        have d2 := cells_of hWt 2
        simp at d1 d2
        clear htk hmem hIW hWt hW H0 e2
        generalize lmk l = ml at HL HE1 HE2
        generalize bmk d = md at HD HE2
        unfold mkV at HL HD HE1 HE2
        go_upto_region 3 with fail
        rw [HW.out]
        go_upto_region 6 with (first
          | (go_at_call 86; refine HL.out.mono ?_; rintro e w1 ⟨rfl, b1⟩; have KX := hide (HE1.out w1 b1); have BX := hide b1; clear b1 HL HE1)
          | (go_at_call 88; refine KX.out.mono ?_; rintro e w2 ⟨rfl, k2, s2, t2⟩; have K2 := hide k2; have c9 := t2 _ _ ((BX.out.block wr.heap.size (lt_of_block HWT.out)).trans HWT.out); have d9 := cells_of c9 2; simp at d9; clear k2 s2 t2 c9 KX))
        go_wp2_with (first
          | (go_at_call 87; refine (HD _).out.mono ?_; rintro e w3 ⟨rfl, b3⟩; have KY := hide (HE2.out w2 w3 K2.out b3); clear b3 HD)
          | (go_at_call 88; refine KY.out.mono ?_; rintro e w4 ⟨rfl, k4, -, -⟩; have K4 := hide k4; clear k4 KY))
        go_roundg g1
        case measure => omega
        case rel => exact ⟨i + 1, by omega, by go_num, K4.out⟩
end Go.Proofs.YteknifnadbmfiaaGreatDoor
