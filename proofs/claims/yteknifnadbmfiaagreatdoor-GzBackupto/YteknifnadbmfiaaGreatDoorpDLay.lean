/- layKind, layHead, lay: contracts. -/
import Derived.Test.YteknifnadbmfiaaGreatDoorpDLens
namespace Go.Proofs.YteknifnadbmfiaaGreatDoor
set_option maxRecDepth 100000
open Go Go.RowKit

set_option maxHeartbeats 1000000 in
theorem layKind_c (bw : Nat) (ow : Option Nat) (w : World) (L0 : List Int) (hW : WS bw bw ow w L0) (hL : L0.length ≤ 900000000) (k : Nat) (last : Bool) :
    Calls Tryz.prog 61 #[.pointer (some ⟨bw, 0, none⟩), .int .i64 (k : Int), .bool last] w (WRet bw bw ow w (L0 ++ knd last k) (.tuple #[])) := by
  have hbb : bw ≤ w.heap.size := by have := hW.lt; omega
  have HF : Hid (∀ w', WTo bw bw ow w (L0 ++ bitsN (if last then 1 else 0) 1 ++ bitsN (k : Int) 2) w' → WRet bw bw ow w (L0 ++ knd last k) (.tuple #[]) (.returned (.tuple #[])) w') := fun w' h => ⟨rfl, by unfold knd; rw [← List.append_assoc]; exact h⟩
  have H1 : ∀ x : Int, Hid (Calls Tryz.prog 63 #[.pointer (some ⟨bw, 0, none⟩), .int .i64 x, .int .i64 1] w fun e w' => e = .returned (.tuple #[]) ∧ WTo bw bw ow w (L0 ++ bitsN x 1) w') := fun x => hW.to.bits hbb (by omega) x 1 (by omega)
  have H2 : Hid (∀ (x : Int) (w1 : World), WTo bw bw ow w (L0 ++ bitsN x 1) w1 → Calls Tryz.prog 63 #[.pointer (some ⟨bw, 0, none⟩), .int .i64 (k : Int), .int .i64 2] w1 fun e w' => e = .returned (.tuple #[]) ∧ WTo bw bw ow w (L0 ++ bitsN x 1 ++ bitsN (k : Int) 2) w') := fun x w1 h => h.bits hbb (by rw [List.length_append, bitsN_length]; omega) (k : Int) 2 (by omega)
  generalize WRet bw bw ow w (L0 ++ knd last k) (.tuple #[]) = Q at HF ⊢
  clear hW
  cases last with
  | true =>
    have HX := H1 1
    have HY := hide (H2.out 1)
    clear H1 H2
    go_enter Tryz.func61, Tryz.ntmps61
    go_upto_region 4 with (go_at_call 63; refine HX.out.mono ?_; rintro e w1 ⟨rfl, k1⟩; have HZ := hide (HY.out w1 k1); clear k1 HX HY)
    go_wp2_with (go_at_call 63; refine HZ.out.mono ?_; rintro e w2 ⟨rfl, k2⟩; have HK := hide k2; clear k2 HZ)
    go_end0
    exact HF.out _ HK.out
  | false =>
    have HX := H1 0
    have HY := hide (H2.out 0)
    clear H1 H2
    go_enter Tryz.func61, Tryz.ntmps61
    go_upto_region 4 with (go_at_call 63; refine HX.out.mono ?_; rintro e w1 ⟨rfl, k1⟩; have HZ := hide (HY.out w1 k1); clear k1 HX HY)
    go_wp2_with (go_at_call 63; refine HZ.out.mono ?_; rintro e w2 ⟨rfl, k2⟩; have HK := hide k2; clear k2 HZ)
    go_end0
    exact HF.out _ HK.out

/-- A block's value. -/
abbrev bA (ta : Option Addr) (tn ct : Nat) (k : Int) (sa : Option Addr) (sn cs : Nat) (da : Option Addr) (dn cd : Nat) (sz : Int) : Array Value := #[.slice ta tn ct, .int .i64 k, .slice sa sn cs, .slice da dn cd, .int .i64 sz]
/-- What stands ahead of the data. -/
def HdIs (k : Nat) (S D H : List Int) : Prop := (k = 1 ∧ H = []) ∨ (k = 2 ∧ SDOk S D ∧ ∃ F many, LLOk S D F many ∧ H = hdB S D F many)
def HRet (bw : Nat) (ow : Option Nat) (w : World) (L0 : List Int) (k : Nat) (last : Bool) (S D : List Int) (e : Ending) (w' : World) : Prop := e = .returned (.tuple #[]) ∧ ∃ H, HdIs k S D H ∧ WTo bw bw ow w (L0 ++ (knd last k ++ H)) w'
theorem infoBk : (Tryz.prog.info? 99).map (·.size) = some 5 := by kernel_rfl
set_option maxHeartbeats 2000000 in
theorem layHead_c (bw : Nat) (ow : Option Nat) (w : World) (L0 : List Int) (hW : WS bw bw ow w L0) (hL : L0.length ≤ 700000000) (hT : Tab w) (h0 : 2 < bw) (ta sa da : Option Addr) (tn ct cs cd k : Nat) (sz : Int) (S D : List Int) (last : Bool) (hk : k = 1 ∨ (k = 2 ∧ SDOk S D)) (hS : Ints 0 bw w sa S) (hD : Ints 0 bw w da D) :
    Calls Tryz.prog 65 #[.agg (bA ta tn ct k sa S.length cs da D.length cd sz), .pointer (some ⟨bw, 0, none⟩), .bool last] w (HRet bw ow w L0 k last S D) := by
  obtain ⟨W, hWW⟩ : ∃ W, W = w.alloc (.cells (bA ta tn ct k sa S.length cs da D.length cd sz) 99) := ⟨_, rfl⟩
  have blW : Below w.heap.size w W := by rw [hWW]; exact (Below.refl _ _).alloc (Nat.le_refl _) _
  have hWb : W.heap[w.heap.size]? = some (.cells (bA ta tn ct k sa S.length cs da D.length cd sz) 99 (0, 0)) := by rw [hWW]; exact heap_new w _
  have hW0 := hW.below blW
  have HK := hide (layKind_c bw ow W L0 hW0 (by omega) k last)
  have d1 := cells_of hWb 1
  simp at d1
  have HE : Hid (w.alloc (.cells (bA ta tn ct k sa S.length cs da D.length cd sz) 99) = W) := hWW.symm
  have HWB := hide hWb
  have HW0 := hide hW0
  have HKW : Hid (Kept (fun k => k = bw ∨ ow = some k) w W) := (Kept.of_below blW).mono (fun i hi e => by omega)
  rcases hk with hk | ⟨hk, hsd⟩
  · have HF : Hid (∀ w', WTo bw bw ow W (L0 ++ knd last k) w' → HRet bw ow w L0 k last S D (.returned (.tuple #[])) w') := fun w' h => ⟨rfl, [], .inl ⟨hk, rfl⟩, by rw [List.append_nil]; exact WTo.trans HKW.out (.inl rfl) h⟩
    generalize HRet bw ow w L0 k last S D = Q at HF ⊢
    have hk2 : ((k : Int) == 2) = false := by subst hk; rfl
    clear hWW blW hWb hW0 hW hS hD hk
    go_enter Tryz.func65, Tryz.ntmps65
    go_upto_region 1 with fail
    rw [HE.out]
    go_upto_region 2 with (go_at_call 61; refine HK.out.mono ?_; rintro e w1 ⟨rfl, k1⟩; have HK1 := hide k1; clear k1 HK)
    have e1 := cells_of (HK1.out.heap HWB.out (HW0.out.apart HWB.out (by decide) (by decide))) 1
    simp at e1
    clear d1
    go_wp2_with fail
    go_end0
    exact HF.out _ HK1.out
  · have HSI : Hid (∀ w1, WTo bw bw ow W (L0 ++ knd last k) w1 → Calls Tryz.prog 82 #[.pointer (some ⟨bw, 0, none⟩), .slice sa S.length cs, .slice da D.length cd] w1 fun e w' => HRet bw ow w L0 k last S D e w') := fun w1 k1 => by
      obtain ⟨o1, s1, kk1, oo1⟩ := id k1
      have hb1 : Below bw w w1 := by
        refine (HKW.out.trans kk1 (fun i _ e => e)).below (by have := hW.lt; omega) (fun i hi e => ?_)
        rcases e with e | e
        · omega
        · have := (hW.own e).1; omega
      have hT1 : Tab w1 := hT.below hb1 h0
      have hz1 : bw ≤ w1.heap.size := by have := hW.lt; have := hb1.size; omega
      refine (layLengths_c bw o1 w1 (L0 ++ knd last k) s1 (by rw [List.length_append, knd_length]; omega) hT1 h0 sa da cs cd S D ((hS.below hb1 (Nat.le_refl _)).wide (Nat.le_refl _) hz1) ((hD.below hb1 (Nat.le_refl _)).wide (Nat.le_refl _) hz1) hsd).mono ?_
      rintro e w' ⟨rfl, F, many, hll, k2⟩
      refine ⟨rfl, hdB S D F many, .inr ⟨hk, hsd, F, many, hll, rfl⟩, ?_⟩
      rw [← List.append_assoc]
      exact WTo.trans HKW.out (.inl rfl) (WTo.trans kk1 oo1 k2)
    have HF : Hid (∀ e w', HRet bw ow w L0 k last S D e w' → e = .returned (.tuple #[]) ∧ HRet bw ow w L0 k last S D (.returned (.tuple #[])) w') := fun e w' h => by obtain ⟨rfl, r⟩ := h; exact ⟨rfl, rfl, r⟩
    generalize HRet bw ow w L0 k last S D = Q at HF HSI ⊢
    have hk2 : ((k : Int) == 2) = true := by subst hk; rfl
    clear hWW blW hWb hW0 hW hS hD hT hsd hk
    go_enter Tryz.func65, Tryz.ntmps65
    go_upto_region 1 with fail
    rw [HE.out]
    go_upto_region 2 with (go_at_call 61; refine HK.out.mono ?_; rintro e w1 ⟨rfl, k1⟩; have HK1 := hide k1; clear k1 HK)
    have hwb1 := HK1.out.heap HWB.out (HW0.out.apart HWB.out (by decide) (by decide))
    have e1 := cells_of hwb1 1
    have e2 := cells_of hwb1 2
    have e3 := cells_of hwb1 3
    simp at e1 e2 e3
    have HL := hide (HSI.out w1 HK1.out)
    clear d1 hwb1 HSI HK1
    go_wp2_with (go_at_call 82; refine HL.out.mono ?_; intro e w2 hq; obtain ⟨rfl, hq2⟩ := HF.out _ _ hq; have HQ := hide hq2; clear hq hq2 HL)
    go_end0
    exact HQ.out

/-- The bits of marks. -/
def eB (S D : List Int) (x : Bool × Mk) : List Int := if x.1 then mkB D x.2 else mkB S x.2
theorem eB_tok (S D : List Int) (t : M.Tk) : (tmk t).flatMap (eB S D) = tokB S D t := by
  unfold tmk tokB
  split <;> simp [eB]
theorem eB_dat (S D : List Int) (ts : List M.Tk) : (emk ts).flatMap (eB S D) = datB S D ts := by
  unfold emk tms datB
  rw [List.flatMap_append, List.flatMap_assoc]
  congr 1
  · congr 1
    funext t
    exact eB_tok S D t
  · simp [eB]
/-- Each mark has a code. -/
def MHas (S D : List Int) (ts : List M.Tk) : Prop := ∀ x ∈ emk ts, (x.1 = false → Has S x.2.1) ∧ (x.1 = true → Has D x.2.1)
theorem MHas.tok {S D : List Int} {ts : List M.Tk} (h : MHas S D ts) : (∀ t ∈ ts, THas S D t) ∧ Has S 256 := by
  refine ⟨fun t ht => ?_, (h _ (end_pre ts |> pre_mem)).1 rfl⟩
  have key : ∀ x ∈ tmk t, x ∈ emk ts := fun x hx => by
    unfold emk tms
    rw [List.mem_append, List.mem_flatMap]
    exact .inl ⟨t, ht, hx⟩
  refine ⟨fun e => ?_, fun e => ?_⟩
  · exact (h _ (key (false, (t.1.toNat, 0, 0)) (by unfold tmk; rw [if_pos e]; simp))).1 rfl
  · have h1 := h _ (key (false, lmk t.2.1.toNat) (by unfold tmk; rw [if_neg e]; simp))
    have h2 := h _ (key (true, bmk t.2.2.toNat) (by unfold tmk; rw [if_neg e]; simp))
    exact ⟨h1.1 rfl, h2.2 rfl⟩
theorem eB_le {S D : List Int} (hS : Fit S) (hD : Fit D) {ms : List (Bool × Mk)} (h : ∀ x ∈ ms, x.2.2.2 ≤ 13) : (ms.flatMap (eB S D)).length ≤ 28 * ms.length := by
  induction ms with
  | nil => simp
  | cons m ms ih =>
    have h1 := h m (by simp)
    have h2 := ih (fun x hx => h x (by simp [hx]))
    have h3 : (eB S D m).length ≤ 28 := by
      unfold eB
      split
      · rw [mkB_length]; have := ln_fit hD m.2.1; omega
      · rw [mkB_length]; have := ln_fit hS m.2.1; omega
    rw [List.flatMap_cons, List.length_append, List.length_cons, Nat.mul_succ]
    omega
end Go.Proofs.YteknifnadbmfiaaGreatDoor
