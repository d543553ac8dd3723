/- The laws' probe. -/
import Derived.Test.YtofcpnehnpopaaaMFindW
import Derived.Test.YtofcpnehnpopaaaMTellR
import Derived.Lib.SlBytesConst
namespace Go.Proofs.Ytofcpnehnpopaaa
set_option maxRecDepth 100000
open Go Go.RowKit

abbrev lit3 : List Tk := [(97, 0, 0), (98, 0, 0), (0, 4, 2)]
abbrev lit8 : List Int := [97, 97, 97, 97, 97, 97, 97, 97]
abbrev lit3O : Obj := .cells #[.int .u8 97, .int .i64 0, .int .i64 0, .int .u8 98, .int .i64 0, .int .i64 0, .int .u8 0, .int .i64 4, .int .i64 2] 32
abbrev lit8O : Obj := .cells #[.int .u8 97, .int .u8 97, .int .u8 97, .int .u8 97, .int .u8 97, .int .u8 97, .int .u8 97, .int .u8 97] 5 (8, 9)
theorem lit3_rt : Rt lit3 := by
  intro j hj
  have : j = 0 ∨ j = 1 ∨ j = 2 := by simp at hj; omega
  rcases this with rfl | rfl | rfl <;> decide
theorem lit3_tel : tel lit3 = [97, 98, 97, 98, 97, 98] := by decide
theorem lit3_toks (w : World) : Toks (w.alloc lit3O) (some ⟨w.heap.size, 0, none⟩) lit3 := by
  refine .inr ⟨w.heap.size, 0, by simp, rfl, fun i hi => ?_⟩
  have : i = 0 ∨ i = 1 ∨ i = 2 := by simp at hi; omega
  rcases this with rfl | rfl | rfl <;> (refine ⟨?_, ?_, ?_⟩ <;> (rw [cells_of (heap_new w lit3O)]; rfl))
theorem lit8_bys (w : World) : Bys (w.alloc lit8O) (some ⟨w.heap.size, 0, none⟩) lit8 := by
  refine ⟨.inr ⟨w.heap.size, 0, by simp, rfl, fun i hi => ?_⟩, fun i => ?_⟩
  · have : i = 0 ∨ i = 1 ∨ i = 2 ∨ i = 3 ∨ i = 4 ∨ i = 5 ∨ i = 6 ∨ i = 7 := by simp at hi; omega
    rcases this with rfl | rfl | rfl | rfl | rfl | rfl | rfl | rfl <;> (unfold World.cell?; rw [heap_new w lit8O]; rfl)
  · by_cases h : i < 8
    · have : i = 0 ∨ i = 1 ∨ i = 2 ∨ i = 3 ∨ i = 4 ∨ i = 5 ∨ i = 6 ∨ i = 7 := by omega
      rcases this with rfl | rfl | rfl | rfl | rfl | rfl | rfl | rfl <;> decide
    · unfold ln List.getD; rw [List.getElem?_eq_none (by simp; omega)]; simp
theorem lit8_like {xs : List Tk} (h : FdTo lit8 8 xs) : Rt xs ∧ tel xs = lit8 ∧ xs.length < 8 := by
  refine ⟨h.rt, h.tell, ?_⟩
  have := h.like (fun i hi => by
    have : i = 0 ∨ i = 1 ∨ i = 2 ∨ i = 3 ∨ i = 4 ∨ i = 5 ∨ i = 6 ∨ i = 7 := by simp at hi; omega
    rcases this with rfl | rfl | rfl | rfl | rfl | rfl | rfl | rfl <;> decide)
  simp at this
  omega
set_option maxHeartbeats 4000000 in
theorem alive_c (w : World) : Calls Try.prog 9 #[] w fun e w' => e = .returned (.bool true) ∧ Below w.heap.size w w' := by
  have HT1 := hide (tell_yes (some ⟨w.heap.size, 0, none⟩) 3 lit3 (w.alloc lit3O) (lit3_toks w) (by decide) lit3_rt)
  rw [lit3_tel] at HT1
  have HF : Hid (∀ W : World, Calls Try.prog 14 #[.slice (some ⟨W.heap.size, 0, none⟩) 8 8, .int .i64 1] (W.alloc lit8O) (FindOk lit8 1 (W.alloc lit8O))) := fun W => find_c (some ⟨W.heap.size, 0, none⟩) 8 lit8 1 (W.alloc lit8O) (lit8_bys W) (by decide) (by decide) (by decide)
  have hcv := fun W : World => Lib.run_convert_bytes_const (P := Try.prog) W 24 5 #[.int .u8 97, .int .u8 97, .int .u8 97, .int .u8 97, .int .u8 97, .int .u8 97, .int .u8 97, .int .u8 97] 8 8 Try.underlying24 Try.underlying5
  go_enter Try.func9, Try.ntmps9
  go_upto_region 3 with (first
    | (go_at_call 10; refine HT1.out.mono ?_; rintro e w1 ⟨o1, c1, rfl, k1⟩; have K1 := hide k1; clear k1 HT1)
    | (go_at_call 14; refine (HF.out w1).mono ?_; rintro e w2 ⟨a2, c2, xs, rfl, k1, k2, _, k4⟩; have O2 := hide k1; have B2 := hide k2; have F2 := hide (k4 (by decide)); clear k1 k2 k4 HF))
  obtain ⟨r1, r2, r3⟩ := lit8_like F2.out
  obtain ⟨_, _, hv, htk, _, _, _⟩ := O2.out.form
  simp only [Value.slice.injEq] at hv
  obtain ⟨rfl, _, rfl⟩ := hv
  have HT2 := hide (tell_yes a2 c2 xs w2 htk (by omega) r1)
  rw [r2] at HT2
  have HTK := hide htk
  have HR := hide r1
  have r3' : (xs.length : Int) < 8 := by omega
  clear r1 r2 htk F2 O2
  have BA : Hid (Below w.heap.size w (w1.alloc lit8O)) := by
    have h1 := K1.out.2
    have h2 : Below w.heap.size w (w.alloc lit3O) := (Below.refl _ w).alloc (Nat.le_refl _) _
    have h3 := h2.trans (h1.mono h2.size)
    exact h3.alloc h3.size _
  have HO1 : Hid (OwnsB (w1.alloc lit8O) (w.alloc lit3O).heap.size (.slice o1 6 c1) [97, 98, 97, 98, 97, 98]) := K1.out.1.stay ((Below.refl _ w1).alloc (Nat.le_refl _) _)
  clear K1
  go_upto_region 4 with (go_at_call 10; refine HT2.out.mono ?_; rintro e w3 ⟨o3, c3, rfl, k1⟩; have K3 := hide k1; clear k1 HT2)
  have hc1 : (convert 24 9 (.slice o1 6 c1)).run Try.prog w3 = .ok (.string ⟨#[97, 98, 97, 98, 97, 98]⟩) w3 := conv_own ((HO1.out.stay B2.out).stay K3.out.2)
  have hc3 : (convert 24 9 (.slice o3 8 c3)).run Try.prog w3 = .ok (.string ⟨#[97, 97, 97, 97, 97, 97, 97, 97]⟩) w3 := conv_own K3.out.1
  have HRR := hide (right_yes a2 c2 xs w3 (HTK.out.stay K3.out.2) (by omega) HR.out)
  have B3 : Hid (Below w.heap.size w w3) := by
    have h1 := BA.out.trans (B2.out.mono BA.out.size)
    exact h1.trans (K3.out.2.mono h1.size)
  clear HO1 K3 HTK HR BA B2
  go_wp2_with (go_at_call 12; refine HRR.out.mono ?_; rintro e w4 ⟨rfl, k4⟩)
  go_ret
  exact ⟨rfl, B3.out.trans (k4.mono B3.out.size)⟩
end Go.Proofs.Ytofcpnehnpopaaa
