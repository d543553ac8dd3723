/- The laws on Check, Can, Project: walks. -/
import Derived.Test.YtlfffpgokemjbaaVAli
import Derived.Test.YtlfffpgokemjbaaVSam
import Derived.Test.YtlfffpgokemjbaaUTh2
import Derived.Test.YtlfffpgokemjbaaUCan
namespace Go.Proofs.Ytlfffpgokemjbaa.U
set_option maxRecDepth 100000
open Go Go.RowKit
set_option linter.unusedVariables false
/-- A law's call that answers true and writes nothing that was there. -/
def Yes (w : World) (e : Ending) (w' : World) : Prop := e = .returned (.bool true) ∧ Below w.heap.size w w'
theorem Tells.ex {es : List En} {i : Nat} {m : En} (h : ¬ Clean1 es i m) : ∃ c, Tells es i m c := by
  unfold Clean1 at h
  by_cases hr : Right m
  · by_cases hd : m.data.size ≤ 1048576
    · by_cases ht : Twice es i m
      · exact ⟨161, .inr (.inr (.inl ⟨hr, hd, ht, rfl⟩))⟩
      · refine ⟨160, .inr (.inr (.inr ⟨hr, hd, ht, ?_, rfl⟩))⟩
        apply Classical.byContradiction
        intro g
        exact h ⟨hr, hd, ht, fun q => g (.inl q), fun q => g (.inr q)⟩
    · exact ⟨162, .inr (.inl ⟨hr, by omega, rfl⟩)⟩
  · exact ⟨160, .inl ⟨hr, rfl⟩⟩
theorem Chk.ex (es : List En) : ∃ c, Chk es c := by
  by_cases hl : 1000 < es.length
  · exact ⟨162, .inl ⟨hl, rfl⟩⟩
  · have key : ∀ n, (∀ (j : Nat) p, j < n → es[j]? = some p → Clean1 es j p) ∨ ∃ (i : Nat) (m : En), es[i]? = some m ∧ (∀ (j : Nat) p, j < i → es[j]? = some p → Clean1 es j p) ∧ ¬ Clean1 es i m := by
      intro n
      induction n with
      | zero => exact .inl fun j p h => by omega
      | succ n ih =>
        rcases ih with h | h
        · by_cases hn : ∃ m, es[n]? = some m ∧ ¬ Clean1 es n m
          · obtain ⟨m, hm, hc⟩ := hn
            exact .inr ⟨n, m, hm, h, hc⟩
          · refine .inl fun j p hj hp => ?_
            by_cases e : j = n
            · subst e
              apply Classical.byContradiction
              intro g
              exact hn ⟨p, hp, g⟩
            · exact h j p (by omega) hp
        · exact .inr h
    rcases key es.length with h | ⟨i, m, hm, h, hc⟩
    · exact ⟨0, .inr ⟨by omega, .inl ⟨rfl, fun i m hm => h i m (List.getElem?_eq_some_iff.1 hm).1 hm⟩⟩⟩
    · obtain ⟨c, ht⟩ := Tells.ex hc
      exact ⟨c, .inr ⟨by omega, .inr ⟨i, m, hm, h, ht⟩⟩⟩
def Sm (es : List En) : Prop := ∀ m ∈ es, m.path.size ≤ 1048576 ∧ m.target.size ≤ 1048576 ∧ m.data.size ≤ 1048576
def Tm (es : List En) : Prop := ∀ m ∈ es, -9223372036854775808 ≤ m.time ∧ m.time ≤ 9223372036854775807
theorem rcheck_v (a : Option Addr) (cap : Nat) (es : List En) (c : Int) (w : World) (h : EntsIn w a es) (hS : Sm es) (hc : Chk es c) : Calls Try.prog 12 #[.slice a es.length cap] w fun e w' => e = .returned (.int .i64 c) ∧ Below w.heap.size w w' :=
  (rcheck_c a cap es w h (fun m hm => by have := (hS m hm).1; omega) (fun m hm => by have := (hS m hm).2.2; omega)).mono fun e w' ⟨d, he, hd, hw⟩ => by rw [hd.one hc] at he; exact ⟨he, hw⟩
theorem rcan_v (a : Option Addr) (cap : Nat) (c f : Int) (es : List En) (b : Bool) (w : World) (h : EntsIn w a es) (hl : es.length ≤ 1000000000) (hT : Tm es)
    (hc : Calls Try.prog 12 #[.slice a es.length cap] w fun e w' => e = .returned (.int .i64 c) ∧ Below w.heap.size w w') (hb : b = true ↔ Can c f es) : Calls Try.prog 21 #[.slice a es.length cap, .int .i64 f] w fun e w' => e = .returned (.bool b) ∧ Below w.heap.size w w' :=
  (rcan_c a cap c f es w h hl hT hc).mono fun e w' ⟨d, he, hd, hw⟩ => by
    have e2 : d = b := Bool.eq_iff_iff.2 (hd.trans hb.symm)
    rw [e2] at he; exact ⟨he, hw⟩
theorem rsame_v (a b : Option Addr) (ca cb : Nat) (es fs : List En) (t : Bool) (w : World) (h : EntsIn w a es) (h2 : EntsIn w b fs) (hl : es.length ≤ 1000000000) (ht : t = true ↔ es = fs) : Calls Try.prog 14 #[.slice a es.length ca, .slice b fs.length cb] w fun e w' => e = .returned (.bool t) ∧ Below w.heap.size w w' :=
  (rsame_c a b ca cb es fs w h h2 hl).mono fun e w' ⟨d, he, hd, hw⟩ => by
    have e2 : d = t := Bool.eq_iff_iff.2 (hd.trans ht.symm)
    rw [e2] at he; exact ⟨he, hw⟩
theorem same_v (a b : Option Addr) (ca cb : Nat) (es fs : List En) (t : Bool) (w : World) (h : EntsIn w a es) (h2 : EntsIn w b fs) (hl : es.length ≤ 1000000000) (ht : t = true ↔ es = fs) : Calls Try.prog 19 #[.slice a es.length ca, .slice b fs.length cb] w fun e w' => e = .returned (.bool t) ∧ Below w.heap.size w w' :=
  (same_c a b ca cb es fs w h h2 hl).mono fun e w' ⟨d, he, hd, hw⟩ => by
    have e2 : d = t := Bool.eq_iff_iff.2 (hd.trans ht.symm)
    rw [e2] at he; exact ⟨he, hw⟩
theorem few_no {n : Nat} (h : fewB n = true) : n ≤ 1010 := by
  unfold fewB at h
  simp at h
  omega
set_option maxHeartbeats 4000000 in
theorem treeChecks_walk (a : Option Addr) (cap : Nat) (es : List En) (W : World) (hE : EntsIn W a es) (hcap : es.length ≤ cap) (hS : Sm es) : Calls Try.prog 3 #[.slice a es.length cap] W (Yes W) := by
  have HA := fun V => hide (alive_c V)
  have HW := fun V => hide (few_c a es.length cap V)
  obtain ⟨c, hc⟩ := Chk.ex es
  have HC := hide (fun V (hV : Below W.heap.size W V) => check_v a cap es c V (hE.stay hV) hcap (fun m hm => by have := hS m hm; omega) hc)
  have HR := hide (fun V (hV : Below W.heap.size W V) => rcheck_v a cap es c V (hE.stay hV) hS hc)
  generalize es.length = n at *
  clear hE hcap hS hc
  cases hf : fewB n
  · rw [hf] at HW
    clear hf HC HR
    go_enter Try.func3, Try.ntmps3
    go_wp2_with (first
      | (go_at_call 9; refine (HW _).out.mono ?_; rintro e w1 ⟨rfl, hw⟩; obtain rfl := hw.symm; clear HW)
      | (go_at_call 10; refine (HA _).out.mono ?_; rintro e w2 ⟨rfl, hw⟩; have B1 := hide hw; clear hw HA))
    go_ret
    exact ⟨rfl, B1.out⟩
  · rw [hf] at HW
    clear hf
    go_enter Try.func3, Try.ntmps3
    go_wp2_with (first
      | (go_at_call 9; refine (HW _).out.mono ?_; rintro e w1 ⟨rfl, hw⟩; obtain rfl := hw.symm; clear HW)
      | (go_at_call 10; refine (HA _).out.mono ?_; rintro e w2 ⟨rfl, hw⟩; have B1 := hide hw; clear hw HA)
      | (go_at_call 11; refine (HC.out _ B1.out).mono ?_; rintro e w3 ⟨rfl, hw⟩; have B2 := hide (B1.out.trans (hw.mono B1.out.size)); clear hw HC)
      | (go_at_call 12; refine (HR.out _ B2.out).mono ?_; rintro e w4 ⟨rfl, hw⟩; have B3 := hide (B2.out.trans (hw.mono B2.out.size)); clear hw HR))
    go_ret
    exact ⟨by simp, B3.out⟩
set_option maxHeartbeats 4000000 in
theorem treeCans_walk (a : Option Addr) (cap : Nat) (es : List En) (f : Int) (W : World) (hE : EntsIn W a es) (hcap : es.length ≤ cap) (hS : Sm es) (hT : Tm es) : Calls Try.prog 6 #[.slice a es.length cap, .int .i64 f] W (Yes W) := by
  have HA := fun V => hide (alive_c V)
  have HW := fun V => hide (few_c a es.length cap V)
  obtain ⟨c, hc⟩ := Chk.ex es
  obtain ⟨b, hb⟩ := bool_of (Can c f es)
  have HC := hide (fun (hl : es.length ≤ 1000000000) V (hV : Below W.heap.size W V) => can_v a cap c f es b V (hE.stay hV) hl hT (check_v a cap es c V (hE.stay hV) hcap (fun m hm => by have := hS m hm; omega) hc) hb)
  have HR := hide (fun (hl : es.length ≤ 1000000000) V (hV : Below W.heap.size W V) => rcan_v a cap c f es b V (hE.stay hV) hl hT (rcheck_v a cap es c V (hE.stay hV) hS hc) hb)
  generalize es.length = n at *
  clear hE hcap hS hc hb hT
  cases hf : fewB n
  · rw [hf] at HW
    clear hf HC HR
    go_enter Try.func6, Try.ntmps6
    go_wp2_with (first
      | (go_at_call 9; refine (HW _).out.mono ?_; rintro e w1 ⟨rfl, hw⟩; obtain rfl := hw.symm; clear HW)
      | (go_at_call 10; refine (HA _).out.mono ?_; rintro e w2 ⟨rfl, hw⟩; have B1 := hide hw; clear hw HA))
    go_ret
    exact ⟨rfl, B1.out⟩
  · rw [hf] at HW
    have HN := hide (show n ≤ 1000000000 by have := few_no hf; omega)
    clear hf
    go_enter Try.func6, Try.ntmps6
    go_wp2_with (first
      | (go_at_call 9; refine (HW _).out.mono ?_; rintro e w1 ⟨rfl, hw⟩; obtain rfl := hw.symm; clear HW)
      | (go_at_call 10; refine (HA _).out.mono ?_; rintro e w2 ⟨rfl, hw⟩; have B1 := hide hw; clear hw HA)
      | (go_at_call 20; refine (HC.out HN.out _ B1.out).mono ?_; rintro e w3 ⟨rfl, hw⟩; have B2 := hide (B1.out.trans (hw.mono B1.out.size)); clear hw HC)
      | (go_at_call 21; refine (HR.out HN.out _ B2.out).mono ?_; rintro e w4 ⟨rfl, hw⟩; have B3 := hide (B2.out.trans (hw.mono B2.out.size)); clear hw HR))
    go_ret
    exact ⟨by simp, B3.out⟩
end Go.Proofs.Ytlfffpgokemjbaa.U
