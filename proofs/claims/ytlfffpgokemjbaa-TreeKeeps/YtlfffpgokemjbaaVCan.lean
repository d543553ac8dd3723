/- The program's Can, by what Check tells: contract. -/
import Derived.Test.YtlfffpgokemjbaaVTim
import Derived.Test.YtlfffpgokemjbaaUCan
namespace Go.Proofs.Ytlfffpgokemjbaa.U
set_option maxRecDepth 100000
open Go Go.RowKit
set_option linter.unusedVariables false
theorem canE_tar {m : En} : CanE 2 m ↔ tarB m.time = true := by
  unfold CanE tarB
  simp only [Bool.and_eq_true, decide_eq_true_eq]
  constructor
  · rintro ⟨h, _⟩
    constructor
    · apply Classical.byContradiction
      intro g
      exact h ⟨by first | rfl | trivial, .inl (by omega)⟩
    · apply Classical.byContradiction
      intro g
      exact h ⟨by first | rfl | trivial, .inr (by omega)⟩
  · rintro ⟨h1, h2⟩
    exact ⟨fun g => by rcases g.2 with q | q <;> omega, fun g => by omega⟩
theorem canE_zip {m : En} : CanE 1 m ↔ zipB m.time = true := by
  unfold CanE zipB
  constructor
  · rintro ⟨_, h⟩
    cases hb : T.ntb (m.time / 100 + 116444736000000000)
    · exact absurd ⟨rfl, hb⟩ h
    · rfl
  · intro h
    exact ⟨fun g => by omega, fun g => by rw [h] at g; cases g.2⟩
theorem canE_solid {f : Int} {m : En} (h1 : f ≠ 1) (h2 : f ≠ 2) : CanE f m := ⟨fun g => h2 g.1, fun g => h1 g.1⟩
theorem haveTar_v (a : Option Addr) (cap : Nat) (es : List En) (w : World) (h : EntsIn w a es) (hl : es.length ≤ 1000000000) (b : Bool) (hb : b = true ↔ ∀ m ∈ es, tarB m.time = true) : Calls Try.prog 32 #[.slice a es.length cap, .func (.func 33) #[] #[]] w fun e w' => e = .returned (.bool b) ∧ Below w.heap.size w w' :=
  (haveTar_c a cap es w h hl).mono fun e w' ⟨d, he, hd, hw⟩ => by
    have e2 : d = b := Bool.eq_iff_iff.2 (hd.trans hb.symm)
    rw [e2] at he; exact ⟨he, hw⟩
theorem haveZip_v (a : Option Addr) (cap : Nat) (es : List En) (w : World) (h : EntsIn w a es) (hl : es.length ≤ 1000000000) (hT : ∀ m ∈ es, -9223372036854775808 ≤ m.time ∧ m.time ≤ 9223372036854775807) (b : Bool) (hb : b = true ↔ ∀ m ∈ es, zipB m.time = true) : Calls Try.prog 32 #[.slice a es.length cap, .func (.func 34) #[] #[]] w fun e w' => e = .returned (.bool b) ∧ Below w.heap.size w w' :=
  (haveZip_c a cap es w h hl hT).mono fun e w' ⟨d, he, hd, hw⟩ => by
    have e2 : d = b := Bool.eq_iff_iff.2 (hd.trans hb.symm)
    rw [e2] at he; exact ⟨he, hw⟩
theorem bool_of (p : Prop) : ∃ b : Bool, b = true ↔ p := by
  by_cases h : p
  · exact ⟨true, fun _ => h, fun _ => rfl⟩
  · exact ⟨false, fun q => (by cases q), fun q => absurd q h⟩
set_option maxHeartbeats 4000000 in
theorem can_c (a : Option Addr) (cap : Nat) (c f : Int) (es : List En) (w : World) (h : EntsIn w a es) (hl : es.length ≤ 1000000000) (hT : ∀ m ∈ es, -9223372036854775808 ≤ m.time ∧ m.time ≤ 9223372036854775807)
    (hc : Calls Try.prog 11 #[.slice a es.length cap] w fun e w' => e = .returned (.int .i64 c) ∧ Below w.heap.size w w') : Calls Try.prog 20 #[.slice a es.length cap, .int .i64 f] w (CnOk c f es w) := by
  have HR : Hid (∀ (b : Bool) w', (b = true ↔ Can c f es) → Below w.heap.size w w' → CnOk c f es w (.returned (.bool b)) w') := hide fun b w' q r => ⟨b, rfl, q, r⟩
  have BW := hide (Below.refl w.heap.size w)
  obtain ⟨bt, hbt⟩ := bool_of (∀ m ∈ es, tarB m.time = true)
  obtain ⟨bz, hbz⟩ := bool_of (∀ m ∈ es, zipB m.time = true)
  have HTR := hide (fun W (hW : Below w.heap.size w W) => haveTar_v a cap es W (h.stay hW) hl bt hbt)
  have HZP := hide (fun W (hW : Below w.heap.size w W) => haveZip_v a cap es W (h.stay hW) hl hT bz hbz)
  have HC := hide hc
  have HBT := hide hbt
  have HBZ := hide hbz
  generalize es.length = n at *
  clear h hl hT hc hbt hbz
  by_cases h3 : f = 3
  · subst h3
    by_cases c0 : c = 0
    · have Q := hide (fun w' => HR.out true w' ⟨fun _ => ⟨c0, by omega, by omega, fun m _ => canE_solid (by omega) (by omega)⟩, fun _ => rfl⟩)
      subst c0
      clear HR
      go_enter Try.func20, Try.ntmps20
      go_wp2_with (go_at_call 11; refine HC.out.mono ?_; rintro e w1 ⟨rfl, hw⟩; have B1 := hide hw; clear hw HC)
      go_ret
      exact Q.out _ B1.out
    · have Q := hide (fun w' => HR.out false w' ⟨fun q => (by cases q), fun q => absurd q.1 c0⟩)
      have cb : (c == 0) = false := by simpa using c0
      clear HR c0
      go_enter Try.func20, Try.ntmps20
      go_wp2_with (go_at_call 11; refine HC.out.mono ?_; rintro e w1 ⟨rfl, hw⟩; have B1 := hide hw; clear hw HC)
      go_ret
      exact Q.out _ B1.out
  by_cases h2 : f = 2
  · subst h2
    clear h3
    by_cases c0 : c = 0
    · have Q := hide (fun w' => HR.out bt w' ⟨fun q => ⟨c0, by omega, by omega, fun m hm => canE_tar.2 (HBT.out.1 q m hm)⟩, fun q => HBT.out.2 fun m hm => canE_tar.1 (q.2.2.2 m hm)⟩)
      subst c0
      clear HR
      go_enter Try.func20, Try.ntmps20
      go_wp2_with (first
        | (go_at_call 11; refine HC.out.mono ?_; rintro e w1 ⟨rfl, hw⟩; have B1 := hide hw; clear hw HC)
        | (go_at_call 32; refine (HTR.out _ B1.out).mono ?_; rintro e w2 ⟨rfl, hw⟩; have B2 := hide (B1.out.trans (hw.mono B1.out.size)); clear hw HTR))
      go_ret
      exact Q.out _ B2.out
    · have Q := hide (fun w' => HR.out false w' ⟨fun q => (by cases q), fun q => absurd q.1 c0⟩)
      have cb : (c == 0) = false := by simpa using c0
      clear HR c0
      go_enter Try.func20, Try.ntmps20
      go_wp2_with (go_at_call 11; refine HC.out.mono ?_; rintro e w1 ⟨rfl, hw⟩; have B1 := hide hw; clear hw HC)
      go_ret
      exact Q.out _ B1.out
  by_cases h1 : f = 1
  · subst h1
    clear h3 h2
    by_cases c0 : c = 0
    · have Q := hide (fun w' => HR.out bz w' ⟨fun q => ⟨c0, by omega, by omega, fun m hm => canE_zip.2 (HBZ.out.1 q m hm)⟩, fun q => HBZ.out.2 fun m hm => canE_zip.1 (q.2.2.2 m hm)⟩)
      subst c0
      clear HR
      go_enter Try.func20, Try.ntmps20
      go_wp2_with (first
        | (go_at_call 11; refine HC.out.mono ?_; rintro e w1 ⟨rfl, hw⟩; have B1 := hide hw; clear hw HC)
        | (go_at_call 32; refine (HZP.out _ B1.out).mono ?_; rintro e w2 ⟨rfl, hw⟩; have B2 := hide (B1.out.trans (hw.mono B1.out.size)); clear hw HZP))
      go_ret
      exact Q.out _ B2.out
    · have Q := hide (fun w' => HR.out false w' ⟨fun q => (by cases q), fun q => absurd q.1 c0⟩)
      have cb : (c == 0) = false := by simpa using c0
      clear HR c0
      go_enter Try.func20, Try.ntmps20
      go_wp2_with (go_at_call 11; refine HC.out.mono ?_; rintro e w1 ⟨rfl, hw⟩; have B1 := hide hw; clear hw HC)
      go_ret
      exact Q.out _ B1.out
  · have Q := hide (HR.out false w ⟨fun q => (by cases q), fun q => by have := q.2.1; have := q.2.2.1; omega⟩)
    clear HR
    go_enter Try.func20, Try.ntmps20
    go_wp2_with fail
    go_ret
    exact Q.out BW.out
end Go.Proofs.Ytlfffpgokemjbaa.U
