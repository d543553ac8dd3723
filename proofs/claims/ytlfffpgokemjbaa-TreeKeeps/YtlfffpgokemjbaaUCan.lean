/- The reference's Can, by what Check tells: contract. -/
import Derived.Test.YtlfffpgokemjbaaURef
import Derived.Test.YtlfffpgokemjbaaRNum
namespace Go.Proofs.Ytlfffpgokemjbaa.U
set_option maxRecDepth 100000
open Go Go.RowKit
set_option linter.unusedVariables false
/-- A format can hold an entry's time. -/
def CanE (f : Int) (m : En) : Prop := ¬ (f = 2 ∧ (m.time < -9000000000000000000 ∨ 9000000000000000000 < m.time)) ∧ ¬ (f = 1 ∧ T.ntb (m.time / 100 + 116444736000000000) = false)
def Can (c f : Int) (es : List En) : Prop := c = 0 ∧ 1 ≤ f ∧ f ≤ 3 ∧ ∀ m ∈ es, CanE f m
def CnOk (c f : Int) (es : List En) (w : World) (e : Ending) (w' : World) : Prop := ∃ b : Bool, e = .returned (.bool b) ∧ (b = true ↔ Can c f es) ∧ Below w.heap.size w w'
set_option maxHeartbeats 4000000 in
theorem rcan_c (a : Option Addr) (cap : Nat) (c f : Int) (es : List En) (w : World) (h : EntsIn w a es) (hl : es.length ≤ 1000000000) (hT : ∀ m ∈ es, -9223372036854775808 ≤ m.time ∧ m.time ≤ 9223372036854775807)
    (hc : Calls Try.prog 12 #[.slice a es.length cap] w fun e w' => e = .returned (.int .i64 c) ∧ Below w.heap.size w w') : Calls Try.prog 21 #[.slice a es.length cap, .int .i64 f] w (CnOk c f es w) := by
  have HF : Hid (∀ w', ¬ Can c f es → Below w.heap.size w w' → CnOk c f es w (.returned (.bool false)) w') := hide fun w' q r => ⟨false, rfl, ⟨fun s => (by cases s), fun s => absurd s q⟩, r⟩
  have HT : Hid (∀ w', Can c f es → Below w.heap.size w w' → CnOk c f es w (.returned (.bool true)) w') := hide fun w' q r => ⟨true, rfl, ⟨fun _ => q, fun _ => rfl⟩, r⟩
  obtain ⟨n, hnn⟩ : ∃ n, n = es.length := ⟨_, rfl⟩
  have HN := hide hnn
  rw [← hnn] at hc hl ⊢
  have HC := hide hc
  have HE := hide h
  have HL := hide hl
  have HTT := hide hT
  clear h hl hnn hT hc
  rcases (by omega : c ≠ 0 ∨ (c = 0 ∧ f < 1) ∨ (c = 0 ∧ ¬ f < 1 ∧ 3 < f) ∨ (c = 0 ∧ ¬ f < 1 ∧ ¬ 3 < f)) with h1 | ⟨h1, h2⟩ | ⟨h1, h2, h3⟩ | ⟨h1, h2, h3⟩
  · have Q := hide (fun w' => HF.out w' (fun q => h1 q.1))
    have hne : (c != 0) = true := by simpa using h1
    clear HF HT h1
    go_enter Try.func21, Try.ntmps21
    go_wp2_with (go_at_call 12; refine HC.out.mono ?_; rintro e w1 ⟨rfl, hw⟩; have B1 := hide hw; clear hw HC)
    all_goals go_ret
    all_goals exact Q.out _ B1.out
  · have Q := hide (fun w' => HF.out w' (fun q => by have := q.2.1; omega))
    subst h1
    clear HF HT
    go_enter Try.func21, Try.ntmps21
    go_wp2_with (go_at_call 12; refine HC.out.mono ?_; rintro e w1 ⟨rfl, hw⟩; have B1 := hide hw; clear hw HC)
    all_goals go_ret
    all_goals exact Q.out _ B1.out
  · have Q := hide (fun w' => HF.out w' (fun q => by have := q.2.2.1; omega))
    subst h1
    clear HF HT
    go_enter Try.func21, Try.ntmps21
    go_wp2_with (go_at_call 12; refine HC.out.mono ?_; rintro e w1 ⟨rfl, hw⟩; have B1 := hide hw; clear hw HC)
    all_goals go_ret
    all_goals exact Q.out _ B1.out
  · subst h1
    have GF := hide (And.intro h2 h3)
    go_enter Try.func21, Try.ntmps21
    go_wp2_with (go_at_call 12; refine HC.out.mono ?_; rintro e w1 ⟨rfl, hw⟩; have B1 := hide hw; clear hw HC)
    clear h2 h3
    go_loopg [5] n (fun gk u5 wx => ∃ i : Nat, i + gk = n ∧ u5 = .int .i64 (i : Int) ∧ Hid (∀ m ∈ es.take i, CanE f m) ∧ wx = w1)
    case atStart => exact ⟨0, by omega, rfl, hide fun m hm => by simp at hm, rfl⟩
    case round =>
      obtain ⟨i, hig, rfl, HA, hwx⟩ := hrel
      obtain rfl := hwx.symm
      cases gk with
      | zero =>
        obtain rfl : i = n := by omega
        have hge : ¬ (i : Int) < (i : Int) := by omega
        have e : es.take i = es := by rw [HN.out]; exact List.take_length
        rw [e] at HA
        have Q := hide (HT.out w1 ⟨rfl, by have := GF.out; omega, by have := GF.out; omega, HA.out⟩)
        clear e HF HT HA
        go_wp2_with fail
        go_ret
        exact Q.out B1.out
      | succ g1 =>
        have hlt : (i : Int) < (n : Int) := by omega
        have hnI : (n : Int) ≤ 1000000000 := by have := HL.out; omega
        have hi : i < es.length := by have := HN.out; omega
        obtain ⟨m, hm⟩ : ∃ m, es[i]? = some m := ⟨_, List.getElem?_eq_getElem hi⟩
        obtain ⟨b1, o1, hb, rfl, a0, a1, a2, a3, a4, a5⟩ := (HE.out.stay B1.out).six hm
        have hmt := HTT.out m (List.mem_of_getElem? hm)
        have H1 := fun W => hide (T.rtoNt_c m.time W hmt.1 hmt.2)
        have H2 := fun W => hide (T.rfromNt_c (m.time / 100 + 116444736000000000) W (by omega) (by omega))
        have HQ := hide (fun (q : ¬ CanE f m) => HF.out w1 (fun g => q (g.2.2.2 m (List.mem_of_getElem? hm))))
        have HST : Hid (CanE f m → ∀ p ∈ es.take (i + 1), CanE f p) := hide fun g p hp => by
          rw [List.take_add_one, hm] at hp
          rcases List.mem_append.1 hp with q | q
          · exact HA.out p q
          · simp at q; subst q; exact g
        have IG := hide hig
        have HMM := hide hmt
        clear a0 a1 a2 a3 a5 hig hi hm hb HF HT hmt
        have HCE : Hid (CanE f m ↔ (¬ (f = 2 ∧ (m.time < -9000000000000000000 ∨ 9000000000000000000 < m.time)) ∧ ¬ (f = 1 ∧ T.ntb (m.time / 100 + 116444736000000000) = false))) := hide Iff.rfl
        generalize T.ntv (m.time / 100 + 116444736000000000) = v at *
        generalize T.ntb (m.time / 100 + 116444736000000000) = z at *
        generalize m.time / 100 + 116444736000000000 = y at *
        generalize m.time = x at *
        by_cases hf : f = 2
        · subst hf
          rcases (by omega : x < -9000000000000000000 ∨ (¬ x < -9000000000000000000 ∧ 9000000000000000000 < x) ∨ (¬ x < -9000000000000000000 ∧ ¬ 9000000000000000000 < x)) with g | ⟨g, g2⟩ | ⟨g, g2⟩
          · have Q := hide (HQ.out (fun q => (HCE.out.1 q).1 ⟨rfl, .inl g⟩))
            clear HQ HST HCE H1 H2
            go_wp2_with fail
            go_ret
            exact Q.out B1.out
          · have Q := hide (HQ.out (fun q => (HCE.out.1 q).1 ⟨rfl, .inr g2⟩))
            clear HQ HST HCE H1 H2
            go_wp2_with fail
            go_ret
            exact Q.out B1.out
          · have Q := hide (HST.out (HCE.out.2 ⟨fun q => by omega, fun q => by omega⟩))
            clear HQ HST HCE
            go_wp2_with (first
              | (go_at_call 36; refine (H1 _).out.mono ?_; rintro e w2 ⟨rfl, hw⟩; obtain rfl := hw.symm; clear H1)
              | (go_at_call 35; refine (H2 _).out.mono ?_; rintro e w2 ⟨rfl, hw⟩; obtain rfl := hw.symm; clear H2))
            go_roundg g1
            case measure => omega
            case rel => exact ⟨i + 1, by have := IG.out; omega, by go_num, Q, rfl⟩
        · by_cases hf1 : f = 1
          · subst hf1
            cases z
            · have Q := hide (HQ.out (fun q => (HCE.out.1 q).2 ⟨rfl, rfl⟩))
              clear HQ HST HCE
              go_wp2_with (first
                | (go_at_call 36; refine (H1 _).out.mono ?_; rintro e w2 ⟨rfl, hw⟩; obtain rfl := hw.symm; clear H1)
                | (go_at_call 35; refine (H2 _).out.mono ?_; rintro e w2 ⟨rfl, hw⟩; obtain rfl := hw.symm; clear H2))
              go_ret
              exact Q.out B1.out
            · have Q := hide (HST.out (HCE.out.2 ⟨fun q => by omega, fun q => by cases q.2⟩))
              clear HQ HST HCE
              go_wp2_with (first
                | (go_at_call 36; refine (H1 _).out.mono ?_; rintro e w2 ⟨rfl, hw⟩; obtain rfl := hw.symm; clear H1)
                | (go_at_call 35; refine (H2 _).out.mono ?_; rintro e w2 ⟨rfl, hw⟩; obtain rfl := hw.symm; clear H2))
              go_roundg g1
              case measure => omega
              case rel => exact ⟨i + 1, by have := IG.out; omega, by go_num, Q, rfl⟩
          · have Q := hide (HST.out (HCE.out.2 ⟨fun q => hf q.1, fun q => hf1 q.1⟩))
            clear HQ HST HCE
            go_wp2_with (first
              | (go_at_call 36; refine (H1 _).out.mono ?_; rintro e w2 ⟨rfl, hw⟩; obtain rfl := hw.symm; clear H1)
              | (go_at_call 35; refine (H2 _).out.mono ?_; rintro e w2 ⟨rfl, hw⟩; obtain rfl := hw.symm; clear H2))
            go_roundg g1
            case measure => omega
            case rel => exact ⟨i + 1, by have := IG.out; omega, by go_num, Q, rfl⟩
end Go.Proofs.Ytlfffpgokemjbaa.U
