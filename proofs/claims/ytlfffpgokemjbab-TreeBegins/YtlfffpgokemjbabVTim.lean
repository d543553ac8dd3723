/- The program's haveTimes with isTarTime, isZipTime: contracts. -/
import Derived.Test.YtlfffpgokemjbabVRow
import Derived.Test.YtlfffpgokemjbabURef
import Derived.Test.YtlfffpgokemjbabPNum
namespace Go.Proofs.Ytlfffpgokemjbab.U
set_option maxRecDepth 100000
open Go Go.RowKit
set_option linter.unusedVariables false
def tarB (t : Int) : Bool := decide (-9000000000000000000 ≤ t) && decide (t ≤ 9000000000000000000)
def zipB (t : Int) : Bool := T.ntb (t / 100 + 116444736000000000)
theorem tarB_c (t : Int) (w : World) : Calls Try.prog 17 #[.int .i64 t] w fun e w' => e = .returned (.bool (tarB t)) ∧ w' = w := by
  unfold tarB
  by_cases h1 : -9000000000000000000 ≤ t
  · by_cases h2 : t ≤ 9000000000000000000
    · have d1 : decide (-9000000000000000000 ≤ t) = true := decide_eq_true h1
      have d2 : decide (t ≤ 9000000000000000000) = true := decide_eq_true h2
      rw [d1, d2]
      go_enter Try.func17, Try.ntmps17
      go_wp2_with fail
      go_ret
      exact ⟨rfl, rfl⟩
    · have d1 : decide (-9000000000000000000 ≤ t) = true := decide_eq_true h1
      have d2 : decide (t ≤ 9000000000000000000) = false := decide_eq_false h2
      rw [d1, d2]
      go_enter Try.func17, Try.ntmps17
      go_wp2_with fail
      go_ret
      exact ⟨rfl, rfl⟩
  · have d1 : decide (-9000000000000000000 ≤ t) = false := decide_eq_false h1
    rw [d1, Bool.false_and]
    go_enter Try.func17, Try.ntmps17
    go_wp2_with fail
    go_ret
    exact ⟨rfl, rfl⟩
theorem zipB_c (t : Int) (w : World) (h1 : -9223372036854775808 ≤ t) (h2 : t ≤ 9223372036854775807) : Calls Try.prog 18 #[.int .i64 t] w fun e w' => e = .returned (.bool (zipB t)) ∧ w' = w := by
  have H1 := fun W => hide (T.toNt_c t W h1 h2)
  have H2 := fun W => hide (T.fromNt_c (t / 100 + 116444736000000000) W (by omega) (by omega))
  unfold zipB
  generalize T.ntv (t / 100 + 116444736000000000) = v at *
  generalize T.ntb (t / 100 + 116444736000000000) = b at *
  generalize t / 100 + 116444736000000000 = y at *
  clear h1 h2
  go_enter Try.func18, Try.ntmps18
  go_wp2_with (first
    | (go_at_call 26; refine (H1 _).out.mono ?_; rintro e w2 ⟨rfl, hw⟩; obtain rfl := hw.symm; clear H1)
    | (go_at_call 25; refine (H2 _).out.mono ?_; rintro e w2 ⟨rfl, hw⟩; obtain rfl := hw.symm; clear H2))
  go_ret
  exact ⟨rfl, rfl⟩
def HvOk (p : Int → Bool) (es : List En) (w : World) (e : Ending) (w' : World) : Prop := ∃ b : Bool, e = .returned (.bool b) ∧ (b = true ↔ ∀ m ∈ es, p m.time = true) ∧ Below w.heap.size w w'
set_option maxHeartbeats 4000000 in
theorem haveTar_c (a : Option Addr) (cap : Nat) (es : List En) (w : World) (h : EntsIn w a es) (hl : es.length ≤ 1000000000) : Calls Try.prog 16 #[.slice a es.length cap, .func (.func 17) #[] #[]] w (HvOk tarB es w) := by
  have HF : Hid (∀ (m : En) w', m ∈ es → tarB m.time = false → Below w.heap.size w w' → HvOk tarB es w (.returned (.bool false)) w') := hide fun m w' q q2 r => ⟨false, rfl, ⟨fun s => (by cases s), fun s => by have := s m q; rw [q2] at this; cases this⟩, r⟩
  have HT : Hid (∀ w', (∀ m ∈ es, tarB m.time = true) → Below w.heap.size w w' → HvOk tarB es w (.returned (.bool true)) w') := hide fun w' q r => ⟨true, rfl, ⟨fun _ => q, fun _ => rfl⟩, r⟩
  obtain ⟨n, hnn⟩ : ∃ n, n = es.length := ⟨_, rfl⟩
  have HN := hide hnn
  rw [← hnn] at hl ⊢
  have HE := hide h
  have HL := hide hl
  clear h hl hnn
  go_enter Try.func16, Try.ntmps16
  go_wp2_with fail
  go_loopg [9] n (fun gk u9 wx => ∃ i : Nat, i + gk = n ∧ u9 = .int .i64 (i : Int) ∧ Hid (∀ m ∈ es.take i, tarB m.time = true) ∧ Hid (Below w.heap.size w wx))
  case atStart => exact ⟨0, by omega, rfl, hide fun m hm => by simp at hm, hide (Below.refl _ _)⟩
  case round =>
    obtain ⟨i, hig, rfl, HA, BX⟩ := hrel
    cases gk with
    | zero =>
      obtain rfl : i = n := by omega
      have hge : ¬ (i : Int) < (i : Int) := by omega
      have e : es.take i = es := by rw [HN.out]; exact List.take_length
      rw [e] at HA
      clear e
      go_wp2_with fail
      go_ret
      exact HT.out _ HA.out BX.out
    | succ g1 =>
      have hlt : (i : Int) < (n : Int) := by omega
      have hnI : (n : Int) ≤ 1000000000 := by have := HL.out; omega
      have hi : i < es.length := by have := HN.out; omega
      obtain ⟨m, hm⟩ : ∃ m, es[i]? = some m := ⟨_, List.getElem?_eq_getElem hi⟩
      obtain ⟨b1, o1, hb, rfl, a0, a1, a2, a3, a4, a5⟩ := (HE.out.stay BX.out).six hm
      have HC := fun W => hide (tarB_c m.time W)
      have BA : Hid (∀ o, Below w.heap.size w (wr.alloc o)) := hide fun o => BX.out.alloc BX.out.size _
      have HM := hide (List.mem_of_getElem? hm)
      have HST : Hid (tarB m.time = true → ∀ p ∈ es.take (i + 1), tarB p.time = true) := hide fun g p hp => by
        rw [List.take_add_one, hm] at hp
        rcases List.mem_append.1 hp with q | q
        · exact HA.out p q
        · simp at q; subst q; exact g
      have IG := hide hig
      clear hig hi hm hb
      cases hp : tarB m.time
      · rw [hp] at HC
        have Q := hide (fun w' => HF.out m w' HM.out hp)
        clear hp HST
        go_wp2_with (go_at_call 17; refine (HC _).out.mono ?_; rintro e w2 ⟨rfl, hw⟩; obtain rfl := hw.symm; clear HC)
        go_ret
        exact Q.out _ (BA.out _)
      · rw [hp] at HC
        have Q := hide (HST.out hp)
        clear hp HST
        go_wp2_with (go_at_call 17; refine (HC _).out.mono ?_; rintro e w2 ⟨rfl, hw⟩; obtain rfl := hw.symm; clear HC)
        go_roundg g1
        case measure => omega
        case rel => exact ⟨i + 1, by have := IG.out; omega, by go_num, Q, hide (BA.out _)⟩
set_option maxHeartbeats 4000000 in
theorem haveZip_c (a : Option Addr) (cap : Nat) (es : List En) (w : World) (h : EntsIn w a es) (hl : es.length ≤ 1000000000) (hT : ∀ m ∈ es, -9223372036854775808 ≤ m.time ∧ m.time ≤ 9223372036854775807) : Calls Try.prog 16 #[.slice a es.length cap, .func (.func 18) #[] #[]] w (HvOk zipB es w) := by
  have HF : Hid (∀ (m : En) w', m ∈ es → zipB m.time = false → Below w.heap.size w w' → HvOk zipB es w (.returned (.bool false)) w') := hide fun m w' q q2 r => ⟨false, rfl, ⟨fun s => (by cases s), fun s => by have := s m q; rw [q2] at this; cases this⟩, r⟩
  have HT : Hid (∀ w', (∀ m ∈ es, zipB m.time = true) → Below w.heap.size w w' → HvOk zipB es w (.returned (.bool true)) w') := hide fun w' q r => ⟨true, rfl, ⟨fun _ => q, fun _ => rfl⟩, r⟩
  obtain ⟨n, hnn⟩ : ∃ n, n = es.length := ⟨_, rfl⟩
  have HN := hide hnn
  rw [← hnn] at hl ⊢
  have HE := hide h
  have HL := hide hl
  have HTT := hide hT
  clear hT
  clear h hl hnn
  go_enter Try.func16, Try.ntmps16
  go_wp2_with fail
  go_loopg [9] n (fun gk u9 wx => ∃ i : Nat, i + gk = n ∧ u9 = .int .i64 (i : Int) ∧ Hid (∀ m ∈ es.take i, zipB m.time = true) ∧ Hid (Below w.heap.size w wx))
  case atStart => exact ⟨0, by omega, rfl, hide fun m hm => by simp at hm, hide (Below.refl _ _)⟩
  case round =>
    obtain ⟨i, hig, rfl, HA, BX⟩ := hrel
    cases gk with
    | zero =>
      obtain rfl : i = n := by omega
      have hge : ¬ (i : Int) < (i : Int) := by omega
      have e : es.take i = es := by rw [HN.out]; exact List.take_length
      rw [e] at HA
      clear e
      go_wp2_with fail
      go_ret
      exact HT.out _ HA.out BX.out
    | succ g1 =>
      have hlt : (i : Int) < (n : Int) := by omega
      have hnI : (n : Int) ≤ 1000000000 := by have := HL.out; omega
      have hi : i < es.length := by have := HN.out; omega
      obtain ⟨m, hm⟩ : ∃ m, es[i]? = some m := ⟨_, List.getElem?_eq_getElem hi⟩
      obtain ⟨b1, o1, hb, rfl, a0, a1, a2, a3, a4, a5⟩ := (HE.out.stay BX.out).six hm
      have HC := fun W => hide (zipB_c m.time W (HTT.out m (List.mem_of_getElem? hm)).1 (HTT.out m (List.mem_of_getElem? hm)).2)
      have BA : Hid (∀ o, Below w.heap.size w (wr.alloc o)) := hide fun o => BX.out.alloc BX.out.size _
      have HM := hide (List.mem_of_getElem? hm)
      have HST : Hid (zipB m.time = true → ∀ p ∈ es.take (i + 1), zipB p.time = true) := hide fun g p hp => by
        rw [List.take_add_one, hm] at hp
        rcases List.mem_append.1 hp with q | q
        · exact HA.out p q
        · simp at q; subst q; exact g
      have IG := hide hig
      clear hig hi hm hb
      cases hp : zipB m.time
      · rw [hp] at HC
        have Q := hide (fun w' => HF.out m w' HM.out hp)
        clear hp HST
        go_wp2_with (go_at_call 18; refine (HC _).out.mono ?_; rintro e w2 ⟨rfl, hw⟩; obtain rfl := hw.symm; clear HC)
        go_ret
        exact Q.out _ (BA.out _)
      · rw [hp] at HC
        have Q := hide (HST.out hp)
        clear hp HST
        go_wp2_with (go_at_call 18; refine (HC _).out.mono ?_; rintro e w2 ⟨rfl, hw⟩; obtain rfl := hw.symm; clear HC)
        go_roundg g1
        case measure => omega
        case rel => exact ⟨i + 1, by have := IG.out; omega, by go_num, Q, hide (BA.out _)⟩
end Go.Proofs.Ytlfffpgokemjbab.U
