/- The program's isTarget, isOfKind, isClean, checkEntry: contracts. -/
import Derived.Test.YtlfffpgokemjbabVRow
import Derived.Test.YtlfffpgokemjbabURgt
import Derived.Test.YtlfffpgokemjbabEClean
namespace Go.Proofs.Ytlfffpgokemjbab.U
set_option maxRecDepth 100000
open Go Go.RowKit
set_option linter.unusedVariables false
def Tg (s : ByteArray) : Prop := s.toList ≠ [] ∧ s.size ≤ 200 ∧ ¬ (0 : UInt8) ∈ s.data.toList ∧ E.vld s.data.toList = true
theorem nul_iff (s : ByteArray) : (∀ i (h : i < s.size), (s[i]'h).toNat ≠ 0) ↔ ¬ (0 : UInt8) ∈ s.data.toList := by
  constructor
  · intro h hm
    obtain ⟨i, hi, e⟩ := List.getElem_of_mem hm
    have hi2 : i < s.size := by simpa using hi
    refine h i hi2 ?_
    have e2 : s[i]'hi2 = 0 := by rw [← e]; simp; rfl
    rw [e2]; rfl
  · intro h i hi e
    refine h ?_
    have e2 : s[i]'hi = 0 := UInt8.toNat_inj.1 e
    rw [← e2]
    have : s[i]'hi = s.data.toList[i]'(by simpa using hi) := by simp; rfl
    rw [this]
    exact List.getElem_mem _
def TgOk (s : ByteArray) (w : World) (e : Ending) (w' : World) : Prop := ∃ b : Bool, e = .returned (.bool b) ∧ (b = true ↔ Tg s) ∧ Below w.heap.size w w'
set_option maxHeartbeats 4000000 in
theorem isTarget_c (s : ByteArray) (w : World) (hsm : s.size ≤ 9223372036854775807) : Calls Try.prog 22 #[.string s] w (TgOk s w) := by
  have HF : ¬ Tg s → Hid (∀ w', Below w.heap.size w w' → TgOk s w (.returned (.bool false)) w') := fun g => hide fun w' q => ⟨false, rfl, ⟨fun s => (by cases s), fun s => absurd s g⟩, q⟩
  have HT : Tg s → Hid (∀ w', Below w.heap.size w w' → TgOk s w (.returned (.bool true)) w') := fun g => hide fun w' q => ⟨true, rfl, ⟨fun _ => g, fun _ => rfl⟩, q⟩
  have HV := fun W => hide (E.valid_c s (by omega) W)
  have HC := fun W => hide (sh_strings_Contains_one s 0 W)
  have HB := hide (Below.refl w.heap.size w)
  unfold Tg at HF HT
  rw [E.ib_is] at HC
  by_cases h1 : s.toList = []
  · have Q := HF (fun g => g.1 h1)
    clear HF HT
    go_enter Try.func22, Try.ntmps22
    go_wp2_with fail
    go_ret
    exact Q.out _ HB.out
  · have he : s.toList.isEmpty = false := by simpa using h1
    by_cases h2 : s.size ≤ 200
    · have h2I : (s.size : Int) ≤ 200 := by omega
      by_cases h3 : (0 : UInt8) ∈ s.data.toList
      · have Q := HF (fun g => g.2.2.1 h3)
        rw [decide_eq_true h3] at HC
        clear HF HT h1 h2 h3 HV
        go_enter Try.func22, Try.ntmps22
        go_wp2_with (go_at_call 30; refine (HC _).out.mono ?_; rintro e wq ⟨rfl, hw⟩; obtain rfl := hw.symm; clear HC)
        go_ret
        exact Q.out _ HB.out
      · rw [decide_eq_false h3] at HC
        cases hv : E.vld s.data.toList
        · have Q := HF (fun g => by have := g.2.2.2; rw [hv] at this; cases this)
          rw [hv] at HV
          clear HF HT h1 h2 h3 hv
          go_enter Try.func22, Try.ntmps22
          go_wp2_with (first
            | (go_at_call 30; refine (HC _).out.mono ?_; rintro e wq ⟨rfl, hw⟩; obtain rfl := hw.symm; clear HC)
            | (go_at_call 29; refine (HV _).out.mono ?_; rintro e w1 ⟨rfl, b1⟩; have B1 := hide b1; clear b1 HV))
          go_ret
          exact Q.out _ B1.out
        · have Q := HT ⟨h1, h2, h3, hv⟩
          rw [hv] at HV
          clear HF HT h1 h2 h3 hv
          go_enter Try.func22, Try.ntmps22
          go_wp2_with (first
            | (go_at_call 30; refine (HC _).out.mono ?_; rintro e wq ⟨rfl, hw⟩; obtain rfl := hw.symm; clear HC)
            | (go_at_call 29; refine (HV _).out.mono ?_; rintro e w1 ⟨rfl, b1⟩; have B1 := hide b1; clear b1 HV))
          go_ret
          exact Q.out _ B1.out
    · have h2I : ¬ (s.size : Int) ≤ 200 := by omega
      have Q := HF (fun g => h2 g.2.1)
      clear HF HT h1 h2
      go_enter Try.func22, Try.ntmps22
      go_wp2_with fail
      go_ret
      exact Q.out _ HB.out
/-- An entry is of its kind. -/
def Kd (m : En) : Prop := (m.kind = 1 ∧ m.target.toList = []) ∨ (m.kind = 2 ∧ m.data.toList = [] ∧ m.target.toList = []) ∨ (m.kind = 3 ∧ m.data.toList = [] ∧ Tg m.target)
def KdOk (m : En) (w : World) (e : Ending) (w' : World) : Prop := ∃ b : Bool, e = .returned (.bool b) ∧ (b = true ↔ Kd m) ∧ Below w.heap.size w w'
set_option maxHeartbeats 4000000 in
theorem isOfKind_c (m : En) (w : World) (hsm : m.target.size ≤ 9223372036854775807) : Calls Try.prog 13 #[.agg m.cells] w (KdOk m w) := by
  have HF : ¬ Kd m → Hid (∀ w', Below w.heap.size w w' → KdOk m w (.returned (.bool false)) w') := fun g => hide fun w' q => ⟨false, rfl, ⟨fun s => (by cases s), fun s => absurd s g⟩, q⟩
  have HT : Kd m → Hid (∀ w', Below w.heap.size w w' → KdOk m w (.returned (.bool true)) w') := fun g => hide fun w' q => ⟨true, rfl, ⟨fun _ => g, fun _ => rfl⟩, q⟩
  have HG := fun W => hide (isTarget_c m.target W hsm)
  have HB : ∀ o, Hid (Below w.heap.size w (w.alloc o)) := fun o => hide ((Below.refl _ w).alloc (Nat.le_refl _) _)
  obtain ⟨k, p, tg, md, tm, dt⟩ := m
  unfold Kd at HF HT
  simp only at HF HT HG
  unfold En.cells
  simp only
  clear hsm
  by_cases h1 : k = 1
  · subst h1
    by_cases ht : tg.toList = []
    · have QT := HT (.inl ⟨rfl, ht⟩)
      have he : tg.toList.isEmpty = true := by rw [ht]; rfl
      clear HF HT HG
      go_enter Try.func13, Try.ntmps13
      go_wp2_with fail
      all_goals go_ret
      all_goals exact QT.out _ (HB _).out
    · have he : tg.toList.isEmpty = false := by simpa using ht
      have QF := HF (fun q => by rcases q with g | g | g; exact ht g.2; exact absurd g.1 (by decide); exact absurd g.1 (by decide))
      clear HF HT HG
      go_enter Try.func13, Try.ntmps13
      go_wp2_with fail
      all_goals go_ret
      all_goals exact QF.out _ (HB _).out
  by_cases h2 : k = 2
  · subst h2
    clear h1
    by_cases ht : dt.toList = []
    · by_cases hu : tg.toList = []
      · have QT := HT (.inr (.inl ⟨rfl, ht, hu⟩))
        clear HF HT HG
        go_enter Try.func13, Try.ntmps13
        go_wp2_with fail
        all_goals go_ret
        all_goals exact QT.out _ (HB _).out
      · have he : tg.toList.isEmpty = false := by simpa using hu
        have QF := HF (fun q => by rcases q with g | g | g; exact absurd g.1 (by decide); exact hu g.2.2; exact absurd g.1 (by decide))
        clear HF HT HG
        go_enter Try.func13, Try.ntmps13
        go_wp2_with fail
        all_goals go_ret
        all_goals exact QF.out _ (HB _).out
    · have he : dt.toList.isEmpty = false := by simpa using ht
      have QF := HF (fun q => by rcases q with g | g | g; exact absurd g.1 (by decide); exact ht g.2.1; exact absurd g.1 (by decide))
      clear HF HT HG
      go_enter Try.func13, Try.ntmps13
      go_wp2_with fail
      all_goals go_ret
      all_goals exact QF.out _ (HB _).out
  by_cases h3 : k = 3
  · subst h3
    clear h1 h2
    by_cases ht : dt.toList = []
    · have HT2 := hide (fun (g : Tg tg) => (HT (.inr (.inr ⟨rfl, ht, g⟩))).out)
      have HF2 := hide (fun (g : ¬ Tg tg) => (HF (fun q => by rcases q with g2 | g2 | g2; exact absurd g2.1 (by decide); exact absurd g2.1 (by decide); exact g g2.2.2)).out)
      clear HF HT
      go_enter Try.func13, Try.ntmps13
      go_wp2_with (go_at_call 22; refine (HG _).out.mono ?_; rintro e w1 ⟨b, rfl, hb, hw⟩; have B1 := hide ((HB _).out.trans (hw.mono (HB _).out.size)); have HBB := hide hb; clear hb hw HG)
      cases b
      · go_wp2_with fail
        all_goals go_ret
        all_goals exact HF2.out (fun g => by have := HBB.out.2 g; cases this) _ B1.out
      · go_wp2_with fail
        all_goals go_ret
        all_goals exact HT2.out (HBB.out.1 (by first | rfl | trivial)) _ B1.out
    · have he : dt.toList.isEmpty = false := by simpa using ht
      have QF := HF (fun q => by rcases q with g | g | g; exact absurd g.1 (by decide); exact absurd g.1 (by decide); exact ht g.2.1)
      clear HF HT HG
      go_enter Try.func13, Try.ntmps13
      go_wp2_with fail
      all_goals go_ret
      all_goals exact QF.out _ (HB _).out
  · have QF := HF (fun q => by rcases q with g | g | g; exact h1 g.1; exact h2 g.1; exact h3 g.1)
    clear HF HT HG
    go_enter Try.func13, Try.ntmps13
    go_wp2_with fail
    all_goals go_ret
    all_goals exact QF.out _ (HB _).out
end Go.Proofs.Ytlfffpgokemjbab.U
