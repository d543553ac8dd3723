/- PROVED: the contracts of the reference's below and PutSeconds. -/
import Derived.Test.YtodkpmnkdplpiaaDoorRefPut
import Derived.Test.YtodkpmnkdplpiaaDoorPure2
import Derived.Deep.DeepFit
namespace Go.Proofs.YtodkpmnkdplpiaaDoor
open Go Go.RowKit
set_option linter.unusedVariables false

theorem app_eq (a b : List UInt8) : (⟨a.toArray⟩ : ByteArray) ++ ⟨b.toArray⟩ = ⟨(a ++ b).toArray⟩ := by
  apply ByteArray.ext
  simp [ByteArray.data_append]
theorem size_mk (a : List UInt8) : (⟨a.toArray⟩ : ByteArray).size = a.length := by simp [ByteArray.size]
theorem dec_small {u : Nat} (h : u < 10) : Lib.decDigits u = [UInt8.ofNat (48 + u)] := by rw [Lib.decDigits, dif_pos h]
theorem dec_big {u : Nat} (h : ¬ u < 10) : Lib.decDigits u = Lib.decDigits (u / 10) ++ [UInt8.ofNat (48 + u % 10)] := by rw [Lib.decDigits, dif_neg h]
theorem dec_len (k : Nat) : ∀ u, u < 10 ^ (k + 1) → (Lib.decDigits u).length ≤ k + 1 := by
  induction k with
  | zero => intro u h; rw [dec_small (by simpa using h)]; simp
  | succ k ih =>
    intro u h
    by_cases h10 : u < 10
    · rw [dec_small h10]; simp
    · rw [dec_big h10, List.length_append]
      have := ih (u / 10) (by rw [Nat.pow_succ] at h; omega)
      simp only [List.length_singleton]
      omega

theorem one_text (W : World) (x : Nat) (hx : x < 256) :
    (convert 22 9 (.slice (some ⟨W.heap.size, 0, none⟩) 1 1)).run Tryd.prog (W.alloc (.cells #[.int .u8 (x : Int)] 5)) = .ok (.string ⟨[UInt8.ofNat x].toArray⟩) (W.alloc (.cells #[.int .u8 (x : Int)] 5)) := by
  have h := run_convert_bytes_back (P := Tryd.prog) (W.alloc (.cells #[.int .u8 (x : Int)] 5)) 22 9 5 ⟨W.heap.size, 0, none⟩ 1 [UInt8.ofNat x] Tryd.underlying22 Tryd.underlying5 Tryd.underlying9 (fun j hj => by
    have hj0 : j = 0 := by simpa using hj
    subst hj0
    have := one_byte W (.int .u8 (x : Int)) 0 (.int .u8 (x : Int)) rfl
    rw [this]
    simp only [List.getElem_cons_zero]
    rw [byte_lt hx])
  exact h

set_option maxRecDepth 100000 in
theorem below_c (k : Nat) : ∀ (u : Nat) (w : World), u < 10 ^ k → 1 ≤ k → u ≤ 9223372036854775808 → k ≤ 20 →
    Calls Tryd.prog 40 #[.int .i64 (-(u : Int))] w fun e w' => e = .returned (.string ⟨(Lib.decDigits u).toArray⟩) ∧ Below w.heap.size w w' := by
  induction k with
  | zero => intro u w _ h; omega
  | succ k ih =>
    intro u w hu _ hmax hk
    have hb : 48 + u % 10 < 256 := by omega
    have hcv := one_text w (48 + u % 10) hb
    have e1 : ((48 + u % 10 : Nat) : Int) = 48 + (u : Int) % 10 := by omega
    rw [e1] at hcv
    have HW : Hid (Below w.heap.size w (w.alloc (.cells #[.int .u8 (48 + (u : Int) % 10)] 5))) := (Below.refl _ w).alloc (Nat.le_refl _) _
    clear e1 hb
    by_cases h10 : u < 10
    · have HD : Hid (Lib.decDigits u = [UInt8.ofNat (48 + u % 10)]) := by rw [Nat.mod_eq_of_lt h10]; exact dec_small h10
      obtain ⟨T, hT⟩ : ∃ T : ByteArray, (⟨[UInt8.ofNat (48 + u % 10)].toArray⟩ : ByteArray) = T := ⟨_, rfl⟩
      rw [hT] at hcv
      have HT : Hid ((⟨[UInt8.ofNat (48 + u % 10)].toArray⟩ : ByteArray) = T) := hT
      clear hT
      go_enter Tryd.func40, Tryd.ntmps40
      go_wp2_with fail
      go_ret
      exact ⟨by rw [HD.out, HT.out]; rfl, HW.out⟩
    · have hih : Calls Tryd.prog 40 #[.int .i64 (-((u : Int) / 10))] (w.alloc (.cells #[.int .u8 (48 + (u : Int) % 10)] 5)) _ := ih (u / 10) _ (by rw [Nat.pow_succ] at hu; omega) (by rcases k with _ | k; simp at hu; omega; omega) (by omega) (by omega)
      have HD : Hid (Lib.decDigits u = Lib.decDigits (u / 10) ++ [UInt8.ofNat (48 + u % 10)]) := dec_big h10
      have hsz : (⟨(Lib.decDigits (u / 10)).toArray⟩ : ByteArray).size ≤ 100 := by
        rw [size_mk]
        have := dec_len k (u / 10) (by rw [Nat.pow_succ] at hu ⊢; omega)
        omega
      have HA : Hid ((⟨(Lib.decDigits (u / 10)).toArray⟩ : ByteArray) ++ ⟨[UInt8.ofNat (48 + u % 10)].toArray⟩ = ⟨(Lib.decDigits u).toArray⟩) := by
        rw [HD.out]; exact app_eq _ _
      obtain ⟨S, hS⟩ : ∃ S : ByteArray, (⟨(Lib.decDigits (u / 10)).toArray⟩ : ByteArray) = S := ⟨_, rfl⟩
      obtain ⟨T, hT⟩ : ∃ T : ByteArray, (⟨[UInt8.ofNat (48 + u % 10)].toArray⟩ : ByteArray) = T := ⟨_, rfl⟩
      have hts : T.size ≤ 1 := by rw [← hT, size_mk]; simp
      rw [hS] at hih hsz HA
      rw [hT] at HA hcv
      clear HD hS hT ih
      go_enter Tryd.func40, Tryd.ntmps40
      go_wp2_with (go_at_call 40; refine hih.mono ?_; rintro e w2 ⟨rfl, b2⟩; have B2 : Hid (Below w.heap.size w w2) := HW.out.trans (b2.mono HW.out.size); clear b2)
      go_ret
      exact ⟨by rw [← HA.out]; rfl, B2.out⟩
theorem below_u (u : Nat) (hu : u ≤ 9223372036854775808) (w : World) :
    Calls Tryd.prog 40 #[.int .i64 (-(u : Int))] w fun e w' => e = .returned (.string ⟨(Lib.decDigits u).toArray⟩) ∧ Below w.heap.size w w' :=
  below_c 20 u w (Nat.lt_of_le_of_lt hu (by decide)) (by omega) hu (by omega)

/-- The digits of nanoseconds, till nothing is left. -/
def frac : Nat → Nat → List UInt8
  | 0, _ => []
  | k + 1, P => if P = 0 then [] else Lib.decDigits (P * 10 / 1000000000) ++ frac k (P * 10 % 1000000000)
theorem frac_zero (k : Nat) : frac k 0 = [] := by cases k <;> simp [frac]
/-- The reference's PutSeconds of u nanoseconds, without the sign. -/
def psU (u : Nat) : List UInt8 := Lib.decDigits (u / 1000000000) ++ (if u % 1000000000 = 0 then [] else 46 :: frac 9 (u % 1000000000))
def psR (t : Int) : List UInt8 := if t < 0 then 45 :: psU t.natAbs else psU t.natAbs
theorem dvd_next {g P : Nat} (hg : g ≤ 8) (h : 10 ^ (8 - g) ∣ P) : 10 ^ (9 - g) ∣ P * 10 % 1000000000 := by
  have h1 : 10 ^ (9 - g) ∣ P * 10 := by
    rw [show 9 - g = (8 - g) + 1 by omega, Nat.pow_succ]
    exact Nat.mul_dvd_mul h (Nat.dvd_refl _)
  have h2 : 10 ^ (9 - g) ∣ 1000000000 := ⟨10 ^ g, by rw [← Nat.pow_add, show 9 - g + g = 9 by omega]⟩
  exact (Nat.dvd_mod_iff h2).2 h1
theorem neg_tdiv (P : Nat) : (-(P : Int) * 10).tdiv 1000000000 = -((P * 10 / 1000000000 : Nat) : Int) := by
  rw [show -(P : Int) * 10 = -((P * 10 : Nat) : Int) by omega, Int.neg_tdiv, Int.ofNat_tdiv]
  rfl
theorem neg_tmod (P : Nat) : (-(P : Int) * 10).tmod 1000000000 = -((P * 10 % 1000000000 : Nat) : Int) := by
  rw [show -(P : Int) * 10 = -((P * 10 : Nat) : Int) by omega, Int.neg_tmod, Int.ofNat_tmod]
  rfl
theorem neg_ne_b {P : Nat} (h : ¬ P = 0) : ((-(P : Int)) == 0) = false := by
  have : ¬ (-(P : Int)) = 0 := by omega
  simpa using this
theorem neg_ne_t {P : Nat} (h : ¬ P = 0) : ((-(P : Int)) != 0) = true := by
  have : ¬ (-(P : Int)) = 0 := by omega
  simpa using this

set_option maxRecDepth 100000 in
theorem refPS_pos (u : Nat) (hu : u ≤ 9223372036854775807) (w : World) :
    Calls Tryd.prog 23 #[.int .i64 (u : Int)] w fun e w' => e = .returned (.string ⟨(([] : List UInt8) ++ psU u).toArray⟩) ∧ Below w.heap.size w w' := by
  have hB : ∀ W, Calls Tryd.prog 40 #[.int .i64 (-((u : Int) / 1000000000))] W fun e w' => e = .returned (.string ⟨(Lib.decDigits (u / 1000000000)).toArray⟩) ∧ Below W.heap.size W w' := fun W => below_u (u / 1000000000) (by omega) W
  have hl : (Lib.decDigits (u / 1000000000)).length ≤ 20 := dec_len 19 _ (Nat.lt_of_le_of_lt (Nat.div_le_self _ _) (Nat.lt_of_le_of_lt (show u ≤ 9223372036854775808 by omega) (by decide)))
  obtain ⟨A, hA⟩ : ∃ A, Lib.decDigits (u / 1000000000) = A := ⟨_, rfl⟩
  have e1 : psU u = A ++ (if u % 1000000000 = 0 then [] else 46 :: frac 9 (u % 1000000000)) := by unfold psU; rw [hA]
  rw [e1]
  rw [hA] at hB hl
  clear hA e1
  obtain ⟨P0, hP0⟩ : ∃ P, u % 1000000000 = P := ⟨_, rfl⟩
  have hPi : (u : Int) % 1000000000 = (P0 : Int) := by omega
  have hPlt : P0 < 1000000000 := by omega
  rw [hP0]
  clear hP0
  have hS1 : (⟨A.toArray⟩ : ByteArray).size ≤ 20 := by rw [size_mk]; exact hl
  have HS1 : Hid ((⟨([] : List UInt8).toArray⟩ : ByteArray) ++ ⟨A.toArray⟩ = ⟨(([] : List UInt8) ++ A).toArray⟩) := app_eq _ _
  obtain ⟨SA, hSA⟩ : ∃ S : ByteArray, (⟨A.toArray⟩ : ByteArray) = S := ⟨_, rfl⟩
  rw [hSA] at hS1 HS1 hB
  clear hSA
  obtain ⟨D, hD⟩ : ∃ D, ([] : List UInt8) ++ (A ++ if P0 = 0 then [] else 46 :: frac 9 P0) = D := ⟨_, rfl⟩
  rw [hD]
  by_cases hz : P0 = 0
  · have HE : Hid (D = ([] : List UInt8) ++ A) := by rw [← hD, if_pos hz]; simp [Hid]
    clear hD
    subst hz
    go_enter Tryd.func23, Tryd.ntmps23
    go_wp2_with (go_at_call 40; refine (hB _).mono ?_; rintro e w2 ⟨rfl, b2⟩; have B2 : Hid (Below w.heap.size w w2) := b2; clear b2)
    go_ret
    exact ⟨by rw [HE.out, ← HS1.out]; rfl, B2.out⟩
  · have hzb := neg_ne_b hz
    have HD : Hid ((([] : List UInt8) ++ A ++ [46]) ++ frac 9 P0 = D) := by rw [← hD, if_neg hz]; simp [Hid]
    have HS2 : Hid ((⟨(([] : List UInt8) ++ A).toArray⟩ : ByteArray) ++ ⟨[46].toArray⟩ = ⟨(([] : List UInt8) ++ A ++ [46]).toArray⟩) := app_eq _ _
    rw [← HS1.out] at HS2
    have HL : Hid ((([] : List UInt8) ++ A ++ [46]).length ≤ 30) := by simp [Hid]; omega
    have hPi2 : -(u : Int) % 1000000000 = -(u : Int) % 1000000000 := rfl
    clear hD HS1 hPi2
    go_enter Tryd.func23, Tryd.ntmps23
    go_wp2_with (go_at_call 40; refine (hB _).mono ?_; rintro e w2 ⟨rfl, b2⟩; have B2 : Hid (Below w.heap.size w w2) := b2; clear b2)
    clear hB hS1 hzb
    go_loopg [3, 4] 9 (fun g s x wx => ∃ (S : ByteArray) (L : List UInt8) (P : Nat), s = .string S ∧ x = .int .i64 (-(P : Int)) ∧ g ≤ 9 ∧ P < 1000000000 ∧ S.size ≤ 60 - g ∧ Hid (10 ^ (9 - g) ∣ P) ∧ Hid (S = ⟨L.toArray⟩ ∧ L ++ frac g P = D) ∧ Hid (Below w.heap.size w wx))
    case atStart => exact ⟨_, ([] : List UInt8) ++ A ++ [46], P0, rfl, by rw [hPi], by omega, hPlt, Nat.le_trans (Nat.le_of_eq ((congrArg ByteArray.size HS2.out).trans (size_mk _))) (Nat.le_trans HL.out (by omega)), ⟨P0, by simp⟩, ⟨HS2.out, HD.out⟩, B2⟩
    case round =>
      clear B2 HD HS2 HL hPi hPlt hz
      obtain ⟨S, L, P, rfl, rfl, hg, hP, hsz, hdv, hI, hbw⟩ := hrel
      by_cases hPz : P = 0
      · subst hPz
        have HE : Hid (S = ⟨D.toArray⟩) := by
          rw [hI.out.1, ← hI.out.2, frac_zero, List.append_nil]; exact rfl
        clear hI hdv
        go_wp2_with fail
        go_ret
        exact ⟨by rw [← HE.out]; rfl, hbw.out⟩
      · cases gk with
        | zero =>
          exact absurd (Nat.eq_zero_of_dvd_of_lt hdv.out (by exact hP)) hPz
        | succ g =>
          have hzt := neg_ne_t hPz
          have hB : ∀ W, Calls Tryd.prog 40 #[.int .i64 ((-(P : Int) * 10).tdiv 1000000000)] W fun e w' => e = .returned (.string ⟨(Lib.decDigits (P * 10 / 1000000000)).toArray⟩) ∧ Below W.heap.size W w' := fun W => by rw [neg_tdiv]; exact below_u (P * 10 / 1000000000) (by omega) W
          have hl : (⟨(Lib.decDigits (P * 10 / 1000000000)).toArray⟩ : ByteArray).size = 1 := by rw [size_mk, dec_small (by omega)]; rfl
          have hl1 : (⟨(Lib.decDigits (P * 10 / 1000000000)).toArray⟩ : ByteArray).size ≤ 1 := by omega
          have HI2 : Hid (S ++ ⟨(Lib.decDigits (P * 10 / 1000000000)).toArray⟩ = ⟨(L ++ Lib.decDigits (P * 10 / 1000000000)).toArray⟩ ∧ (L ++ Lib.decDigits (P * 10 / 1000000000)) ++ frac g (P * 10 % 1000000000) = D) := by
            refine ⟨by rw [hI.out.1]; exact app_eq _ _, ?_⟩
            rw [← hI.out.2, List.append_assoc]
            simp only [frac]
            rw [if_neg hPz]
          have HDV : Hid (10 ^ (9 - g) ∣ P * 10 % 1000000000) := dvd_next (by omega) (by have := hdv.out; rw [show 9 - (g + 1) = 8 - g by omega] at this; exact this)
          obtain ⟨U, hU⟩ : ∃ U : ByteArray, (⟨(Lib.decDigits (P * 10 / 1000000000)).toArray⟩ : ByteArray) = U := ⟨_, rfl⟩
          rw [hU] at hB hl1 HI2
          have HSZ : Hid ((S ++ U).size ≤ 60 - g) := by
            show (S ++ U).size ≤ _
            rw [ByteArray.size_append]; omega
          clear hI hdv hl hU
          go_wp2_with (go_at_call 40; go_fit (hB _); rintro e w3 ⟨rfl, b3⟩; have B3 : Hid (Below w.heap.size w w3) := hbw.out.trans (b3.mono hbw.out.size); clear b3)
          go_roundg g
          case measure => omega
          case rel => exact ⟨S ++ U, L ++ Lib.decDigits (P * 10 / 1000000000), P * 10 % 1000000000, rfl, congrArg (Value.int .i64) (neg_tmod P), by omega, by omega, HSZ.out, HDV, HI2, B3⟩

set_option maxRecDepth 100000 in
theorem refPS_neg (u : Nat) (hu : 1 ≤ u ∧ u ≤ 9223372036854775808) (w : World) :
    Calls Tryd.prog 23 #[.int .i64 (-(u : Int))] w fun e w' => e = .returned (.string ⟨(([45] : List UInt8) ++ psU u).toArray⟩) ∧ Below w.heap.size w w' := by
  have hB : ∀ W, Calls Tryd.prog 40 #[.int .i64 (-((u : Int) / 1000000000))] W fun e w' => e = .returned (.string ⟨(Lib.decDigits (u / 1000000000)).toArray⟩) ∧ Below W.heap.size W w' := fun W => below_u (u / 1000000000) (by omega) W
  have hl : (Lib.decDigits (u / 1000000000)).length ≤ 20 := dec_len 19 _ (Nat.lt_of_le_of_lt (Nat.div_le_self _ _) (Nat.lt_of_le_of_lt (show u ≤ 9223372036854775808 by omega) (by decide)))
  obtain ⟨A, hA⟩ : ∃ A, Lib.decDigits (u / 1000000000) = A := ⟨_, rfl⟩
  have e1 : psU u = A ++ (if u % 1000000000 = 0 then [] else 46 :: frac 9 (u % 1000000000)) := by unfold psU; rw [hA]
  rw [e1]
  rw [hA] at hB hl
  clear hA e1
  obtain ⟨P0, hP0⟩ : ∃ P, u % 1000000000 = P := ⟨_, rfl⟩
  have hPi : (u : Int) % 1000000000 = (P0 : Int) := by omega
  have hPlt : P0 < 1000000000 := by omega
  rw [hP0]
  clear hP0
  have hS1 : (⟨A.toArray⟩ : ByteArray).size ≤ 20 := by rw [size_mk]; exact hl
  have HS1 : Hid ((⟨([45] : List UInt8).toArray⟩ : ByteArray) ++ ⟨A.toArray⟩ = ⟨(([45] : List UInt8) ++ A).toArray⟩) := app_eq _ _
  obtain ⟨SA, hSA⟩ : ∃ S : ByteArray, (⟨A.toArray⟩ : ByteArray) = S := ⟨_, rfl⟩
  rw [hSA] at hS1 HS1 hB
  clear hSA
  obtain ⟨D, hD⟩ : ∃ D, ([45] : List UInt8) ++ (A ++ if P0 = 0 then [] else 46 :: frac 9 P0) = D := ⟨_, rfl⟩
  rw [hD]
  by_cases hz : P0 = 0
  · have HE : Hid (D = ([45] : List UInt8) ++ A) := by rw [← hD, if_pos hz]; simp [Hid]
    clear hD
    subst hz
    go_enter Tryd.func23, Tryd.ntmps23
    go_wp2_with (go_at_call 40; refine (hB _).mono ?_; rintro e w2 ⟨rfl, b2⟩; have B2 : Hid (Below w.heap.size w w2) := b2; clear b2)
    go_ret
    exact ⟨by rw [HE.out, ← HS1.out]; rfl, B2.out⟩
  · have hzb := neg_ne_b hz
    have HD : Hid ((([45] : List UInt8) ++ A ++ [46]) ++ frac 9 P0 = D) := by rw [← hD, if_neg hz]; simp [Hid]
    have HS2 : Hid ((⟨(([45] : List UInt8) ++ A).toArray⟩ : ByteArray) ++ ⟨[46].toArray⟩ = ⟨(([45] : List UInt8) ++ A ++ [46]).toArray⟩) := app_eq _ _
    rw [← HS1.out] at HS2
    have HL : Hid ((([45] : List UInt8) ++ A ++ [46]).length ≤ 30) := by simp [Hid]; omega
    have hPi2 : -(u : Int) % 1000000000 = -(u : Int) % 1000000000 := rfl
    clear hD HS1 hPi2
    go_enter Tryd.func23, Tryd.ntmps23
    go_wp2_with (go_at_call 40; refine (hB _).mono ?_; rintro e w2 ⟨rfl, b2⟩; have B2 : Hid (Below w.heap.size w w2) := b2; clear b2)
    clear hB hS1 hzb
    go_loopg [3, 4] 9 (fun g s x wx => ∃ (S : ByteArray) (L : List UInt8) (P : Nat), s = .string S ∧ x = .int .i64 (-(P : Int)) ∧ g ≤ 9 ∧ P < 1000000000 ∧ S.size ≤ 60 - g ∧ Hid (10 ^ (9 - g) ∣ P) ∧ Hid (S = ⟨L.toArray⟩ ∧ L ++ frac g P = D) ∧ Hid (Below w.heap.size w wx))
    case atStart => exact ⟨_, ([45] : List UInt8) ++ A ++ [46], P0, rfl, by rw [hPi], by omega, hPlt, Nat.le_trans (Nat.le_of_eq ((congrArg ByteArray.size HS2.out).trans (size_mk _))) (Nat.le_trans HL.out (by omega)), ⟨P0, by simp⟩, ⟨HS2.out, HD.out⟩, B2⟩
    case round =>
      clear B2 HD HS2 HL hPi hPlt hz
      obtain ⟨S, L, P, rfl, rfl, hg, hP, hsz, hdv, hI, hbw⟩ := hrel
      by_cases hPz : P = 0
      · subst hPz
        have HE : Hid (S = ⟨D.toArray⟩) := by
          rw [hI.out.1, ← hI.out.2, frac_zero, List.append_nil]; exact rfl
        clear hI hdv
        go_wp2_with fail
        go_ret
        exact ⟨by rw [← HE.out]; rfl, hbw.out⟩
      · cases gk with
        | zero =>
          exact absurd (Nat.eq_zero_of_dvd_of_lt hdv.out (by exact hP)) hPz
        | succ g =>
          have hzt := neg_ne_t hPz
          have hB : ∀ W, Calls Tryd.prog 40 #[.int .i64 ((-(P : Int) * 10).tdiv 1000000000)] W fun e w' => e = .returned (.string ⟨(Lib.decDigits (P * 10 / 1000000000)).toArray⟩) ∧ Below W.heap.size W w' := fun W => by rw [neg_tdiv]; exact below_u (P * 10 / 1000000000) (by omega) W
          have hl : (⟨(Lib.decDigits (P * 10 / 1000000000)).toArray⟩ : ByteArray).size = 1 := by rw [size_mk, dec_small (by omega)]; rfl
          have hl1 : (⟨(Lib.decDigits (P * 10 / 1000000000)).toArray⟩ : ByteArray).size ≤ 1 := by omega
          have HI2 : Hid (S ++ ⟨(Lib.decDigits (P * 10 / 1000000000)).toArray⟩ = ⟨(L ++ Lib.decDigits (P * 10 / 1000000000)).toArray⟩ ∧ (L ++ Lib.decDigits (P * 10 / 1000000000)) ++ frac g (P * 10 % 1000000000) = D) := by
            refine ⟨by rw [hI.out.1]; exact app_eq _ _, ?_⟩
            rw [← hI.out.2, List.append_assoc]
            simp only [frac]
            rw [if_neg hPz]
          have HDV : Hid (10 ^ (9 - g) ∣ P * 10 % 1000000000) := dvd_next (by omega) (by have := hdv.out; rw [show 9 - (g + 1) = 8 - g by omega] at this; exact this)
          obtain ⟨U, hU⟩ : ∃ U : ByteArray, (⟨(Lib.decDigits (P * 10 / 1000000000)).toArray⟩ : ByteArray) = U := ⟨_, rfl⟩
          rw [hU] at hB hl1 HI2
          have HSZ : Hid ((S ++ U).size ≤ 60 - g) := by
            show (S ++ U).size ≤ _
            rw [ByteArray.size_append]; omega
          clear hI hdv hl hU
          go_wp2_with (go_at_call 40; go_fit (hB _); rintro e w3 ⟨rfl, b3⟩; have B3 : Hid (Below w.heap.size w w3) := hbw.out.trans (b3.mono hbw.out.size); clear b3)
          go_roundg g
          case measure => omega
          case rel => exact ⟨S ++ U, L ++ Lib.decDigits (P * 10 / 1000000000), P * 10 % 1000000000, rfl, congrArg (Value.int .i64) (neg_tmod P), by omega, by omega, HSZ.out, HDV, HI2, B3⟩

theorem refPS_c (t : Int) (ht : -9223372036854775808 ≤ t ∧ t ≤ 9223372036854775807) (w : World) :
    Calls Tryd.prog 23 #[.int .i64 t] w fun e w' => e = .returned (.string ⟨(psR t).toArray⟩) ∧ Below w.heap.size w w' := by
  unfold psR
  by_cases h : t < 0
  · rw [if_pos h]
    obtain ⟨u, rfl⟩ : ∃ u : Nat, t = -(u : Int) := ⟨t.natAbs, by omega⟩
    rw [Int.natAbs_neg, Int.natAbs_natCast]
    exact refPS_neg u (by omega) w
  · rw [if_neg h]
    obtain ⟨u, rfl⟩ : ∃ u : Nat, t = (u : Int) := ⟨t.natAbs, by omega⟩
    rw [Int.natAbs_natCast]
    exact refPS_pos u (by omega) w
end Go.Proofs.YtodkpmnkdplpiaaDoor
