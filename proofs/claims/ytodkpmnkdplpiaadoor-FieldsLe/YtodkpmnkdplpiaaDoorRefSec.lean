/- PROVED: the contract of the reference's Seconds. -/
import Derived.Test.YtodkpmnkdplpiaaDoorRefDec
import Derived.Test.YtodkpmnkdplpiaaDoorPure2
namespace Go.Proofs.YtodkpmnkdplpiaaDoor
open Go Go.RowKit
set_option linter.unusedVariables false

theorem rn_take (l : List UInt8) : ∀ c ∈ l.take (rn l), isD c = true := by
  induction l with
  | nil => simp
  | cons c r ih =>
    by_cases hc : isD c = true
    · rw [rn_cons_yes hc, List.take_succ_cons]
      intro d hd
      rcases List.mem_cons.1 hd with rfl | hd
      · exact hc
      · exact ih d hd
    · rw [rn_cons_no (by simpa using hc)]
      simp
theorem ansS_neg (n : Nat) : ansS true (some (some n)) = (-(n : Int), 0) := rfl
theorem ansS_pos (n : Nat) : ansS false (some (some n)) = ((n : Int), 0) := rfl
theorem ne_zero_b {n : Nat} (h : n ≠ 0) : ((n : Int) == 0) = false := by
  have : ¬ (n : Int) = 0 := by omega
  simpa using this

set_option maxRecDepth 100000 in
theorem refSec_plain_zero (s : ByteArray) (hs : s.size ≤ 9223372036854775807) (hp : 0 < s.size) (c0 : UInt8) (hc : s[0]'hp = c0) (hg : s[0]! = c0) (hc45 : ((c0.toNat : Int) == 45) = false) (D : Int × Int) (hR : ∀ w, Calls Tryd.prog 35 #[.string s] w fun e w' => e = .returned (.int .i64 0) ∧ w' = w) (hD : (0, 30) = D) (w : World) :
    Calls Tryd.prog 21 #[.string s] w fun e w' => e = .returned (.tuple #[.int .i64 D.1, .int .i64 D.2]) ∧ w' = w := by
  have HD : Hid ((0, 30) = D) := hD
  clear hD
  go_enter Tryd.func21, Tryd.ntmps21
  go_wp2_with (go_at_call 35; refine (hR _).mono ?_; rintro e w2 ⟨rfl, rfl⟩)
  go_ret2
  rw [← HD.out]
  exact ⟨rfl, rfl⟩

set_option maxRecDepth 100000 in
theorem refSec_plain_sign (s : ByteArray) (hs : s.size ≤ 9223372036854775807) (hp : 0 < s.size) (c0 : UInt8) (hc : s[0]'hp = c0) (hg : s[0]! = c0) (hc45 : ((c0.toNat : Int) == 45) = false) (D : Int × Int) (n : Nat) (hR : ∀ w, Calls Tryd.prog 35 #[.string s] w fun e w' => e = .returned (.int .i64 (n : Int)) ∧ w' = w) (hle : n ≤ s.size) (hn0b : ((n : Int) == 0) = false) (hlt : n < s.size) (c : UInt8) (hcn : s[n]'hlt = c) (hgn : s[n]! = c) (p : ByteArray) (hpe : s.extract (n + 1) s.size = p) (hpb : p.size ≤ 9223372036854775807) (hc46b : ((c.toNat : Int) != 46) = true) (hD : (0, 30) = D) (w : World) :
    Calls Tryd.prog 21 #[.string s] w fun e w' => e = .returned (.tuple #[.int .i64 D.1, .int .i64 D.2]) ∧ w' = w := by
  have HD : Hid ((0, 30) = D) := hD
  clear hD
  go_enter Tryd.func21, Tryd.ntmps21
  go_wp2_with (go_at_call 35; refine (hR _).mono ?_; rintro e w2 ⟨rfl, rfl⟩)
  go_ret2
  rw [← HD.out]
  exact ⟨rfl, rfl⟩

set_option maxRecDepth 100000 in
theorem refSec_plain_bare (s : ByteArray) (hs : s.size ≤ 9223372036854775807) (hp : 0 < s.size) (c0 : UInt8) (hc : s[0]'hp = c0) (hg : s[0]! = c0) (hc45 : ((c0.toNat : Int) == 45) = false) (D : Int × Int) (n : Nat) (hR : ∀ w, Calls Tryd.prog 35 #[.string s] w fun e w' => e = .returned (.int .i64 (n : Int)) ∧ w' = w) (hle : n ≤ s.size) (hn0b : ((n : Int) == 0) = false) (hlt : n < s.size) (c : UInt8) (hcn : s[n]'hlt = c) (hgn : s[n]! = c) (p : ByteArray) (hpe : s.extract (n + 1) s.size = p) (hpb : p.size ≤ 9223372036854775807) (hc46b : ((c.toNat : Int) != 46) = false) (hp0 : p.size = 0) (hD : (0, 30) = D) (w : World) :
    Calls Tryd.prog 21 #[.string s] w fun e w' => e = .returned (.tuple #[.int .i64 D.1, .int .i64 D.2]) ∧ w' = w := by
  have HD : Hid ((0, 30) = D) := hD
  clear hD
  go_enter Tryd.func21, Tryd.ntmps21
  go_wp2_with (go_at_call 35; refine (hR _).mono ?_; rintro e w2 ⟨rfl, rfl⟩)
  go_ret2
  rw [← HD.out]
  exact ⟨rfl, rfl⟩

set_option maxRecDepth 100000 in
theorem refSec_plain_odd (s : ByteArray) (hs : s.size ≤ 9223372036854775807) (hp : 0 < s.size) (c0 : UInt8) (hc : s[0]'hp = c0) (hg : s[0]! = c0) (hc45 : ((c0.toNat : Int) == 45) = false) (D : Int × Int) (n : Nat) (hR : ∀ w, Calls Tryd.prog 35 #[.string s] w fun e w' => e = .returned (.int .i64 (n : Int)) ∧ w' = w) (hle : n ≤ s.size) (hn0b : ((n : Int) == 0) = false) (hlt : n < s.size) (c : UInt8) (hcn : s[n]'hlt = c) (hgn : s[n]! = c) (p : ByteArray) (hpe : s.extract (n + 1) s.size = p) (hpb : p.size ≤ 9223372036854775807) (hc46b : ((c.toNat : Int) != 46) = false) (hp0 : 0 < p.size) (hp0b : ((p.size : Int) == 0) = false) (np : Nat) (hRp : ∀ w, Calls Tryd.prog 35 #[.string p] w fun e w' => e = .returned (.int .i64 (np : Int)) ∧ w' = w) (hlp : np ≤ p.size) (hrp : np < p.size) (hD : (0, 30) = D) (w : World) :
    Calls Tryd.prog 21 #[.string s] w fun e w' => e = .returned (.tuple #[.int .i64 D.1, .int .i64 D.2]) ∧ w' = w := by
  have HD : Hid ((0, 30) = D) := hD
  clear hD
  go_enter Tryd.func21, Tryd.ntmps21
  go_wp2_with (go_at_call 35; first | (go_fit (hR _); rintro e w2 ⟨rfl, rfl⟩) | (go_fit (hRp _); rintro e w2 ⟨rfl, rfl⟩))
  go_ret2
  rw [← HD.out]
  exact ⟨rfl, rfl⟩

set_option maxRecDepth 100000 in
theorem refSec_plain_Pnone (s : ByteArray) (hs : s.size ≤ 9223372036854775807) (hp : 0 < s.size) (c0 : UInt8) (hc : s[0]'hp = c0) (hg : s[0]! = c0) (hc45 : ((c0.toNat : Int) == 45) = false) (D : Int × Int) (n : Nat) (hR : ∀ w, Calls Tryd.prog 35 #[.string s] w fun e w' => e = .returned (.int .i64 (n : Int)) ∧ w' = w) (hle : n ≤ s.size) (hn0b : ((n : Int) == 0) = false) (hlt : n < s.size) (c : UInt8) (hcn : s[n]'hlt = c) (hgn : s[n]! = c) (p : ByteArray) (hpe : s.extract (n + 1) s.size = p) (hpb : p.size ≤ 9223372036854775807) (hc46b : ((c.toNat : Int) != 46) = false) (hp0 : 0 < p.size) (hp0b : ((p.size : Int) == 0) = false) (np : Nat) (hRp : ∀ w, Calls Tryd.prog 35 #[.string p] w fun e w' => e = .returned (.int .i64 (np : Int)) ∧ w' = w) (hlp : np ≤ p.size) (hrp : ¬ np < p.size) (hN : ∀ w, Calls Tryd.prog 36 #[.string (s.extract 0 n)] w fun e w' => e = .returned (.int .i64 (-1)) ∧ w' = w) (hD : (0, 31) = D) (w : World) :
    Calls Tryd.prog 21 #[.string s] w fun e w' => e = .returned (.tuple #[.int .i64 D.1, .int .i64 D.2]) ∧ w' = w := by
  have HD : Hid ((0, 31) = D) := hD
  clear hD
  go_enter Tryd.func21, Tryd.ntmps21
  go_wp2_with (first
    | (go_at_call 35; first | (go_fit (hR _); rintro e w2 ⟨rfl, rfl⟩) | (go_fit (hRp _); rintro e w2 ⟨rfl, rfl⟩))
    | (go_at_call 36; refine (hN _).mono ?_; rintro e w2 ⟨rfl, rfl⟩))
  go_ret2
  rw [← HD.out]
  exact ⟨rfl, rfl⟩

set_option maxRecDepth 100000 in
theorem refSec_plain_Pover (s : ByteArray) (hs : s.size ≤ 9223372036854775807) (hp : 0 < s.size) (c0 : UInt8) (hc : s[0]'hp = c0) (hg : s[0]! = c0) (hc45 : ((c0.toNat : Int) == 45) = false) (D : Int × Int) (n : Nat) (hR : ∀ w, Calls Tryd.prog 35 #[.string s] w fun e w' => e = .returned (.int .i64 (n : Int)) ∧ w' = w) (hle : n ≤ s.size) (hn0b : ((n : Int) == 0) = false) (hlt : n < s.size) (c : UInt8) (hcn : s[n]'hlt = c) (hgn : s[n]! = c) (p : ByteArray) (hpe : s.extract (n + 1) s.size = p) (hpb : p.size ≤ 9223372036854775807) (hc46b : ((c.toNat : Int) != 46) = false) (hp0 : 0 < p.size) (hp0b : ((p.size : Int) == 0) = false) (np : Nat) (hRp : ∀ w, Calls Tryd.prog 35 #[.string p] w fun e w' => e = .returned (.int .i64 (np : Int)) ∧ w' = w) (hlp : np ≤ p.size) (hrp : ¬ np < p.size) (v : Nat) (hv : v ≤ 4611686018427387904) (hov : 9000000000 < v) (hN : ∀ w, Calls Tryd.prog 36 #[.string (s.extract 0 n)] w fun e w' => e = .returned (.int .i64 (v : Int)) ∧ w' = w) (hD : (0, 31) = D) (w : World) :
    Calls Tryd.prog 21 #[.string s] w fun e w' => e = .returned (.tuple #[.int .i64 D.1, .int .i64 D.2]) ∧ w' = w := by
  have HD : Hid ((0, 31) = D) := hD
  clear hD
  go_enter Tryd.func21, Tryd.ntmps21
  go_wp2_with (first
    | (go_at_call 35; first | (go_fit (hR _); rintro e w2 ⟨rfl, rfl⟩) | (go_fit (hRp _); rintro e w2 ⟨rfl, rfl⟩))
    | (go_at_call 36; refine (hN _).mono ?_; rintro e w2 ⟨rfl, rfl⟩))
  go_ret2
  rw [← HD.out]
  exact ⟨rfl, rfl⟩

set_option maxRecDepth 100000 in
theorem refSec_plain_Pfine (s : ByteArray) (hs : s.size ≤ 9223372036854775807) (hp : 0 < s.size) (c0 : UInt8) (hc : s[0]'hp = c0) (hg : s[0]! = c0) (hc45 : ((c0.toNat : Int) == 45) = false) (D : Int × Int) (n : Nat) (hR : ∀ w, Calls Tryd.prog 35 #[.string s] w fun e w' => e = .returned (.int .i64 (n : Int)) ∧ w' = w) (hle : n ≤ s.size) (hn0b : ((n : Int) == 0) = false) (hlt : n < s.size) (c : UInt8) (hcn : s[n]'hlt = c) (hgn : s[n]! = c) (p : ByteArray) (hpe : s.extract (n + 1) s.size = p) (hpb : p.size ≤ 9223372036854775807) (hc46b : ((c.toNat : Int) != 46) = false) (hp0 : 0 < p.size) (hp0b : ((p.size : Int) == 0) = false) (np : Nat) (hRp : ∀ w, Calls Tryd.prog 35 #[.string p] w fun e w' => e = .returned (.int .i64 (np : Int)) ∧ w' = w) (hlp : np ≤ p.size) (hrp : ¬ np < p.size) (hA : ∀ c ∈ p.data.toList, isD c = true) (v : Nat) (hov : ¬ 9000000000 < v) (hN : ∀ w, Calls Tryd.prog 36 #[.string (s.extract 0 n)] w fun e w' => e = .returned (.int .i64 (v : Int)) ∧ w' = w) (hD : ((((v * 1000000000 + nanA 9 p.data.toList 0 : Nat)) : Int), 0) = D) (w : World) :
    Calls Tryd.prog 21 #[.string s] w fun e w' => e = .returned (.tuple #[.int .i64 D.1, .int .i64 D.2]) ∧ w' = w := by
  have HD : Hid (((((v * 1000000000 + nanA 9 p.data.toList 0 : Nat)) : Int), 0) = D) := hD
  clear hD
  have HA : Hid (∀ c ∈ p.data.toList, isD c = true) := hA
  clear hA
  obtain ⟨M, hM⟩ : ∃ M, nanA 9 p.data.toList 0 = M := ⟨_, rfl⟩
  rw [hM] at HD
  have HM : Hid (nanA 9 p.data.toList 0 = M) := hM
  clear hM
  go_enter Tryd.func21, Tryd.ntmps21
  go_wp2_with (first
    | (go_at_call 35; first | (go_fit (hR _); rintro e w2 ⟨rfl, rfl⟩) | (go_fit (hRp _); rintro e w2 ⟨rfl, rfl⟩))
    | (go_at_call 36; refine (hN _).mono ?_; rintro e w2 ⟨rfl, rfl⟩))
  clear hN hR hRp
  go_loop [8, 9] (fun x y => ∃ i a : Nat, x = .int .i64 (a : Int) ∧ y = .int .i64 (i : Int) ∧ i ≤ 9 ∧ a < 10 ^ i ∧ Hid (nanA (9 - i) (p.data.toList.drop i) a = M)) (fun _ y => 9 - (intOf y).toNat)
  case atStart => exact ⟨0, 0, rfl, rfl, by omega, by decide, HM.out⟩
  case round =>
    clear HM
    obtain ⟨i, a, rfl, rfl, hi, ha, hI⟩ := hrel
    by_cases h9 : i < 9
    · have hpw : (10 : Nat) ^ i ≤ 10 ^ 8 := Nat.pow_le_pow_right (by decide) (by omega)
      have e8 : (10 : Nat) ^ 8 = 100000000 := by decide
      have HPW : Hid ((10 : Nat) ^ (i + 1) = 10 ^ i * 10) := Nat.pow_succ _ _
      rw [e8] at hpw
      obtain ⟨Q, hQ⟩ : ∃ Q, (10 : Nat) ^ i = Q := ⟨_, rfl⟩
      rw [hQ] at hpw HPW ha
      clear hQ e8
      have hI2 := hI.out
      rw [show 9 - i = (9 - (i + 1)) + 1 by omega] at hI2
      by_cases hip : i < p.size
      · rw [drop_at p i hip] at hI2
        have hm : isD (p[i]'hip) = true := HA.out _ (by
          have := List.mem_of_mem_drop (i := i) (l := p.data.toList) (a := p[i]'hip) (by rw [drop_at p i hip]; exact List.mem_cons_self)
          exact this)
        obtain ⟨d, hd⟩ : ∃ d, p[i]'hip = d := ⟨_, rfl⟩
        rw [hd] at hI2 hm
        have hgd : p[i]! = d := by rw [getElem!_pos p i hip, hd]
        have hd1 := isD_of hm
        have HI2 : Hid (nanA (9 - (i + 1)) (p.data.toList.drop (i + 1)) (a * 10 + (d.toNat - 48)) = M) := hI2
        obtain ⟨k, hk⟩ : ∃ k, d.toNat = k + 48 := ⟨d.toNat - 48, by omega⟩
        rw [hk, Nat.add_sub_cancel] at HI2
        rw [hk] at hd1
        have hk48 : (a : Int) * 10 + ((k : Int) + 48) - 48 = ((a * 10 + k : Nat) : Int) := by omega
        have hdk : ((d.toNat : Nat) : Int) = (k : Int) + 48 := by omega
        clear hI2 hI hm hk
        go_wp2_with fail
        go_round
        case rel => exact ⟨i + 1, a * 10 + k, by rfl, rfl, by omega, by rw [HPW.out]; omega, HI2⟩
        case measure => simp [intOf]; omega
      · rw [drop_end p i hip] at hI2
        have HI2 : Hid (nanA (9 - (i + 1)) (p.data.toList.drop (i + 1)) (a * 10) = M) := by
          rw [List.drop_of_length_le (by rw [len_eq]; omega)]; exact hI2
        clear hI2 hI
        go_wp2_with fail
        go_round
        case rel => exact ⟨i + 1, a * 10, by rfl, rfl, by omega, by rw [HPW.out]; omega, HI2⟩
        case measure => simp [intOf]; omega
    · have HM2 : Hid (a = M) := by
        have := hI.out
        rw [show 9 - i = 0 by omega] at this
        exact this
      have ha2 : a < 1000000000 := by
        have : (10 : Nat) ^ i = 1000000000 := by rw [show i = 9 by omega]
        omega
      clear hI ha
      go_wp2_with fail
      go_ret2
      rw [← HD.out, ← HM2.out]
      exact ⟨rfl, rfl⟩

set_option maxRecDepth 100000 in
theorem refSec_plain_Nnone (s : ByteArray) (hs : s.size ≤ 9223372036854775807) (hp : 0 < s.size) (c0 : UInt8) (hc : s[0]'hp = c0) (hg : s[0]! = c0) (hc45 : ((c0.toNat : Int) == 45) = false) (D : Int × Int) (n : Nat) (hR : ∀ w, Calls Tryd.prog 35 #[.string s] w fun e w' => e = .returned (.int .i64 (n : Int)) ∧ w' = w) (hle : n ≤ s.size) (hn0b : ((n : Int) == 0) = false) (hlt : ¬ n < s.size) (hN : ∀ w, Calls Tryd.prog 36 #[.string (s.extract 0 n)] w fun e w' => e = .returned (.int .i64 (-1)) ∧ w' = w) (hD : (0, 31) = D) (w : World) :
    Calls Tryd.prog 21 #[.string s] w fun e w' => e = .returned (.tuple #[.int .i64 D.1, .int .i64 D.2]) ∧ w' = w := by
  have HD : Hid ((0, 31) = D) := hD
  clear hD
  go_enter Tryd.func21, Tryd.ntmps21
  go_wp2_with (first
    | (go_at_call 35; refine (hR _).mono ?_; rintro e w2 ⟨rfl, rfl⟩)
    | (go_at_call 36; refine (hN _).mono ?_; rintro e w2 ⟨rfl, rfl⟩))
  go_ret2
  rw [← HD.out]
  exact ⟨rfl, rfl⟩

set_option maxRecDepth 100000 in
theorem refSec_plain_Nover (s : ByteArray) (hs : s.size ≤ 9223372036854775807) (hp : 0 < s.size) (c0 : UInt8) (hc : s[0]'hp = c0) (hg : s[0]! = c0) (hc45 : ((c0.toNat : Int) == 45) = false) (D : Int × Int) (n : Nat) (hR : ∀ w, Calls Tryd.prog 35 #[.string s] w fun e w' => e = .returned (.int .i64 (n : Int)) ∧ w' = w) (hle : n ≤ s.size) (hn0b : ((n : Int) == 0) = false) (hlt : ¬ n < s.size) (v : Nat) (hv : v ≤ 4611686018427387904) (hov : 9000000000 < v) (hN : ∀ w, Calls Tryd.prog 36 #[.string (s.extract 0 n)] w fun e w' => e = .returned (.int .i64 (v : Int)) ∧ w' = w) (hD : (0, 31) = D) (w : World) :
    Calls Tryd.prog 21 #[.string s] w fun e w' => e = .returned (.tuple #[.int .i64 D.1, .int .i64 D.2]) ∧ w' = w := by
  have HD : Hid ((0, 31) = D) := hD
  clear hD
  go_enter Tryd.func21, Tryd.ntmps21
  go_wp2_with (first
    | (go_at_call 35; refine (hR _).mono ?_; rintro e w2 ⟨rfl, rfl⟩)
    | (go_at_call 36; refine (hN _).mono ?_; rintro e w2 ⟨rfl, rfl⟩))
  go_ret2
  rw [← HD.out]
  exact ⟨rfl, rfl⟩

set_option maxRecDepth 100000 in
theorem refSec_plain_Nfine (s : ByteArray) (hs : s.size ≤ 9223372036854775807) (hp : 0 < s.size) (c0 : UInt8) (hc : s[0]'hp = c0) (hg : s[0]! = c0) (hc45 : ((c0.toNat : Int) == 45) = false) (D : Int × Int) (n : Nat) (hR : ∀ w, Calls Tryd.prog 35 #[.string s] w fun e w' => e = .returned (.int .i64 (n : Int)) ∧ w' = w) (hle : n ≤ s.size) (hn0b : ((n : Int) == 0) = false) (hlt : ¬ n < s.size) (v : Nat) (hov : ¬ 9000000000 < v) (hN : ∀ w, Calls Tryd.prog 36 #[.string (s.extract 0 n)] w fun e w' => e = .returned (.int .i64 (v : Int)) ∧ w' = w) (hD : ((((v * 1000000000 + nanA 9 ([] : List UInt8) 0 : Nat)) : Int), 0) = D) (w : World) :
    Calls Tryd.prog 21 #[.string s] w fun e w' => e = .returned (.tuple #[.int .i64 D.1, .int .i64 D.2]) ∧ w' = w := by
  have HD : Hid (((((v * 1000000000 + nanA 9 ([] : List UInt8) 0 : Nat)) : Int), 0) = D) := hD
  clear hD
  obtain ⟨M, hM⟩ : ∃ M, nanA 9 ([] : List UInt8) 0 = M := ⟨_, rfl⟩
  rw [hM] at HD
  have HM : Hid (nanA 9 ([] : List UInt8) 0 = M) := hM
  clear hM
  go_enter Tryd.func21, Tryd.ntmps21
  go_wp2_with (first
    | (go_at_call 35; refine (hR _).mono ?_; rintro e w2 ⟨rfl, rfl⟩)
    | (go_at_call 36; refine (hN _).mono ?_; rintro e w2 ⟨rfl, rfl⟩))
  clear hN hR
  go_loop [8, 9] (fun x y => ∃ i a : Nat, x = .int .i64 (a : Int) ∧ y = .int .i64 (i : Int) ∧ i ≤ 9 ∧ a < 10 ^ i ∧ Hid (nanA (9 - i) (([] : List UInt8).drop i) a = M)) (fun _ y => 9 - (intOf y).toNat)
  case atStart => exact ⟨0, 0, rfl, rfl, by omega, by decide, HM.out⟩
  case round =>
    clear HM
    obtain ⟨i, a, rfl, rfl, hi, ha, hI⟩ := hrel
    by_cases h9 : i < 9
    · have hpw : (10 : Nat) ^ i ≤ 10 ^ 8 := Nat.pow_le_pow_right (by decide) (by omega)
      have e8 : (10 : Nat) ^ 8 = 100000000 := by decide
      have HPW : Hid ((10 : Nat) ^ (i + 1) = 10 ^ i * 10) := Nat.pow_succ _ _
      rw [e8] at hpw
      obtain ⟨Q, hQ⟩ : ∃ Q, (10 : Nat) ^ i = Q := ⟨_, rfl⟩
      rw [hQ] at hpw HPW ha
      clear hQ e8
      have hI2 := hI.out
      rw [show 9 - i = (9 - (i + 1)) + 1 by omega] at hI2
      rw [List.drop_nil] at hI2
      have HI2 : Hid (nanA (9 - (i + 1)) (([] : List UInt8).drop (i + 1)) (a * 10) = M) := by
        rw [List.drop_nil]; exact hI2
      clear hI2 hI
      go_wp2_with fail
      go_round
      case rel => exact ⟨i + 1, a * 10, by rfl, rfl, by omega, by rw [HPW.out]; omega, HI2⟩
      case measure => simp [intOf]; omega
    · have HM2 : Hid (a = M) := by
        have := hI.out
        rw [show 9 - i = 0 by omega] at this
        exact this
      have ha2 : a < 1000000000 := by
        have : (10 : Nat) ^ i = 1000000000 := by rw [show i = 9 by omega]
        omega
      clear hI ha
      go_wp2_with fail
      go_ret2
      rw [← HD.out, ← HM2.out]
      exact ⟨rfl, rfl⟩

theorem refSec_empty (s : ByteArray) (h0 : s.size = 0) (hR : ∀ w, Calls Tryd.prog 35 #[.string s] w fun e w' => e = .returned (.int .i64 0) ∧ w' = w) (w : World) :
    Calls Tryd.prog 21 #[.string s] w fun e w' => e = .returned (.tuple #[.int .i64 0, .int .i64 30]) ∧ w' = w := by
  go_enter Tryd.func21, Tryd.ntmps21
  go_wp2_with (go_at_call 35; refine (hR _).mono ?_; rintro e w2 ⟨rfl, rfl⟩)
  go_ret2
  exact ⟨rfl, rfl⟩
theorem refSec_plain (s : ByteArray) (hs : s.size ≤ 9223372036854775807) (h45 : s.data.toList.head? ≠ some 45) (w : World) :
    Calls Tryd.prog 21 #[.string s] w fun e w' => e = .returned (.tuple #[.int .i64 (ansS false (secT s.data.toList)).1, .int .i64 (ansS false (secT s.data.toList)).2]) ∧ w' = w := by
  obtain ⟨D, hD⟩ : ∃ D, ansS false (secT s.data.toList) = D := ⟨_, rfl⟩
  rw [hD]
  by_cases h0 : s.size = 0
  · have hl : s.data.toList = [] := List.eq_nil_of_length_eq_zero (by rw [len_eq]; exact h0)
    rw [hl] at hD
    have hR := run_c s hs
    rw [hl] at hR
    rw [← hD]
    exact refSec_empty s h0 hR w
  have hp : 0 < s.size := by omega
  rw [head_of s hp] at h45
  obtain ⟨c0, hc⟩ : ∃ c, s[0]'hp = c := ⟨_, rfl⟩
  have hg : s[0]! = c0 := by rw [getElem!_pos s 0 hp, hc]
  rw [hc] at h45
  have hc45 : ((c0.toNat : Int) == 45) = false := by
    simp
    intro h
    apply h45
    congr 1
    exact UInt8.toNat_inj.1 (by show c0.toNat = 45; omega)
  have hR := run_c s hs
  have hle := rn_le s.data.toList
  rw [len_eq] at hle
  have HTK : ∀ c ∈ s.data.toList.take (rn s.data.toList), isD c = true := rn_take _
  rw [secT_eq] at hD
  obtain ⟨n, hn⟩ : ∃ n, rn s.data.toList = n := ⟨_, rfl⟩
  rw [hn] at hR hle hD HTK
  clear hn
  by_cases hn0 : n = 0
  · rw [if_pos hn0] at hD
    subst hn0
    exact refSec_plain_zero s hs hp c0 hc hg hc45 D hR hD w
  · rw [if_neg hn0] at hD
    have hn0b := ne_zero_b hn0
    have hN := number_c (s.extract 0 n) (by rw [← len_eq, ext_list_to, List.length_take, len_eq]; omega) (by rw [ext_list_to]; exact HTK)
    rw [ext_list_to] at hN
    have hF := numF_le 10 48 (s.data.toList.take n) _ fine_zero
    obtain ⟨o, ho⟩ : ∃ o, numF 10 48 (s.data.toList.take n) (some 0) = o := ⟨_, rfl⟩
    rw [ho] at hN hF
    by_cases hlt : n < s.size
    · rw [drop_at s n hlt] at hD
      simp only [secC] at hD
      obtain ⟨c, hcn⟩ : ∃ c, s[n]'hlt = c := ⟨_, rfl⟩
      have hgn : s[n]! = c := by rw [getElem!_pos s n hlt, hcn]
      rw [hcn, ← ext_list] at hD
      have hps := ext_size s (n + 1)
      obtain ⟨p, hpe⟩ : ∃ p, s.extract (n + 1) s.size = p := ⟨_, rfl⟩
      rw [hpe] at hD hps
      have hpb : p.size ≤ 9223372036854775807 := by omega
      by_cases hc46 : c.toNat = 46
      · have hc46b : ((c.toNat : Int) != 46) = false := by rw [hc46]; rfl
        by_cases hp0 : p.size = 0
        · have hl : p.data.toList = [] := List.eq_nil_of_length_eq_zero (by rw [len_eq]; exact hp0)
          rw [if_pos (.inr (.inl hl))] at hD
          exact refSec_plain_bare s hs hp c0 hc hg hc45 D n hR hle hn0b hlt c hcn hgn p hpe hpb hc46b hp0 hD w
        · have hp0b := ne_zero_b hp0
          have hRp := run_c p hpb
          have hlp := rn_le p.data.toList
          rw [len_eq] at hlp
          by_cases hrp : rn p.data.toList < p.size
          · rw [if_pos (.inr (.inr (by rw [len_eq]; exact hrp)))] at hD
            exact refSec_plain_odd s hs hp c0 hc hg hc45 D n hR hle hn0b hlt c hcn hgn p hpe hpb hc46b (by omega) hp0b _ hRp hlp hrp hD w
          · have hne : ¬ (c.toNat ≠ 46 ∨ p.data.toList = [] ∨ rn p.data.toList < p.data.toList.length) := by
              rw [len_eq]
              intro h
              rcases h with h | h | h
              · exact h hc46
              · have := len_eq p; rw [h] at this; simp at this; omega
              · exact hrp h
            rw [if_neg hne] at hD
            have hA : ∀ c ∈ p.data.toList, isD c = true := rn_all _ (by rw [len_eq]; omega)
            unfold secF at hD
            rw [ho] at hD
            cases o with
            | none => exact refSec_plain_Pnone s hs hp c0 hc hg hc45 D n hR hle hn0b hlt c hcn hgn p hpe hpb hc46b (by omega) hp0b _ hRp hlp hrp hN hD w
            | some v =>
              simp only at hD
              by_cases hov : 9000000000 < v
              · rw [if_pos hov] at hD
                exact refSec_plain_Pover s hs hp c0 hc hg hc45 D n hR hle hn0b hlt c hcn hgn p hpe hpb hc46b (by omega) hp0b _ hRp hlp hrp v (hF v rfl) hov hN hD w
              · rw [if_neg hov, ansS_pos] at hD
                exact refSec_plain_Pfine s hs hp c0 hc hg hc45 D n hR hle hn0b hlt c hcn hgn p hpe hpb hc46b (by omega) hp0b _ hRp hlp hrp hA v hov hN hD w
      · rw [if_pos (.inl hc46)] at hD
        have hc46b : ((c.toNat : Int) != 46) = true := by simp; omega
        exact refSec_plain_sign s hs hp c0 hc hg hc45 D n hR hle hn0b hlt c hcn hgn p hpe hpb hc46b hD w
    · rw [drop_end s n hlt] at hD
      simp only [secC] at hD
      unfold secF at hD
      rw [ho] at hD
      cases o with
      | none => exact refSec_plain_Nnone s hs hp c0 hc hg hc45 D n hR hle hn0b hlt hN hD w
      | some v =>
        simp only at hD
        by_cases hov : 9000000000 < v
        · rw [if_pos hov] at hD
          exact refSec_plain_Nover s hs hp c0 hc hg hc45 D n hR hle hn0b hlt v (hF v rfl) hov hN hD w
        · rw [if_neg hov, ansS_pos] at hD
          exact refSec_plain_Nfine s hs hp c0 hc hg hc45 D n hR hle hn0b hlt v hov hN hD w

set_option maxRecDepth 100000 in
theorem refSec_neg_zero (s : ByteArray) (hs : s.size ≤ 9223372036854775807) (hp : 0 < s.size) (hc : s[0]'hp = 45) (hg : s[0]! = 45) (t : ByteArray) (ht : s.extract 1 s.size = t) (hts : t.size ≤ 9223372036854775807) (D : Int × Int) (hR : ∀ w, Calls Tryd.prog 35 #[.string t] w fun e w' => e = .returned (.int .i64 0) ∧ w' = w) (hD : (0, 30) = D) (w : World) :
    Calls Tryd.prog 21 #[.string s] w fun e w' => e = .returned (.tuple #[.int .i64 D.1, .int .i64 D.2]) ∧ w' = w := by
  have HD : Hid ((0, 30) = D) := hD
  clear hD
  go_enter Tryd.func21, Tryd.ntmps21
  go_wp2_with (go_at_call 35; refine (hR _).mono ?_; rintro e w2 ⟨rfl, rfl⟩)
  go_ret2
  rw [← HD.out]
  exact ⟨rfl, rfl⟩

set_option maxRecDepth 100000 in
theorem refSec_neg_sign (s : ByteArray) (hs : s.size ≤ 9223372036854775807) (hp : 0 < s.size) (hc : s[0]'hp = 45) (hg : s[0]! = 45) (t : ByteArray) (ht : s.extract 1 s.size = t) (hts : t.size ≤ 9223372036854775807) (D : Int × Int) (n : Nat) (hR : ∀ w, Calls Tryd.prog 35 #[.string t] w fun e w' => e = .returned (.int .i64 (n : Int)) ∧ w' = w) (hle : n ≤ t.size) (hn0b : ((n : Int) == 0) = false) (hlt : n < t.size) (c : UInt8) (hcn : t[n]'hlt = c) (hgn : t[n]! = c) (p : ByteArray) (hpe : t.extract (n + 1) t.size = p) (hpb : p.size ≤ 9223372036854775807) (hc46b : ((c.toNat : Int) != 46) = true) (hD : (0, 30) = D) (w : World) :
    Calls Tryd.prog 21 #[.string s] w fun e w' => e = .returned (.tuple #[.int .i64 D.1, .int .i64 D.2]) ∧ w' = w := by
  have HD : Hid ((0, 30) = D) := hD
  clear hD
  go_enter Tryd.func21, Tryd.ntmps21
  go_wp2_with (go_at_call 35; refine (hR _).mono ?_; rintro e w2 ⟨rfl, rfl⟩)
  go_ret2
  rw [← HD.out]
  exact ⟨rfl, rfl⟩

set_option maxRecDepth 100000 in
theorem refSec_neg_bare (s : ByteArray) (hs : s.size ≤ 9223372036854775807) (hp : 0 < s.size) (hc : s[0]'hp = 45) (hg : s[0]! = 45) (t : ByteArray) (ht : s.extract 1 s.size = t) (hts : t.size ≤ 9223372036854775807) (D : Int × Int) (n : Nat) (hR : ∀ w, Calls Tryd.prog 35 #[.string t] w fun e w' => e = .returned (.int .i64 (n : Int)) ∧ w' = w) (hle : n ≤ t.size) (hn0b : ((n : Int) == 0) = false) (hlt : n < t.size) (c : UInt8) (hcn : t[n]'hlt = c) (hgn : t[n]! = c) (p : ByteArray) (hpe : t.extract (n + 1) t.size = p) (hpb : p.size ≤ 9223372036854775807) (hc46b : ((c.toNat : Int) != 46) = false) (hp0 : p.size = 0) (hD : (0, 30) = D) (w : World) :
    Calls Tryd.prog 21 #[.string s] w fun e w' => e = .returned (.tuple #[.int .i64 D.1, .int .i64 D.2]) ∧ w' = w := by
  have HD : Hid ((0, 30) = D) := hD
  clear hD
  go_enter Tryd.func21, Tryd.ntmps21
  go_wp2_with (go_at_call 35; refine (hR _).mono ?_; rintro e w2 ⟨rfl, rfl⟩)
  go_ret2
  rw [← HD.out]
  exact ⟨rfl, rfl⟩

set_option maxRecDepth 100000 in
theorem refSec_neg_odd (s : ByteArray) (hs : s.size ≤ 9223372036854775807) (hp : 0 < s.size) (hc : s[0]'hp = 45) (hg : s[0]! = 45) (t : ByteArray) (ht : s.extract 1 s.size = t) (hts : t.size ≤ 9223372036854775807) (D : Int × Int) (n : Nat) (hR : ∀ w, Calls Tryd.prog 35 #[.string t] w fun e w' => e = .returned (.int .i64 (n : Int)) ∧ w' = w) (hle : n ≤ t.size) (hn0b : ((n : Int) == 0) = false) (hlt : n < t.size) (c : UInt8) (hcn : t[n]'hlt = c) (hgn : t[n]! = c) (p : ByteArray) (hpe : t.extract (n + 1) t.size = p) (hpb : p.size ≤ 9223372036854775807) (hc46b : ((c.toNat : Int) != 46) = false) (hp0 : 0 < p.size) (hp0b : ((p.size : Int) == 0) = false) (np : Nat) (hRp : ∀ w, Calls Tryd.prog 35 #[.string p] w fun e w' => e = .returned (.int .i64 (np : Int)) ∧ w' = w) (hlp : np ≤ p.size) (hrp : np < p.size) (hD : (0, 30) = D) (w : World) :
    Calls Tryd.prog 21 #[.string s] w fun e w' => e = .returned (.tuple #[.int .i64 D.1, .int .i64 D.2]) ∧ w' = w := by
  have HD : Hid ((0, 30) = D) := hD
  clear hD
  go_enter Tryd.func21, Tryd.ntmps21
  go_wp2_with (go_at_call 35; first | (go_fit (hR _); rintro e w2 ⟨rfl, rfl⟩) | (go_fit (hRp _); rintro e w2 ⟨rfl, rfl⟩))
  go_ret2
  rw [← HD.out]
  exact ⟨rfl, rfl⟩

set_option maxRecDepth 100000 in
theorem refSec_neg_Pnone (s : ByteArray) (hs : s.size ≤ 9223372036854775807) (hp : 0 < s.size) (hc : s[0]'hp = 45) (hg : s[0]! = 45) (t : ByteArray) (ht : s.extract 1 s.size = t) (hts : t.size ≤ 9223372036854775807) (D : Int × Int) (n : Nat) (hR : ∀ w, Calls Tryd.prog 35 #[.string t] w fun e w' => e = .returned (.int .i64 (n : Int)) ∧ w' = w) (hle : n ≤ t.size) (hn0b : ((n : Int) == 0) = false) (hlt : n < t.size) (c : UInt8) (hcn : t[n]'hlt = c) (hgn : t[n]! = c) (p : ByteArray) (hpe : t.extract (n + 1) t.size = p) (hpb : p.size ≤ 9223372036854775807) (hc46b : ((c.toNat : Int) != 46) = false) (hp0 : 0 < p.size) (hp0b : ((p.size : Int) == 0) = false) (np : Nat) (hRp : ∀ w, Calls Tryd.prog 35 #[.string p] w fun e w' => e = .returned (.int .i64 (np : Int)) ∧ w' = w) (hlp : np ≤ p.size) (hrp : ¬ np < p.size) (hN : ∀ w, Calls Tryd.prog 36 #[.string (t.extract 0 n)] w fun e w' => e = .returned (.int .i64 (-1)) ∧ w' = w) (hD : (0, 31) = D) (w : World) :
    Calls Tryd.prog 21 #[.string s] w fun e w' => e = .returned (.tuple #[.int .i64 D.1, .int .i64 D.2]) ∧ w' = w := by
  have HD : Hid ((0, 31) = D) := hD
  clear hD
  go_enter Tryd.func21, Tryd.ntmps21
  go_wp2_with (first
    | (go_at_call 35; first | (go_fit (hR _); rintro e w2 ⟨rfl, rfl⟩) | (go_fit (hRp _); rintro e w2 ⟨rfl, rfl⟩))
    | (go_at_call 36; refine (hN _).mono ?_; rintro e w2 ⟨rfl, rfl⟩))
  go_ret2
  rw [← HD.out]
  exact ⟨rfl, rfl⟩

set_option maxRecDepth 100000 in
theorem refSec_neg_Pover (s : ByteArray) (hs : s.size ≤ 9223372036854775807) (hp : 0 < s.size) (hc : s[0]'hp = 45) (hg : s[0]! = 45) (t : ByteArray) (ht : s.extract 1 s.size = t) (hts : t.size ≤ 9223372036854775807) (D : Int × Int) (n : Nat) (hR : ∀ w, Calls Tryd.prog 35 #[.string t] w fun e w' => e = .returned (.int .i64 (n : Int)) ∧ w' = w) (hle : n ≤ t.size) (hn0b : ((n : Int) == 0) = false) (hlt : n < t.size) (c : UInt8) (hcn : t[n]'hlt = c) (hgn : t[n]! = c) (p : ByteArray) (hpe : t.extract (n + 1) t.size = p) (hpb : p.size ≤ 9223372036854775807) (hc46b : ((c.toNat : Int) != 46) = false) (hp0 : 0 < p.size) (hp0b : ((p.size : Int) == 0) = false) (np : Nat) (hRp : ∀ w, Calls Tryd.prog 35 #[.string p] w fun e w' => e = .returned (.int .i64 (np : Int)) ∧ w' = w) (hlp : np ≤ p.size) (hrp : ¬ np < p.size) (v : Nat) (hv : v ≤ 4611686018427387904) (hov : 9000000000 < v) (hN : ∀ w, Calls Tryd.prog 36 #[.string (t.extract 0 n)] w fun e w' => e = .returned (.int .i64 (v : Int)) ∧ w' = w) (hD : (0, 31) = D) (w : World) :
    Calls Tryd.prog 21 #[.string s] w fun e w' => e = .returned (.tuple #[.int .i64 D.1, .int .i64 D.2]) ∧ w' = w := by
  have HD : Hid ((0, 31) = D) := hD
  clear hD
  go_enter Tryd.func21, Tryd.ntmps21
  go_wp2_with (first
    | (go_at_call 35; first | (go_fit (hR _); rintro e w2 ⟨rfl, rfl⟩) | (go_fit (hRp _); rintro e w2 ⟨rfl, rfl⟩))
    | (go_at_call 36; refine (hN _).mono ?_; rintro e w2 ⟨rfl, rfl⟩))
  go_ret2
  rw [← HD.out]
  exact ⟨rfl, rfl⟩

set_option maxRecDepth 100000 in
theorem refSec_neg_Pfine (s : ByteArray) (hs : s.size ≤ 9223372036854775807) (hp : 0 < s.size) (hc : s[0]'hp = 45) (hg : s[0]! = 45) (t : ByteArray) (ht : s.extract 1 s.size = t) (hts : t.size ≤ 9223372036854775807) (D : Int × Int) (n : Nat) (hR : ∀ w, Calls Tryd.prog 35 #[.string t] w fun e w' => e = .returned (.int .i64 (n : Int)) ∧ w' = w) (hle : n ≤ t.size) (hn0b : ((n : Int) == 0) = false) (hlt : n < t.size) (c : UInt8) (hcn : t[n]'hlt = c) (hgn : t[n]! = c) (p : ByteArray) (hpe : t.extract (n + 1) t.size = p) (hpb : p.size ≤ 9223372036854775807) (hc46b : ((c.toNat : Int) != 46) = false) (hp0 : 0 < p.size) (hp0b : ((p.size : Int) == 0) = false) (np : Nat) (hRp : ∀ w, Calls Tryd.prog 35 #[.string p] w fun e w' => e = .returned (.int .i64 (np : Int)) ∧ w' = w) (hlp : np ≤ p.size) (hrp : ¬ np < p.size) (hA : ∀ c ∈ p.data.toList, isD c = true) (v : Nat) (hov : ¬ 9000000000 < v) (hN : ∀ w, Calls Tryd.prog 36 #[.string (t.extract 0 n)] w fun e w' => e = .returned (.int .i64 (v : Int)) ∧ w' = w) (hD : (-(((v * 1000000000 + nanA 9 p.data.toList 0 : Nat)) : Int), 0) = D) (w : World) :
    Calls Tryd.prog 21 #[.string s] w fun e w' => e = .returned (.tuple #[.int .i64 D.1, .int .i64 D.2]) ∧ w' = w := by
  have HD : Hid ((-(((v * 1000000000 + nanA 9 p.data.toList 0 : Nat)) : Int), 0) = D) := hD
  clear hD
  have HA : Hid (∀ c ∈ p.data.toList, isD c = true) := hA
  clear hA
  obtain ⟨M, hM⟩ : ∃ M, nanA 9 p.data.toList 0 = M := ⟨_, rfl⟩
  rw [hM] at HD
  have HM : Hid (nanA 9 p.data.toList 0 = M) := hM
  clear hM
  go_enter Tryd.func21, Tryd.ntmps21
  go_wp2_with (first
    | (go_at_call 35; first | (go_fit (hR _); rintro e w2 ⟨rfl, rfl⟩) | (go_fit (hRp _); rintro e w2 ⟨rfl, rfl⟩))
    | (go_at_call 36; refine (hN _).mono ?_; rintro e w2 ⟨rfl, rfl⟩))
  clear hN hR hRp
  go_loop [8, 9] (fun x y => ∃ i a : Nat, x = .int .i64 (a : Int) ∧ y = .int .i64 (i : Int) ∧ i ≤ 9 ∧ a < 10 ^ i ∧ Hid (nanA (9 - i) (p.data.toList.drop i) a = M)) (fun _ y => 9 - (intOf y).toNat)
  case atStart => exact ⟨0, 0, rfl, rfl, by omega, by decide, HM.out⟩
  case round =>
    clear HM
    obtain ⟨i, a, rfl, rfl, hi, ha, hI⟩ := hrel
    by_cases h9 : i < 9
    · have hpw : (10 : Nat) ^ i ≤ 10 ^ 8 := Nat.pow_le_pow_right (by decide) (by omega)
      have e8 : (10 : Nat) ^ 8 = 100000000 := by decide
      have HPW : Hid ((10 : Nat) ^ (i + 1) = 10 ^ i * 10) := Nat.pow_succ _ _
      rw [e8] at hpw
      obtain ⟨Q, hQ⟩ : ∃ Q, (10 : Nat) ^ i = Q := ⟨_, rfl⟩
      rw [hQ] at hpw HPW ha
      clear hQ e8
      have hI2 := hI.out
      rw [show 9 - i = (9 - (i + 1)) + 1 by omega] at hI2
      by_cases hip : i < p.size
      · rw [drop_at p i hip] at hI2
        have hm : isD (p[i]'hip) = true := HA.out _ (by
          have := List.mem_of_mem_drop (i := i) (l := p.data.toList) (a := p[i]'hip) (by rw [drop_at p i hip]; exact List.mem_cons_self)
          exact this)
        obtain ⟨d, hd⟩ : ∃ d, p[i]'hip = d := ⟨_, rfl⟩
        rw [hd] at hI2 hm
        have hgd : p[i]! = d := by rw [getElem!_pos p i hip, hd]
        have hd1 := isD_of hm
        have HI2 : Hid (nanA (9 - (i + 1)) (p.data.toList.drop (i + 1)) (a * 10 + (d.toNat - 48)) = M) := hI2
        obtain ⟨k, hk⟩ : ∃ k, d.toNat = k + 48 := ⟨d.toNat - 48, by omega⟩
        rw [hk, Nat.add_sub_cancel] at HI2
        rw [hk] at hd1
        have hk48 : (a : Int) * 10 + ((k : Int) + 48) - 48 = ((a * 10 + k : Nat) : Int) := by omega
        have hdk : ((d.toNat : Nat) : Int) = (k : Int) + 48 := by omega
        clear hI2 hI hm hk
        go_wp2_with fail
        go_round
        case rel => exact ⟨i + 1, a * 10 + k, by rfl, rfl, by omega, by rw [HPW.out]; omega, HI2⟩
        case measure => simp [intOf]; omega
      · rw [drop_end p i hip] at hI2
        have HI2 : Hid (nanA (9 - (i + 1)) (p.data.toList.drop (i + 1)) (a * 10) = M) := by
          rw [List.drop_of_length_le (by rw [len_eq]; omega)]; exact hI2
        clear hI2 hI
        go_wp2_with fail
        go_round
        case rel => exact ⟨i + 1, a * 10, by rfl, rfl, by omega, by rw [HPW.out]; omega, HI2⟩
        case measure => simp [intOf]; omega
    · have HM2 : Hid (a = M) := by
        have := hI.out
        rw [show 9 - i = 0 by omega] at this
        exact this
      have ha2 : a < 1000000000 := by
        have : (10 : Nat) ^ i = 1000000000 := by rw [show i = 9 by omega]
        omega
      clear hI ha
      go_wp2_with fail
      go_ret2
      rw [← HD.out, ← HM2.out]
      exact ⟨rfl, rfl⟩

set_option maxRecDepth 100000 in
theorem refSec_neg_Nnone (s : ByteArray) (hs : s.size ≤ 9223372036854775807) (hp : 0 < s.size) (hc : s[0]'hp = 45) (hg : s[0]! = 45) (t : ByteArray) (ht : s.extract 1 s.size = t) (hts : t.size ≤ 9223372036854775807) (D : Int × Int) (n : Nat) (hR : ∀ w, Calls Tryd.prog 35 #[.string t] w fun e w' => e = .returned (.int .i64 (n : Int)) ∧ w' = w) (hle : n ≤ t.size) (hn0b : ((n : Int) == 0) = false) (hlt : ¬ n < t.size) (hN : ∀ w, Calls Tryd.prog 36 #[.string (t.extract 0 n)] w fun e w' => e = .returned (.int .i64 (-1)) ∧ w' = w) (hD : (0, 31) = D) (w : World) :
    Calls Tryd.prog 21 #[.string s] w fun e w' => e = .returned (.tuple #[.int .i64 D.1, .int .i64 D.2]) ∧ w' = w := by
  have HD : Hid ((0, 31) = D) := hD
  clear hD
  go_enter Tryd.func21, Tryd.ntmps21
  go_wp2_with (first
    | (go_at_call 35; refine (hR _).mono ?_; rintro e w2 ⟨rfl, rfl⟩)
    | (go_at_call 36; refine (hN _).mono ?_; rintro e w2 ⟨rfl, rfl⟩))
  go_ret2
  rw [← HD.out]
  exact ⟨rfl, rfl⟩

set_option maxRecDepth 100000 in
theorem refSec_neg_Nover (s : ByteArray) (hs : s.size ≤ 9223372036854775807) (hp : 0 < s.size) (hc : s[0]'hp = 45) (hg : s[0]! = 45) (t : ByteArray) (ht : s.extract 1 s.size = t) (hts : t.size ≤ 9223372036854775807) (D : Int × Int) (n : Nat) (hR : ∀ w, Calls Tryd.prog 35 #[.string t] w fun e w' => e = .returned (.int .i64 (n : Int)) ∧ w' = w) (hle : n ≤ t.size) (hn0b : ((n : Int) == 0) = false) (hlt : ¬ n < t.size) (v : Nat) (hv : v ≤ 4611686018427387904) (hov : 9000000000 < v) (hN : ∀ w, Calls Tryd.prog 36 #[.string (t.extract 0 n)] w fun e w' => e = .returned (.int .i64 (v : Int)) ∧ w' = w) (hD : (0, 31) = D) (w : World) :
    Calls Tryd.prog 21 #[.string s] w fun e w' => e = .returned (.tuple #[.int .i64 D.1, .int .i64 D.2]) ∧ w' = w := by
  have HD : Hid ((0, 31) = D) := hD
  clear hD
  go_enter Tryd.func21, Tryd.ntmps21
  go_wp2_with (first
    | (go_at_call 35; refine (hR _).mono ?_; rintro e w2 ⟨rfl, rfl⟩)
    | (go_at_call 36; refine (hN _).mono ?_; rintro e w2 ⟨rfl, rfl⟩))
  go_ret2
  rw [← HD.out]
  exact ⟨rfl, rfl⟩

set_option maxRecDepth 100000 in
theorem refSec_neg_Nfine (s : ByteArray) (hs : s.size ≤ 9223372036854775807) (hp : 0 < s.size) (hc : s[0]'hp = 45) (hg : s[0]! = 45) (t : ByteArray) (ht : s.extract 1 s.size = t) (hts : t.size ≤ 9223372036854775807) (D : Int × Int) (n : Nat) (hR : ∀ w, Calls Tryd.prog 35 #[.string t] w fun e w' => e = .returned (.int .i64 (n : Int)) ∧ w' = w) (hle : n ≤ t.size) (hn0b : ((n : Int) == 0) = false) (hlt : ¬ n < t.size) (v : Nat) (hov : ¬ 9000000000 < v) (hN : ∀ w, Calls Tryd.prog 36 #[.string (t.extract 0 n)] w fun e w' => e = .returned (.int .i64 (v : Int)) ∧ w' = w) (hD : (-(((v * 1000000000 + nanA 9 ([] : List UInt8) 0 : Nat)) : Int), 0) = D) (w : World) :
    Calls Tryd.prog 21 #[.string s] w fun e w' => e = .returned (.tuple #[.int .i64 D.1, .int .i64 D.2]) ∧ w' = w := by
  have HD : Hid ((-(((v * 1000000000 + nanA 9 ([] : List UInt8) 0 : Nat)) : Int), 0) = D) := hD
  clear hD
  obtain ⟨M, hM⟩ : ∃ M, nanA 9 ([] : List UInt8) 0 = M := ⟨_, rfl⟩
  rw [hM] at HD
  have HM : Hid (nanA 9 ([] : List UInt8) 0 = M) := hM
  clear hM
  go_enter Tryd.func21, Tryd.ntmps21
  go_wp2_with (first
    | (go_at_call 35; refine (hR _).mono ?_; rintro e w2 ⟨rfl, rfl⟩)
    | (go_at_call 36; refine (hN _).mono ?_; rintro e w2 ⟨rfl, rfl⟩))
  clear hN hR
  go_loop [8, 9] (fun x y => ∃ i a : Nat, x = .int .i64 (a : Int) ∧ y = .int .i64 (i : Int) ∧ i ≤ 9 ∧ a < 10 ^ i ∧ Hid (nanA (9 - i) (([] : List UInt8).drop i) a = M)) (fun _ y => 9 - (intOf y).toNat)
  case atStart => exact ⟨0, 0, rfl, rfl, by omega, by decide, HM.out⟩
  case round =>
    clear HM
    obtain ⟨i, a, rfl, rfl, hi, ha, hI⟩ := hrel
    by_cases h9 : i < 9
    · have hpw : (10 : Nat) ^ i ≤ 10 ^ 8 := Nat.pow_le_pow_right (by decide) (by omega)
      have e8 : (10 : Nat) ^ 8 = 100000000 := by decide
      have HPW : Hid ((10 : Nat) ^ (i + 1) = 10 ^ i * 10) := Nat.pow_succ _ _
      rw [e8] at hpw
      obtain ⟨Q, hQ⟩ : ∃ Q, (10 : Nat) ^ i = Q := ⟨_, rfl⟩
      rw [hQ] at hpw HPW ha
      clear hQ e8
      have hI2 := hI.out
      rw [show 9 - i = (9 - (i + 1)) + 1 by omega] at hI2
      rw [List.drop_nil] at hI2
      have HI2 : Hid (nanA (9 - (i + 1)) (([] : List UInt8).drop (i + 1)) (a * 10) = M) := by
        rw [List.drop_nil]; exact hI2
      clear hI2 hI
      go_wp2_with fail
      go_round
      case rel => exact ⟨i + 1, a * 10, by rfl, rfl, by omega, by rw [HPW.out]; omega, HI2⟩
      case measure => simp [intOf]; omega
    · have HM2 : Hid (a = M) := by
        have := hI.out
        rw [show 9 - i = 0 by omega] at this
        exact this
      have ha2 : a < 1000000000 := by
        have : (10 : Nat) ^ i = 1000000000 := by rw [show i = 9 by omega]
        omega
      clear hI ha
      go_wp2_with fail
      go_ret2
      rw [← HD.out, ← HM2.out]
      exact ⟨rfl, rfl⟩

theorem refSec_neg (s : ByteArray) (hs : s.size ≤ 9223372036854775807) (h45 : s.data.toList.head? = some 45) (w : World) :
    Calls Tryd.prog 21 #[.string s] w fun e w' => e = .returned (.tuple #[.int .i64 (ansS true (secT s.data.toList.tail)).1, .int .i64 (ansS true (secT s.data.toList.tail)).2]) ∧ w' = w := by
  obtain ⟨D, hD⟩ : ∃ D, ansS true (secT s.data.toList.tail) = D := ⟨_, rfl⟩
  rw [hD]
  have hp : 0 < s.size := by
    rcases Nat.eq_zero_or_pos s.size with h | h
    · have hl : s.data.toList = [] := List.eq_nil_of_length_eq_zero (by rw [len_eq]; exact h)
      rw [hl] at h45
      cases h45
    · exact h
  rw [head_of s hp] at h45
  have hc : s[0]'hp = 45 := Option.some.inj h45
  have hg : s[0]! = 45 := by rw [getElem!_pos s 0 hp, hc]
  rw [← List.drop_one, ← ext_list] at hD
  have he := ext_size s 1
  obtain ⟨t, ht⟩ : ∃ t, s.extract 1 s.size = t := ⟨_, rfl⟩
  rw [ht] at hD he
  have hts : t.size ≤ 9223372036854775807 := by omega
  have hR := run_c t hts
  have hle := rn_le t.data.toList
  rw [len_eq] at hle
  have HTK : ∀ c ∈ t.data.toList.take (rn t.data.toList), isD c = true := rn_take _
  rw [secT_eq] at hD
  obtain ⟨n, hn⟩ : ∃ n, rn t.data.toList = n := ⟨_, rfl⟩
  rw [hn] at hR hle hD HTK
  clear hn
  by_cases hn0 : n = 0
  · rw [if_pos hn0] at hD
    subst hn0
    exact refSec_neg_zero s hs hp hc hg t ht hts D hR hD w
  · rw [if_neg hn0] at hD
    have hn0b := ne_zero_b hn0
    have hN := number_c (t.extract 0 n) (by rw [← len_eq, ext_list_to, List.length_take, len_eq]; omega) (by rw [ext_list_to]; exact HTK)
    rw [ext_list_to] at hN
    have hF := numF_le 10 48 (t.data.toList.take n) _ fine_zero
    obtain ⟨o, ho⟩ : ∃ o, numF 10 48 (t.data.toList.take n) (some 0) = o := ⟨_, rfl⟩
    rw [ho] at hN hF
    by_cases hlt : n < t.size
    · rw [drop_at t n hlt] at hD
      simp only [secC] at hD
      obtain ⟨c, hcn⟩ : ∃ c, t[n]'hlt = c := ⟨_, rfl⟩
      have hgn : t[n]! = c := by rw [getElem!_pos t n hlt, hcn]
      rw [hcn, ← ext_list] at hD
      have hps := ext_size t (n + 1)
      obtain ⟨p, hpe⟩ : ∃ p, t.extract (n + 1) t.size = p := ⟨_, rfl⟩
      rw [hpe] at hD hps
      have hpb : p.size ≤ 9223372036854775807 := by omega
      by_cases hc46 : c.toNat = 46
      · have hc46b : ((c.toNat : Int) != 46) = false := by rw [hc46]; rfl
        by_cases hp0 : p.size = 0
        · have hl : p.data.toList = [] := List.eq_nil_of_length_eq_zero (by rw [len_eq]; exact hp0)
          rw [if_pos (.inr (.inl hl))] at hD
          exact refSec_neg_bare s hs hp hc hg t ht hts D n hR hle hn0b hlt c hcn hgn p hpe hpb hc46b hp0 hD w
        · have hp0b := ne_zero_b hp0
          have hRp := run_c p hpb
          have hlp := rn_le p.data.toList
          rw [len_eq] at hlp
          by_cases hrp : rn p.data.toList < p.size
          · rw [if_pos (.inr (.inr (by rw [len_eq]; exact hrp)))] at hD
            exact refSec_neg_odd s hs hp hc hg t ht hts D n hR hle hn0b hlt c hcn hgn p hpe hpb hc46b (by omega) hp0b _ hRp hlp hrp hD w
          · have hne : ¬ (c.toNat ≠ 46 ∨ p.data.toList = [] ∨ rn p.data.toList < p.data.toList.length) := by
              rw [len_eq]
              intro h
              rcases h with h | h | h
              · exact h hc46
              · have := len_eq p; rw [h] at this; simp at this; omega
              · exact hrp h
            rw [if_neg hne] at hD
            have hA : ∀ c ∈ p.data.toList, isD c = true := rn_all _ (by rw [len_eq]; omega)
            unfold secF at hD
            rw [ho] at hD
            cases o with
            | none => exact refSec_neg_Pnone s hs hp hc hg t ht hts D n hR hle hn0b hlt c hcn hgn p hpe hpb hc46b (by omega) hp0b _ hRp hlp hrp hN hD w
            | some v =>
              simp only at hD
              by_cases hov : 9000000000 < v
              · rw [if_pos hov] at hD
                exact refSec_neg_Pover s hs hp hc hg t ht hts D n hR hle hn0b hlt c hcn hgn p hpe hpb hc46b (by omega) hp0b _ hRp hlp hrp v (hF v rfl) hov hN hD w
              · rw [if_neg hov, ansS_neg] at hD
                exact refSec_neg_Pfine s hs hp hc hg t ht hts D n hR hle hn0b hlt c hcn hgn p hpe hpb hc46b (by omega) hp0b _ hRp hlp hrp hA v hov hN hD w
      · rw [if_pos (.inl hc46)] at hD
        have hc46b : ((c.toNat : Int) != 46) = true := by simp; omega
        exact refSec_neg_sign s hs hp hc hg t ht hts D n hR hle hn0b hlt c hcn hgn p hpe hpb hc46b hD w
    · rw [drop_end t n hlt] at hD
      simp only [secC] at hD
      unfold secF at hD
      rw [ho] at hD
      cases o with
      | none => exact refSec_neg_Nnone s hs hp hc hg t ht hts D n hR hle hn0b hlt hN hD w
      | some v =>
        simp only at hD
        by_cases hov : 9000000000 < v
        · rw [if_pos hov] at hD
          exact refSec_neg_Nover s hs hp hc hg t ht hts D n hR hle hn0b hlt v (hF v rfl) hov hN hD w
        · rw [if_neg hov, ansS_neg] at hD
          exact refSec_neg_Nfine s hs hp hc hg t ht hts D n hR hle hn0b hlt v hov hN hD w

theorem refSec_c (s : ByteArray) (hs : s.size ≤ 9223372036854775807) (w : World) :
    Calls Tryd.prog 21 #[.string s] w fun e w' => e = .returned (.tuple #[.int .i64 (secR s.data.toList).1, .int .i64 (secR s.data.toList).2]) ∧ w' = w := by
  unfold secR
  by_cases h : s.data.toList.head? = some 45
  · rw [if_pos h]; exact refSec_neg s hs h w
  · rw [if_neg h]; exact refSec_plain s hs h w
end Go.Proofs.YtodkpmnkdplpiaaDoor
