/- PROVED: the contract of the program's PutSeconds. -/
import Derived.Test.YtodkpmnkdplpiaaDoorSecP
import Derived.Test.YtodkpmnkdplpiaaDoorRefPS
import Derived.Test.YtodkpmnkdplpiaaDoorOct
namespace Go.Proofs.YtodkpmnkdplpiaaDoor
open Go Go.RowKit
set_option linter.unusedVariables false

/-- The library's tables lie in their variables, as far as they are read here. -/
def Tabs (w : World) : Prop := Lib.TabIs Tryd.prog w vnP .u64 Lib.pow10Tab ∧ w.cell? ⟨5, 7, none⟩ = some (.int .u8 3)
theorem tabs_keep {w w' : World} {B : Nat} (h : Tabs w) (hb : Below B w w') (hB : w.heap.size ≤ B) : Tabs w' := by
  obtain ⟨h1, h2⟩ := h
  refine ⟨?_, ?_⟩
  · unfold Lib.TabIs World.var? at *
    cases hg : Tryd.prog.globalNamed vnP with
    | none => simp [hg] at h1
    | some g =>
      simp only [hg, Option.bind_some] at h1 ⊢
      have hlt : g < w.heap.size := by
        rcases Nat.lt_or_ge g w.heap.size with h' | h'
        · exact h'
        · rw [Array.getElem?_eq_none h'] at h1; simp at h1
      rw [hb.block g (by omega)]
      exact h1
  · rw [World.cell?_of_block (w := w) (hb.block _ (Nat.lt_of_lt_of_le (lt_of_cell h2) hB))]
    exact h2

/-- What the program's PutSeconds tells, without the sign. -/
def psQ (u : Nat) : List UInt8 := Lib.decDigits (u / 1000000000) ++ (if u % 1000000000 = 0 then [] else [46] ++ Lib.trimRightB ((Lib.decDigits (1000000000 + u % 1000000000)).drop 1) 48)
theorem trimR_len (l : List UInt8) (c : UInt8) : (Lib.trimRightB l c).length ≤ l.length := by
  unfold Lib.trimRightB
  rw [List.length_reverse]
  exact Nat.le_trans (List.dropWhile_sublist _).length_le (by simp)
theorem pos_ne_b {P : Nat} (h : ¬ P = 0) : ((P : Int) == 0) = false := by
  have : ¬ (P : Int) = 0 := by omega
  simpa using this
theorem dec_pos (u : Nat) : 1 ≤ (Lib.decDigits u).length := by
  by_cases h : u < 10
  · rw [dec_small h]; simp
  · rw [dec_big h]; simp

set_option maxRecDepth 100000 in
theorem ps_pos (u : Nat) (hu : u ≤ 9223372036854775807) (w : World) (hT : Tabs w) :
    Calls Tryd.prog 22 #[.int .i64 (u : Int)] w fun e w' => e = .returned (.string ⟨(([] : List UInt8) ++ psQ u).toArray⟩) ∧ Below w.heap.size w w' := by
  have HT : Hid (Tabs w) := hT
  have h1 := formatUint_c (u / 1000000000) (by omega) w hT.1
  have h2 : Hid (∀ W, Tabs W → Calls Tryd.prog 39 #[.int .u64 (1000000000 + ((u % 1000000000 : Nat) : Int)), .int .i64 10] W fun e w' => e = .returned (.string ⟨(Lib.decDigits (1000000000 + u % 1000000000)).toArray⟩) ∧ Below W.heap.size W w') := fun W hW => formatUint_c (1000000000 + u % 1000000000) (by omega) W hW.1
  have hl1 : (Lib.decDigits (u / 1000000000)).length ≤ 20 := dec_len 19 _ (Nat.lt_of_le_of_lt (Nat.div_le_self _ _) (Nat.lt_of_le_of_lt (show u ≤ 9223372036854775808 by omega) (by decide)))
  have hl2 : (Lib.decDigits (1000000000 + u % 1000000000)).length ≤ 20 := dec_len 19 _ (Nat.lt_of_lt_of_le (show 1000000000 + u % 1000000000 < 2000000000 by omega) (by decide))
  have hl3 := dec_pos (1000000000 + u % 1000000000)
  have hq : (u : Int) / 1000000000 = ((u / 1000000000 : Nat) : Int) := by omega
  obtain ⟨A, hA⟩ : ∃ A, Lib.decDigits (u / 1000000000) = A := ⟨_, rfl⟩
  obtain ⟨N, hN⟩ : ∃ N, Lib.decDigits (1000000000 + u % 1000000000) = N := ⟨_, rfl⟩
  obtain ⟨D, hD⟩ : ∃ D, ([] : List UInt8) ++ psQ u = D := ⟨_, rfl⟩
  rw [hD]
  unfold psQ at hD
  rw [hA, hN] at hD
  rw [hA] at h1 hl1
  rw [hN] at h2 hl2 hl3
  obtain ⟨P, hP⟩ : ∃ P, u % 1000000000 = P := ⟨_, rfl⟩
  have hPi : (u : Int) % 1000000000 = (P : Int) := by omega
  have hPlt : P < 1000000000 := by omega
  rw [hP] at hD h2
  obtain ⟨K, hK⟩ : ∃ K, u / 1000000000 = K := ⟨_, rfl⟩
  have hKi : (u : Int) / 1000000000 = (K : Int) := by omega
  rw [hK] at h1
  have hsA : (⟨A.toArray⟩ : ByteArray).size ≤ 20 := by rw [size_mk]; exact hl1
  have H3 : Hid (∀ W : World, Calls Tryd.prog 26 #[.string ((⟨N.toArray⟩ : ByteArray).extract 1 (⟨N.toArray⟩ : ByteArray).size), .string ⟨#[48]⟩] W fun e w' => e = .returned (.string ⟨(Lib.trimRightB (N.drop 1) 48).toArray⟩) ∧ w' = W) := fun W => by
    have := sh_strings_TrimRight_one ((⟨N.toArray⟩ : ByteArray).extract 1 (⟨N.toArray⟩ : ByteArray).size) 48 (by decide) W (by rw [ext_size, size_mk]; omega)
    rw [ext_list] at this
    exact this
  have hsR : (⟨(Lib.trimRightB (N.drop 1) 48).toArray⟩ : ByteArray).size ≤ 20 := by
    rw [size_mk]
    have := trimR_len (N.drop 1) 48
    rw [List.length_drop] at this
    omega
  have hsN : 1 ≤ (⟨N.toArray⟩ : ByteArray).size := by rw [size_mk]; exact hl3
  have HS1 : Hid ((⟨([] : List UInt8).toArray⟩ : ByteArray) ++ ⟨A.toArray⟩ = ⟨(([] : List UInt8) ++ A).toArray⟩) := app_eq _ _
  have HS2 : Hid (((⟨([] : List UInt8).toArray⟩ : ByteArray) ++ ⟨A.toArray⟩) ++ ⟨[46].toArray⟩ ++ ⟨(Lib.trimRightB (N.drop 1) 48).toArray⟩ = ⟨(([] : List UInt8) ++ A ++ [46] ++ Lib.trimRightB (N.drop 1) 48).toArray⟩) := by rw [HS1.out, app_eq, app_eq]; exact rfl
  obtain ⟨SA, hSA⟩ : ∃ S : ByteArray, (⟨A.toArray⟩ : ByteArray) = S := ⟨_, rfl⟩
  obtain ⟨SN, hSN⟩ : ∃ S : ByteArray, (⟨N.toArray⟩ : ByteArray) = S := ⟨_, rfl⟩
  obtain ⟨SR, hSR⟩ : ∃ S : ByteArray, (⟨(Lib.trimRightB (N.drop 1) 48).toArray⟩ : ByteArray) = S := ⟨_, rfl⟩
  rw [hSA] at h1 hsA HS1 HS2
  rw [hSN] at h2 H3 hsN
  rw [hSR] at H3 hsR HS2
  have hw : IntKind.u64.wrap (u : Int) = (u : Int) := by rw [IntKind.wrap_u64]; omega
  clear hA hN hP hK hSA hSN hSR hq hl1 hl2 hl3 hT
  by_cases hz : P = 0
  · have HE : Hid (D = ([] : List UInt8) ++ A) := by rw [← hD, if_pos hz]; simp [Hid]
    subst hz
    clear hD h2 H3 HS2
    go_enter Tryd.func22, Tryd.ntmps22
    go_wp2_with (go_at_call 39; go_fit h1; rintro e w2 ⟨rfl, b2⟩; have B2 : Hid (Below w.heap.size w w2) := b2; clear b2)
    go_ret
    exact ⟨by rw [HE.out, ← HS1.out]; rfl, B2.out⟩
  · have HE : Hid (D = ([] : List UInt8) ++ A ++ [46] ++ Lib.trimRightB (N.drop 1) 48) := by rw [← hD, if_neg hz]; simp [Hid]
    have hzb := pos_ne_b hz
    clear hD HS1
    go_enter Tryd.func22, Tryd.ntmps22
    go_wp2_with (first
      | (go_at_call 39; first
        | (go_fit h1; rintro e w2 ⟨rfl, b2⟩; have B2 : Hid (Below w.heap.size w w2) := b2; have T2 : Hid (Tabs w2) := tabs_keep HT.out b2 (Nat.le_refl _); clear b2 h1)
        | (go_fit (h2.out _ T2.out); rintro e w3 ⟨rfl, b3⟩; have B3 : Hid (Below w.heap.size w w3) := B2.out.trans (b3.mono B2.out.size); clear b3))
      | (go_at_call 26; go_fit (H3.out _); rintro e w4 ⟨rfl, hw4⟩; obtain rfl : w3 = w4 := hw4.symm))
    go_ret
    exact ⟨by rw [HE.out, ← HS2.out]; rfl, B3.out⟩

set_option maxRecDepth 100000 in
theorem ps_neg (u : Nat) (hu : 1 ≤ u ∧ u ≤ 9223372036854775808) (w : World) (hT : Tabs w) :
    Calls Tryd.prog 22 #[.int .i64 (-(u : Int))] w fun e w' => e = .returned (.string ⟨(([45] : List UInt8) ++ psQ u).toArray⟩) ∧ Below w.heap.size w w' := by
  have HT : Hid (Tabs w) := hT
  have h1 := formatUint_c (u / 1000000000) (by omega) w hT.1
  have h2 : Hid (∀ W, Tabs W → Calls Tryd.prog 39 #[.int .u64 (1000000000 + ((u % 1000000000 : Nat) : Int)), .int .i64 10] W fun e w' => e = .returned (.string ⟨(Lib.decDigits (1000000000 + u % 1000000000)).toArray⟩) ∧ Below W.heap.size W w') := fun W hW => formatUint_c (1000000000 + u % 1000000000) (by omega) W hW.1
  have hl1 : (Lib.decDigits (u / 1000000000)).length ≤ 20 := dec_len 19 _ (Nat.lt_of_le_of_lt (Nat.div_le_self _ _) (Nat.lt_of_le_of_lt (show u ≤ 9223372036854775808 by omega) (by decide)))
  have hl2 : (Lib.decDigits (1000000000 + u % 1000000000)).length ≤ 20 := dec_len 19 _ (Nat.lt_of_lt_of_le (show 1000000000 + u % 1000000000 < 2000000000 by omega) (by decide))
  have hl3 := dec_pos (1000000000 + u % 1000000000)
  have hq : (u : Int) / 1000000000 = ((u / 1000000000 : Nat) : Int) := by omega
  obtain ⟨A, hA⟩ : ∃ A, Lib.decDigits (u / 1000000000) = A := ⟨_, rfl⟩
  obtain ⟨N, hN⟩ : ∃ N, Lib.decDigits (1000000000 + u % 1000000000) = N := ⟨_, rfl⟩
  obtain ⟨D, hD⟩ : ∃ D, ([45] : List UInt8) ++ psQ u = D := ⟨_, rfl⟩
  rw [hD]
  unfold psQ at hD
  rw [hA, hN] at hD
  rw [hA] at h1 hl1
  rw [hN] at h2 hl2 hl3
  obtain ⟨P, hP⟩ : ∃ P, u % 1000000000 = P := ⟨_, rfl⟩
  have hPi : (u : Int) % 1000000000 = (P : Int) := by omega
  have hPlt : P < 1000000000 := by omega
  rw [hP] at hD h2
  obtain ⟨K, hK⟩ : ∃ K, u / 1000000000 = K := ⟨_, rfl⟩
  have hKi : (u : Int) / 1000000000 = (K : Int) := by omega
  rw [hK] at h1
  have hsA : (⟨A.toArray⟩ : ByteArray).size ≤ 20 := by rw [size_mk]; exact hl1
  have H3 : Hid (∀ W : World, Calls Tryd.prog 26 #[.string ((⟨N.toArray⟩ : ByteArray).extract 1 (⟨N.toArray⟩ : ByteArray).size), .string ⟨#[48]⟩] W fun e w' => e = .returned (.string ⟨(Lib.trimRightB (N.drop 1) 48).toArray⟩) ∧ w' = W) := fun W => by
    have := sh_strings_TrimRight_one ((⟨N.toArray⟩ : ByteArray).extract 1 (⟨N.toArray⟩ : ByteArray).size) 48 (by decide) W (by rw [ext_size, size_mk]; omega)
    rw [ext_list] at this
    exact this
  have hsR : (⟨(Lib.trimRightB (N.drop 1) 48).toArray⟩ : ByteArray).size ≤ 20 := by
    rw [size_mk]
    have := trimR_len (N.drop 1) 48
    rw [List.length_drop] at this
    omega
  have hsN : 1 ≤ (⟨N.toArray⟩ : ByteArray).size := by rw [size_mk]; exact hl3
  have HS1 : Hid ((⟨([45] : List UInt8).toArray⟩ : ByteArray) ++ ⟨A.toArray⟩ = ⟨(([45] : List UInt8) ++ A).toArray⟩) := app_eq _ _
  have HS2 : Hid (((⟨([45] : List UInt8).toArray⟩ : ByteArray) ++ ⟨A.toArray⟩) ++ ⟨[46].toArray⟩ ++ ⟨(Lib.trimRightB (N.drop 1) 48).toArray⟩ = ⟨(([45] : List UInt8) ++ A ++ [46] ++ Lib.trimRightB (N.drop 1) 48).toArray⟩) := by rw [HS1.out, app_eq, app_eq]; exact rfl
  obtain ⟨SA, hSA⟩ : ∃ S : ByteArray, (⟨A.toArray⟩ : ByteArray) = S := ⟨_, rfl⟩
  obtain ⟨SN, hSN⟩ : ∃ S : ByteArray, (⟨N.toArray⟩ : ByteArray) = S := ⟨_, rfl⟩
  obtain ⟨SR, hSR⟩ : ∃ S : ByteArray, (⟨(Lib.trimRightB (N.drop 1) 48).toArray⟩ : ByteArray) = S := ⟨_, rfl⟩
  rw [hSA] at h1 hsA HS1 HS2
  rw [hSN] at h2 H3 hsN
  rw [hSR] at H3 hsR HS2
  have hw : IntKind.u64.wrap (-IntKind.u64.wrap (-(u : Int))) = (u : Int) := by rw [IntKind.wrap_u64, IntKind.wrap_u64]; omega
  clear hA hN hP hK hSA hSN hSR hq hl1 hl2 hl3 hT
  by_cases hz : P = 0
  · have HE : Hid (D = ([45] : List UInt8) ++ A) := by rw [← hD, if_pos hz]; simp [Hid]
    subst hz
    clear hD h2 H3 HS2
    go_enter Tryd.func22, Tryd.ntmps22
    go_wp2_with (go_at_call 39; go_fit h1; rintro e w2 ⟨rfl, b2⟩; have B2 : Hid (Below w.heap.size w w2) := b2; clear b2)
    go_ret
    exact ⟨by rw [HE.out, ← HS1.out]; rfl, B2.out⟩
  · have HE : Hid (D = ([45] : List UInt8) ++ A ++ [46] ++ Lib.trimRightB (N.drop 1) 48) := by rw [← hD, if_neg hz]; simp [Hid]
    have hzb := pos_ne_b hz
    clear hD HS1
    go_enter Tryd.func22, Tryd.ntmps22
    go_wp2_with (first
      | (go_at_call 39; first
        | (go_fit h1; rintro e w2 ⟨rfl, b2⟩; have B2 : Hid (Below w.heap.size w w2) := b2; have T2 : Hid (Tabs w2) := tabs_keep HT.out b2 (Nat.le_refl _); clear b2 h1)
        | (go_fit (h2.out _ T2.out); rintro e w3 ⟨rfl, b3⟩; have B3 : Hid (Below w.heap.size w w3) := B2.out.trans (b3.mono B2.out.size); clear b3))
      | (go_at_call 26; go_fit (H3.out _); rintro e w4 ⟨rfl, hw4⟩; obtain rfl : w3 = w4 := hw4.symm))
    go_ret
    exact ⟨by rw [HE.out, ← HS2.out]; rfl, B3.out⟩


def psP (t : Int) : List UInt8 := if t < 0 then 45 :: psQ t.natAbs else psQ t.natAbs
theorem ps_c (t : Int) (ht : -9223372036854775808 ≤ t ∧ t ≤ 9223372036854775807) (w : World) (hT : Tabs w) :
    Calls Tryd.prog 22 #[.int .i64 t] w fun e w' => e = .returned (.string ⟨(psP t).toArray⟩) ∧ Below w.heap.size w w' := by
  unfold psP
  by_cases h : t < 0
  · rw [if_pos h]
    obtain ⟨u, rfl⟩ : ∃ u : Nat, t = -(u : Int) := ⟨t.natAbs, by omega⟩
    rw [Int.natAbs_neg, Int.natAbs_natCast]
    exact ps_neg u (by omega) w hT
  · rw [if_neg h]
    obtain ⟨u, rfl⟩ : ∃ u : Nat, t = (u : Int) := ⟨t.natAbs, by omega⟩
    rw [Int.natAbs_natCast]
    exact ps_pos u (by omega) w hT
end Go.Proofs.YtodkpmnkdplpiaaDoor
