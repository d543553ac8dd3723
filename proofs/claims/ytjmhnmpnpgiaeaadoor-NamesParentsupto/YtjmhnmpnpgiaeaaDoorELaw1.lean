/- The laws on Valid, FromOem, ToOem: walked. -/
import Derived.Test.YtjmhnmpnpgiaeaaDoorEAlive
import Derived.Test.YtjmhnmpnpgiaeaaDoorEToR
namespace Go.Proofs.YtjmhnmpnpgiaeaaDoor.E
set_option maxRecDepth 100000
open Go Go.RowKit
set_option linter.unusedVariables false

def Yes' (w : World) (e : Ending) (w' : World) : Prop := e = .returned (.bool true) ∧ Below w.heap.size w w'
set_option maxHeartbeats 4000000 in
theorem namesValid_walk (s : ByteArray) (w : World) (hs : s.size ≤ 140737488351232) (hT : Tab w) : Calls Tryd.prog 8 #[.string s] w (Yes' w) := by
  have HA := hide (alive_c w hT)
  have HV := hide (fun W => valid_c s (by omega) W)
  have HR := hide (fun W => rvalid_c s (by omega) W)
  generalize vld s.data.toList = b at HV HR
  clear hT
  go_enter Tryd.func8, Tryd.ntmps8
  go_wp2_with (first
    | (go_at_call 11; refine HA.out.mono ?_; rintro e w1 ⟨rfl, b1⟩; have B1 := hide b1; clear b1 HA)
    | (go_at_call 17; refine (HV.out w1).mono ?_; rintro e w2 ⟨rfl, b2⟩; have B2 := hide (B1.out.trans (b2.mono B1.out.size)); clear b2 HV)
    | (go_at_call 19; refine (HR.out w2).mono ?_; rintro e wq ⟨rfl, hw⟩; obtain rfl := hw.symm; clear HR))
  go_ret
  exact ⟨rfl, B2.out⟩
set_option maxHeartbeats 4000000 in
theorem namesOem_walk (s : ByteArray) (w : World) (hs : s.size ≤ 140737488351232) (hT : Tab w) : Calls Tryd.prog 6 #[.string s] w (Yes' w) := by
  have HT := hide hT
  by_cases h2 : 2000 < s.size
  · have h3 : (2000 : Int) < (s.size : Int) := by omega
    clear hT
    go_enter Tryd.func6, Tryd.ntmps6
    go_wp2_with (go_at_call 11; refine (alive_c w HT.out).mono ?_; rintro e w1 ⟨rfl, b1⟩; have B1 := hide b1; clear b1)
    go_ret
    exact ⟨rfl, B1.out⟩
  · have h3 : ¬ (2000 : Int) < (s.size : Int) := by omega
    have hfl := fro_len s.data.toList
    rw [len_eq] at hfl
    have hfs : (tx (fro s.data.toList)).size ≤ 6000 := by rw [tx_size]; omega
    have HF := hide (fromOem_c s w (by omega) hT)
    have HT2 := hide (fun W (hb : Below w.heap.size w W) => toOem_c (tx (fro s.data.toList)) W (by omega) (hT.stay hb))
    have HR := hide (fun W => rfromOem_c s W (by omega))
    have HV := hide (fun W => valid_c (tx (fro s.data.toList)) (by omega) W)
    unfold FroOk at HF HR
    unfold TooOk at HT2
    rw [tx_list, too_fro, List.nil_append] at HT2
    rw [tx_list, vld_fro] at HV
    replace HT2 : Hid (∀ W, Below w.heap.size w W → Calls Tryd.prog 15 #[.string (tx (fro s.data.toList))] W fun e w' => e = .returned (.tuple #[.string s, .bool true]) ∧ Below W.heap.size W w') := HT2
    generalize tx (fro s.data.toList) = S at HF HT2 HR HV hfs
    clear hT hfl hfs
    go_enter Tryd.func6, Tryd.ntmps6
    go_wp2_with (first
      | (go_at_call 14; refine HF.out.mono ?_; rintro e w1 ⟨rfl, b1⟩; have B1 := hide b1; have HT3 := hide (HT2.out w1 b1); clear b1 HF HT2)
      | (go_at_call 15; refine HT3.out.mono ?_; rintro e w2 ⟨rfl, b2⟩; have B2 := hide (B1.out.trans (b2.mono B1.out.size)); clear b2 HT3)
      | (go_at_call 11; refine (alive_c w2 (HT.out.stay B2.out)).mono ?_; rintro e w3 ⟨rfl, b3⟩; have B3 := hide (B2.out.trans (b3.mono B2.out.size)); clear b3)
      | (go_at_call 16; refine (HR.out w3).mono ?_; rintro e w4 ⟨rfl, b4⟩; have B4 := hide (B3.out.trans (b4.mono B3.out.size)); clear b4 HR)
      | (go_at_call 17; refine (HV.out w4).mono ?_; rintro e w5 ⟨rfl, b5⟩; have B5 := hide (B4.out.trans (b5.mono B4.out.size)); clear b5 HV))
    go_ret
    exact ⟨rfl, B5.out⟩
set_option maxHeartbeats 4000000 in
theorem namesLetters_walk (s : ByteArray) (w : World) (hs : s.size ≤ 140737488351232) (hT : Tab w) : Calls Tryd.prog 7 #[.string s] w (Yes' w) := by
  have HT := hide hT
  by_cases h2 : 2000 < s.size
  · have h3 : (2000 : Int) < (s.size : Int) := by omega
    clear hT
    go_enter Tryd.func7, Tryd.ntmps7
    go_wp2_with (go_at_call 11; refine (alive_c w HT.out).mono ?_; rintro e w1 ⟨rfl, b1⟩; have B1 := hide b1; clear b1)
    go_ret
    exact ⟨rfl, B1.out⟩
  · have h3 : ¬ (2000 : Int) < (s.size : Int) := by omega
    have HF := hide (toOem_c s w (by omega) hT)
    have HR := hide (fun W => rtoOem_c s W (by omega))
    unfold TooOk at HF HR
    cases hto : too s.data.toList [] with
    | none =>
      rw [hto] at HF HR
      replace HF : Hid (Calls Tryd.prog 15 #[.string s] w fun e w' => e = .returned (.tuple #[.string ⟨#[]⟩, .bool false]) ∧ Below w.heap.size w w') := HF
      replace HR : Hid (∀ W, Calls Tryd.prog 18 #[.string s] W fun e w' => e = .returned (.tuple #[.string ⟨#[]⟩, .bool false]) ∧ Below W.heap.size W w') := HR
      clear hT hto
      go_enter Tryd.func7, Tryd.ntmps7
      go_wp2_with (first
        | (go_at_call 15; refine HF.out.mono ?_; rintro e w1 ⟨rfl, b1⟩; have B1 := hide b1; have HR1 := hide (HR.out w1); clear b1 HF HR)
        | (go_at_call 18; refine HR1.out.mono ?_; rintro e w2 ⟨rfl, b2⟩; have B2 := hide (B1.out.trans (b2.mono B1.out.size)); clear b2 HR1)
        | (go_at_call 11; refine (alive_c w2 (HT.out.stay B2.out)).mono ?_; rintro e w3 ⟨rfl, b3⟩; have B3 := hide (B2.out.trans (b3.mono B2.out.size)); clear b3))
      go_ret
      exact ⟨rfl, B3.out⟩
    | some x =>
      rw [hto] at HF HR
      replace HF : Hid (Calls Tryd.prog 15 #[.string s] w fun e w' => e = .returned (.tuple #[.string (tx x), .bool true]) ∧ Below w.heap.size w w') := HF
      replace HR : Hid (∀ W, Calls Tryd.prog 18 #[.string s] W fun e w' => e = .returned (.tuple #[.string (tx x), .bool true]) ∧ Below W.heap.size W w') := HR
      have hxl := too_len s.data.toList.length s.data.toList [] x (Nat.le_refl _) hto
      rw [len_eq] at hxl
      simp only [List.length_nil, Nat.zero_add] at hxl
      obtain ⟨c, hc1, hc2⟩ := fro_too s.data.toList.length s.data.toList [] x (Nat.le_refl _) hto
      rw [List.nil_append] at hc1
      subst hc1
      have HB := hide (fun W (hb : Below w.heap.size w W) => fromOem_c (tx x) W (by rw [tx_size]; omega) (hT.stay hb))
      unfold FroOk at HB
      rw [tx_list, hc2] at HB
      replace HB : Hid (∀ W, Below w.heap.size w W → Calls Tryd.prog 14 #[.string (tx x)] W fun e w' => e = .returned (.string s) ∧ Below W.heap.size W w') := HB
      generalize tx x = S at HF HR HB
      clear hT hto hxl hc2
      go_enter Tryd.func7, Tryd.ntmps7
      go_wp2_with (first
        | (go_at_call 15; refine HF.out.mono ?_; rintro e w1 ⟨rfl, b1⟩; have B1 := hide b1; have HR1 := hide (HR.out w1); clear b1 HF HR)
        | (go_at_call 18; refine HR1.out.mono ?_; rintro e w2 ⟨rfl, b2⟩; have B2 := hide (B1.out.trans (b2.mono B1.out.size)); clear b2 HR1)
        | (go_at_call 11; refine (alive_c w2 (HT.out.stay B2.out)).mono ?_; rintro e w3 ⟨rfl, b3⟩; have B3 := hide (B2.out.trans (b3.mono B2.out.size)); have HB3 := hide (HB.out w3 B3.out); clear b3 HB)
        | (go_at_call 14; refine HB3.out.mono ?_; rintro e w4 ⟨rfl, b4⟩; have B4 := hide (B3.out.trans (b4.mono B3.out.size)); clear b4 HB3))
      go_ret
      exact ⟨rfl, B4.out⟩
end Go.Proofs.YtjmhnmpnpgiaeaaDoor.E
