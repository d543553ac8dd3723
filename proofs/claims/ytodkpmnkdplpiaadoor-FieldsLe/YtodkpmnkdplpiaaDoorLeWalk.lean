/- PROVED: the walk of the law FieldsLe. -/
import Derived.Test.YtodkpmnkdplpiaaDoorLaidTab
namespace Go.Proofs.YtodkpmnkdplpiaaDoor
open Go Go.RowKit
set_option linter.unusedVariables false

theorem tabs_drew {w : World} (h : Tabs w) : Tabs w.drew := h
theorem bs_drew {w : World} {v : Value} {xs : List UInt8} (h : Bs w v xs) : Bs w.drew v xs := h

set_option maxHeartbeats 4000000 in
set_option maxRecDepth 100000 in
theorem le_walk (b : Value) (xs : List UInt8) (hl : xs.length ≤ 9223372036854775807) (v : Nat) (hv : v < 18446744073709551616) (n : Int) (hn : -9223372036854775808 ≤ n ∧ n ≤ 9223372036854775807) (w : World) (hT : Tabs w) (hb : Bs w b xs) :
    Calls Tryd.prog 3 #[b, .int .u64 (v : Int), .int .i64 n] w fun e w' => e = .returned (.bool true) ∧ Below w.heap.size w w' := by
  have HT : Hid (Tabs w) := hT
  have HB : Hid (Bs w b xs) := hb
  have h1 : Hid (∀ W, Bs W b xs → Calls Tryd.prog 10 #[b] W fun e w' => e = .returned (.int .u64 (leN (xs.take 8) : Nat)) ∧ w' = W) := fun W h => le_c b xs hl W h
  have h2 : Hid (∀ W, Bs W b xs → Calls Tryd.prog 11 #[b] W fun e w' => e = .returned (.int .u64 (leN (xs.take 8) : Nat)) ∧ w' = W) := fun W h => refLe_c b xs hl W h
  have h3 : Hid (∀ W, Calls Tryd.prog 12 #[.int .u64 (v : Int), .int .i64 n] W fun e w' => ∃ s, e = .returned s ∧ Own w' s W.heap.size (putN v (min n 64).toNat) ∧ Below W.heap.size W w') := fun W => putLe_c v hv n hn W
  have h4 : Hid (∀ W, Calls Tryd.prog 13 #[.int .u64 (v : Int), .int .i64 n] W fun e w' => ∃ s, e = .returned s ∧ Own w' s W.heap.size (putN v (min n 64).toNat) ∧ Below W.heap.size W w') := fun W => refPutLe_c v hv n hn W
  have h5 : Hid (∀ W, Calls Tryd.prog 12 #[.int .u64 (v : Int), .int .i64 8] W fun e w' => ∃ s, e = .returned s ∧ Own w' s W.heap.size (putN v 8) ∧ Below W.heap.size W w') := fun W => putLe_c v hv 8 (by omega) W
  have h6 : Hid (∀ W s, Bs W s (putN v 8) → Calls Tryd.prog 10 #[s] W fun e w' => e = .returned (.int .u64 (v : Int)) ∧ w' = W) := fun W s h => by
    have := le_c s _ (by rw [putN_length]; omega) W h
    rw [le_back v hv] at this
    exact this
  generalize leN (xs.take 8) = L at h1 h2
  generalize putN v (min n 64).toNat = X at h3 h4
  generalize putN v 8 = Y at h5 h6
  obtain ⟨S, hS⟩ : ∃ S : ByteArray, (⟨X.toArray⟩ : ByteArray) = S := ⟨_, rfl⟩
  have HS : Hid ((⟨X.toArray⟩ : ByteArray) = S) := hS
  clear hS hT hb hl
  go_enter Tryd.func3, Tryd.ntmps3
  go_wp2_with fail
  go_region_with (first
    | (go_at_call 9; go_fit (alive_c _ (tabs_drew HT.out)); rintro e w2 ⟨rfl, b2⟩; have B2 : Hid (Below w.heap.size w w2) := (Below.refl _ w).drew.trans b2; have K2 : Hid (Bs w2 b xs) := bs_keep B2.out HB.out (Nat.le_refl _); clear b2)
    | (go_at_call 10; first
      | (go_fit (h1.out _ K2.out); rintro e wq ⟨rfl, hwq⟩; obtain rfl : w2 = wq := hwq.symm)
      | (go_fit (h6.out _ _ (own_bs O5.out)); rintro e wq ⟨rfl, hwq⟩; obtain rfl : w5 = wq := hwq.symm))
    | (go_at_call 11; go_fit (h2.out _ K2.out); rintro e wq ⟨rfl, hwq⟩; obtain rfl : w2 = wq := hwq.symm)
    | (go_at_call 12; first
      | (go_fit (h3.out _); rintro e w3 ⟨s3, rfl, o3, b3⟩; have O3 : Hid (Own w3 s3 w2.heap.size X) := o3; have hc3 := conv_bs (own_bs o3); rw [HS.out] at hc3; have B3 : Hid (Below w.heap.size w w3) := B2.out.trans (b3.mono B2.out.size); clear o3 b3)
      | (go_fit (h5.out _); rintro e w5 ⟨s5, rfl, o5, b5⟩; have O5 : Hid (Own w5 s5 w4.heap.size Y) := o5; have B5 : Hid (Below w.heap.size w w5) := B4.out.trans (b5.mono B4.out.size); clear o5 b5))
    | (go_at_call 13; go_fit (h4.out _); rintro e w4 ⟨s4, rfl, o4, b4⟩; have hc4 := conv_bs (own_bs o4); rw [HS.out] at hc4; have hc5 := conv_bs (bs_keep b4 (own_bs O3.out) (Nat.le_refl _)); rw [HS.out] at hc5; have B4 : Hid (Below w.heap.size w w4) := B3.out.trans (b4.mono B3.out.size); clear o4 b4))
  all_goals go_wp2_with fail
  all_goals go_ret
  all_goals exact ⟨rfl, B5.out⟩
end Go.Proofs.YtodkpmnkdplpiaaDoor
