/- Letters of old, the reference's: contracts. -/
import Derived.Test.YtjmhnmpnpgiaeaaDoorEToP
import Derived.Test.YtjmhnmpnpgiaeaaDoorERef
import Derived.Great.BuildSlice
namespace Go.Proofs.YtjmhnmpnpgiaeaaDoor.E
set_option maxRecDepth 100000
open Go Go.RowKit
set_option linter.unusedVariables false

def tblZ : List Int := tbl.map Int.ofNat
def tblA : Array Value := (tblZ.map (Value.int .i64)).toArray
theorem tblA_at {k : Nat} (h : k < 128) : tblA[k]? = some (.int .i64 (tb k : Nat)) := by
  have hl := tbl_len
  rw [tblA, tblZ, List.getElem?_toArray, List.getElem?_map, List.getElem?_map, List.getElem?_eq_getElem (by omega), tb, List.getD, List.getElem?_eq_getElem (by omega)]
  rfl
def OemOk (w : World) (e : Ending) (w' : World) : Prop := ∃ g c, e = .returned (.slice (some ⟨g, 0, none⟩) 128 c) ∧ g < w'.heap.size ∧ (∀ k, k < 128 → w'.cell? ⟨g, k, none⟩ = some (.int .i64 (tb k : Nat))) ∧ Below w.heap.size w w'
theorem OemOk.mk (w : World) (c : Nat) (A : Array Value) (hA : A = tblA) : OemOk w (.returned (.slice (some ⟨w.heap.size, 0, none⟩) 128 c)) (w.alloc (.cells A 3)) :=
  ⟨_, _, rfl, by simp, fun k hk => by rw [cells_of (heap_new w _), hA]; exact tblA_at hk, (Below.refl _ w).alloc (Nat.le_refl _) _⟩
set_option maxHeartbeats 4000000 in
theorem roem_c (w : World) : Calls Tryd.prog 28 #[] w (OemOk w) := by
  go_enter Tryd.func28, Tryd.ntmps28
  go_wp2_with (refine wpList_buildFlat rfl 47 3 128 _ rfl .i64 tblZ Tryd.underlying47 (by kernel_rfl) (by kernel_rfl) (by kernel_rfl) (by decide) (by decide) (by kernel_rfl) ?_)
  go_ret
  exact OemOk.mk w _ _ rfl
theorem conv_new1 (w : World) (a : Nat) (ha : a < 256) (c : Nat) : (convert 33 9 (.slice (some ⟨w.heap.size, 0, none⟩) 1 c)).run Tryd.prog (w.alloc (.cells #[.int .u8 (a : Int)] 5)) = .ok (.string (tx [UInt8.ofNat a])) (w.alloc (.cells #[.int .u8 (a : Int)] 5)) :=
  run_convert_bytes_back _ 33 9 5 ⟨w.heap.size, 0, none⟩ c [UInt8.ofNat a] Tryd.underlying33 Tryd.underlying5 Tryd.underlying9 (fun j hj => by
    have h0 : j = 0 := by simpa using hj
    subst h0
    rw [addr_plain, Nat.zero_add, cells_of (heap_new w _)]
    simp only [List.getElem_cons_zero, u8 ha]
    rfl)
theorem conv_new2 (w : World) (a b : Nat) (ha : a < 256) (hb : b < 256) (c : Nat) : (convert 33 9 (.slice (some ⟨w.heap.size, 0, none⟩) 2 c)).run Tryd.prog (w.alloc (.cells #[.int .u8 (a : Int), .int .u8 (b : Int)] 5)) = .ok (.string (tx [UInt8.ofNat a, UInt8.ofNat b])) (w.alloc (.cells #[.int .u8 (a : Int), .int .u8 (b : Int)] 5)) :=
  run_convert_bytes_back _ 33 9 5 ⟨w.heap.size, 0, none⟩ c [UInt8.ofNat a, UInt8.ofNat b] Tryd.underlying33 Tryd.underlying5 Tryd.underlying9 (fun j hj => by
    have h0 : j = 0 ∨ j = 1 := by simp at hj; omega
    rw [addr_plain, Nat.zero_add, cells_of (heap_new w _)]
    rcases h0 with rfl | rfl
    · simp only [List.getElem_cons_zero, u8 ha]; rfl
    · simp only [List.getElem_cons_succ, List.getElem_cons_zero, u8 hb]; rfl)
theorem conv_new3 (w : World) (a b d : Nat) (ha : a < 256) (hb : b < 256) (hd : d < 256) (c : Nat) : (convert 33 9 (.slice (some ⟨w.heap.size, 0, none⟩) 3 c)).run Tryd.prog (w.alloc (.cells #[.int .u8 (a : Int), .int .u8 (b : Int), .int .u8 (d : Int)] 5)) = .ok (.string (tx [UInt8.ofNat a, UInt8.ofNat b, UInt8.ofNat d])) (w.alloc (.cells #[.int .u8 (a : Int), .int .u8 (b : Int), .int .u8 (d : Int)] 5)) :=
  run_convert_bytes_back _ 33 9 5 ⟨w.heap.size, 0, none⟩ c [UInt8.ofNat a, UInt8.ofNat b, UInt8.ofNat d] Tryd.underlying33 Tryd.underlying5 Tryd.underlying9 (fun j hj => by
    have h0 : j = 0 ∨ j = 1 ∨ j = 2 := by simp at hj; omega
    rw [addr_plain, Nat.zero_add, cells_of (heap_new w _)]
    rcases h0 with rfl | rfl | rfl
    · simp only [List.getElem_cons_zero, u8 ha]; rfl
    · simp only [List.getElem_cons_succ, List.getElem_cons_zero, u8 hb]; rfl
    · simp only [List.getElem_cons_succ, List.getElem_cons_zero, u8 hd]; rfl)
theorem w8 {n : Nat} (h : n < 256) : IntKind.u8.wrap (n : Int) = (n : Int) := by simp [IntKind.wrap, IntKind.signed, IntKind.bits]; omega
set_option maxHeartbeats 4000000 in
theorem written_c (v : Nat) (hv : v < 65536) (w : World) : Calls Tryd.prog 29 #[.int .i64 (v : Int)] w fun e w' => e = .returned (.string (tx (enc v))) ∧ Below w.heap.size w w' := by
  rcases Nat.lt_or_ge v 128 with h1 | h1
  · have hc := conv_new1 w v (by omega)
    have e8 : (v : Int) % 256 = (v : Int) := by omega
    rw [enc_1 h1]
    go_enter Tryd.func29, Tryd.ntmps29
    go_wp2_with fail
    go_ret
    exact ⟨rfl, (Below.refl _ w).alloc (Nat.le_refl _) _⟩
  · have n1 : ¬ (v : Int) < 128 := by omega
    rcases Nat.lt_or_ge v 2048 with h2 | h2
    · obtain ⟨A, hA⟩ : ∃ A, A = 192 + v / 64 := ⟨_, rfl⟩
      obtain ⟨B, hB⟩ : ∃ B, B = 128 + v % 64 := ⟨_, rfl⟩
      have hc := conv_new2 w A B (by omega) (by omega)
      rw [enc_2 h1 h2, ← hA, ← hB]
      have i1 : 192 + (v : Int) / 64 = (A : Int) := by omega
      have i2 : 128 + (v : Int) % 64 = (B : Int) := by omega
      have a8 : A < 256 := by omega
      have b8 : B < 256 := by omega
      have e1 : (A : Int) % 256 = (A : Int) := by omega
      have e2 : (B : Int) % 256 = (B : Int) := by omega
      clear hA hB
      go_enter Tryd.func29, Tryd.ntmps29
      go_wp2_with fail
      go_ret
      exact ⟨rfl, (Below.refl _ w).alloc (Nat.le_refl _) _⟩
    · have n2 : ¬ (v : Int) < 2048 := by omega
      obtain ⟨A, hA⟩ : ∃ A, A = 224 + v / 4096 := ⟨_, rfl⟩
      obtain ⟨B, hB⟩ : ∃ B, B = 128 + v / 64 % 64 := ⟨_, rfl⟩
      obtain ⟨C, hC⟩ : ∃ C, C = 128 + v % 64 := ⟨_, rfl⟩
      have hc := conv_new3 w A B C (by omega) (by omega) (by omega)
      rw [enc_3 h2, ← hA, ← hB, ← hC]
      have i1 : 224 + (v : Int) / 4096 = (A : Int) := by omega
      have i2 : 128 + (v : Int) / 64 % 64 = (B : Int) := by omega
      have i3 : 128 + (v : Int) % 64 = (C : Int) := by omega
      have a8 : A < 256 := by omega
      have b8 : B < 256 := by omega
      have c8 : C < 256 := by omega
      have e1 : (A : Int) % 256 = (A : Int) := by omega
      have e2 : (B : Int) % 256 = (B : Int) := by omega
      have e3 : (C : Int) % 256 = (C : Int) := by omega
      clear hA hB hC
      go_enter Tryd.func29, Tryd.ntmps29
      go_wp2_with fail
      go_ret
      exact ⟨rfl, (Below.refl _ w).alloc (Nat.le_refl _) _⟩

set_option maxHeartbeats 4000000 in
theorem rfromOem_c (s : ByteArray) (w : World) (hl : s.size ≤ 1000000000) : Calls Tryd.prog 16 #[.string s] w (FroOk s.data.toList w) := by
  have HO := hide (roem_c w)
  have HLS := hide (len_eq s)
  have HSM := hide hl
  have HG := hide (show ∀ i (hi : i < s.size), (s[i]'hi).toNat = bt s.data.toList i from fun i hi => get_bt s i hi)
  obtain ⟨l, hl2⟩ : ∃ l, l = s.data.toList := ⟨_, rfl⟩
  rw [← hl2] at HLS HG ⊢
  clear hl2
  go_enter Tryd.func16, Tryd.ntmps16
  go_upto_region 3 with (go_at_call 28; refine HO.out.mono ?_; rintro e w1 ⟨g, c, rfl, hg1, hcs, b1⟩; have HGL := hide hg1; have HC := hide hcs; have B1 := hide b1; clear hg1 hcs b1 HO)
  go_wp2_with fail
  go_loopg [3, 5] s.size (fun gk u3 u5 wx => ∃ i : Nat, i + gk = s.size ∧ u5 = .int .i64 (i : Int) ∧ u3 = .string (tx (fro (l.take i))) ∧ Hid (Below w1.heap.size w1 wx))
  case atStart => exact ⟨0, by omega, rfl, rfl, Below.refl _ _⟩
  case round =>
    obtain ⟨i, hg, rfl, rfl, BX⟩ := hrel
    cases gk with
    | zero =>
      obtain rfl : i = s.size := by omega
      have hge : ¬ (s.size : Int) < (s.size : Int) := by omega
      have HTK : Hid (l.take s.size = l) := hide (List.take_of_length_le (by rw [HLS.out]; exact Nat.le_refl _))
      go_wp2_with fail
      go_ret
      exact ⟨by rw [HTK.out]; rfl, B1.out.trans (BX.out.mono B1.out.size)⟩
    | succ g1 =>
      have hi : i < s.size := by omega
      have hlt : (i : Int) < (s.size : Int) := by omega
      have hi0 : (0 : Int) ≤ (i : Int) := by omega
      have h64 : i ≤ 1000000000 := by have := HSM.out; omega
      have hix := HG.out i hi
      obtain ⟨x, hx⟩ : ∃ x, x = l.getD i 0 := ⟨_, rfl⟩
      rw [of_bt, ← hx] at hix
      have hx8 := x.toNat_lt
      have hch := chL_lt x
      have HW := hide (fun W => written_c (chL x) (by omega) W)
      have hadd : ∀ W, (Op.stringOp .add (tx (fro (l.take i))) (tx (enc (chL x)))).run Tryd.prog W = .ok (.string (tx (fro (l.take (i + 1))))) W := fun W => by
        have h1 := fro_len (l.take i)
        have h2 := enc_len (chL x)
        rw [List.length_take] at h1
        rw [add_tx _ _ (by omega) W, take_one l i (by rw [HLS.out]; exact hi), fro_app, ← hx, fro_one]
      by_cases h128 : x.toNat < 128
      · rw [show chL x = x.toNat from if_pos h128] at HW hadd
        have n1 : ¬ (128 : Int) ≤ (x.toNat : Int) := by omega
        clear hx hch
        generalize x.toNat = v at hix HW hadd n1 h128 hx8
        go_wp2_with (go_at_call 29; refine (HW.out wr).mono ?_; rintro e w2 ⟨rfl, b2⟩; have B2 := hide (BX.out.trans (b2.mono BX.out.size)); clear b2)
        go_roundg g1
        case measure => omega
        case rel => exact ⟨i + 1, by omega, by go_num, rfl, B2⟩
      · obtain ⟨m, hm⟩ : ∃ m, x.toNat = 128 + m := ⟨x.toNat - 128, by omega⟩
        rw [show chL x = tb m by rw [chL, if_neg h128, hm, Nat.add_sub_cancel_left]] at HW hadd hch
        have hcell := (BX.out.cell (p := ⟨g, m, none⟩) HGL.out).trans (HC.out m (by omega))
        obtain ⟨V, hV⟩ : ∃ V, V = x.toNat := ⟨_, rfl⟩
        rw [← hV] at hix hm hx8
        have n1 : (128 : Int) ≤ (V : Int) := by omega
        have n2 : (V : Int) - 128 = (m : Int) := by omega
        have n3 : (0 : Int) ≤ (m : Int) ∧ (m : Int) < 128 := by omega
        have n4 : V < 256 := by omega
        clear hx hm h128 hV hx8
        generalize tb m = t at HW hadd hch hcell
        go_wp2_with (go_at_call 29; refine (HW.out wr).mono ?_; rintro e w2 ⟨rfl, b2⟩; have B2 := hide (BX.out.trans (b2.mono BX.out.size)); clear b2)
        go_roundg g1
        case measure => omega
        case rel => exact ⟨i + 1, by omega, by go_num, rfl, B2⟩
end Go.Proofs.YtjmhnmpnpgiaeaaDoor.E
