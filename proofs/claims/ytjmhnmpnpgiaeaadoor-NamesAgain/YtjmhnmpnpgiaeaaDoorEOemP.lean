/- Letters of old, the program's: contracts. -/
import Derived.Test.YtjmhnmpnpgiaeaaDoorEPar
import Derived.Lib.RuneBytes
import Derived.Lib.OthersKept
import Derived.Deep.WholeRow
namespace Go.Proofs.YtjmhnmpnpgiaeaaDoor.E
set_option maxRecDepth 100000
open Go Go.RowKit
set_option linter.unusedVariables false

/-- The table, as the program's text lays it. -/
def Tab (w : World) : Prop := ∀ i, i < 128 → w.cell? ⟨0, i, none⟩ = some (.int .i32 (tb i : Nat))
theorem Tab.pos {w : World} (h : Tab w) : 0 < w.heap.size := lt_of_cell (h 0 (by decide))
theorem Tab.below {B : Nat} {w w' : World} (h : Tab w) (hB : 0 < B) (k : Below B w w') : Tab w' := fun i hi => (k.cell (p := ⟨0, i, none⟩) hB).trans (h i hi)
theorem Tab.stay {w w' : World} (h : Tab w) (k : Below w.heap.size w w') : Tab w' := h.below h.pos k
theorem oemLetter_c (x : UInt8) (w : World) (hT : Tab w) : Calls Tryd.prog 25 #[.int .u8 (x.toNat : Int)] w fun e w' => e = .returned (.int .i32 (chL x : Nat)) ∧ w' = w := by
  have hx := x.toNat_lt
  by_cases h : x.toNat < 128
  · have hc : chL x = x.toNat := if_pos h
    rw [hc]
    generalize x.toNat = v at h hx
    clear hc hT
    go_enter Tryd.func25, Tryd.ntmps25
    go_wp2_with fail
    go_ret
    exact ⟨by first | rfl | (congr 2; simp; omega), rfl⟩
  · have hc : chL x = tb (x.toNat - 128) := if_neg h
    have hcell := hT (x.toNat - 128) (by omega)
    rw [hc]
    obtain ⟨m, hm⟩ : ∃ m, x.toNat = m + 128 := ⟨x.toNat - 128, by omega⟩
    rw [hm, Nat.add_sub_cancel] at hcell
    rw [hm, Nat.add_sub_cancel]
    have hm0 : (0 : Int) ≤ (m : Int) ∧ (m : Int) < 128 := by omega
    have hn : ¬ ((m + 128 : Nat) : Int) < 128 := by omega
    have e1 : ((m + 128 : Nat) : Int) - 128 = (m : Int) := by omega
    obtain ⟨V, hV⟩ : ∃ V, V = m + 128 := ⟨_, rfl⟩
    rw [← hV] at hn e1 ⊢
    have hV1 : V < 256 := by omega
    have hV2 : 128 ≤ V := by omega
    clear hc hT hV hm h hx
    go_enter Tryd.func25, Tryd.ntmps25
    go_wp2_with fail
    go_ret
    exact ⟨rfl, rfl⟩
/-- The byte of a letter, or none. -/
def InvOk (v : Nat) (w : World) (e : Ending) (w' : World) : Prop := e = .returned (.tuple #[.int .u8 (((inv v).getD 0 : Nat) : Int), .bool (inv v).isSome]) ∧ w' = w
set_option maxHeartbeats 4000000 in
theorem oemByte_c (v : Nat) (w : World) (hv : v ≤ 1114111) (hT : Tab w) : Calls Tryd.prog 27 #[.int .i32 (v : Int)] w (InvOk v w) := by
  by_cases h : v < 128
  · have HO : Hid (InvOk v w (.returned (.tuple #[.int .u8 (v : Int), .bool true])) w) := hide (by unfold InvOk; rw [inv_small h]; exact ⟨rfl, rfl⟩)
    generalize InvOk v w = PO at HO ⊢
    clear hT
    have hw8 : IntKind.u8.wrap (v : Int) = (v : Int) := by simp [IntKind.wrap, IntKind.signed, IntKind.bits]; omega
    go_enter Tryd.func27, Tryd.ntmps27
    go_wp2_with fail
    exact HO.out
  · have hn : ¬ (v : Int) < 128 := by omega
    have HNO : Hid ((∀ k, k < 128 → tb k ≠ v) → InvOk v w (.returned (.tuple #[.int .u8 0, .bool false])) w) := hide fun q => by unfold InvOk; rw [inv_no (by omega) q]; exact ⟨rfl, rfl⟩
    have HY : Hid (∀ k, k < 128 → tb k = v → InvOk v w (.returned (.tuple #[.int .u8 ((128 + k : Nat) : Int), .bool true])) w) := hide fun k hk q => by unfold InvOk; rw [← q, inv_at hk]; exact ⟨rfl, rfl⟩
    have HT := hide hT
    have HB := hide (fun k h => tb_bd (i := k) h)
    generalize InvOk v w = PO at HNO HY ⊢
    clear hT h
    go_enter Tryd.func27, Tryd.ntmps27
    go_wp2_with fail
    go_loopg [9] 128 (fun gk u9 wx => wx = w ∧ ∃ k : Nat, k + gk = 128 ∧ u9 = .int .i64 (k : Int) ∧ Hid (∀ j, j < k → tb j ≠ v))
    case atStart => exact ⟨rfl, 0, by omega, rfl, fun j hj => by omega⟩
    case round =>
      obtain ⟨hw, k, hg, rfl, HZ⟩ := hrel
      subst hw
      cases gk with
      | zero =>
        obtain rfl : k = 128 := by omega
        have hge : ¬ ((128 : Nat) : Int) < 128 := by omega
        have HF := hide (HNO.out HZ.out)
        clear HNO HY HZ HB
        go_wp2_with fail
        exact HF.out
      | succ g1 =>
        have hk : k < 128 := by omega
        have hlt : (k : Int) < 128 := by omega
        have hk0 : (0 : Int) ≤ (k : Int) := by omega
        have hcell := HT.out k hk
        have hb := HB.out k hk
        by_cases hz : tb k = v
        · have HF := hide (HY.out k hk hz)
          rw [hz] at hcell
          have hw8 : IntKind.u8.wrap (128 + (k : Int)) = ((128 + k : Nat) : Int) := by simp [IntKind.wrap, IntKind.signed, IntKind.bits]; omega
          have hc8 : (128 + (k : Int)) = ((128 + k : Nat) : Int) := by omega
          have h8 : 128 + k < 256 := by omega
          generalize 128 + k = m at hw8 HF hc8 h8
          clear HNO HY HZ HB hz hb
          go_wp2_with fail
          exact HF.out
        · have HZ1 : Hid (∀ j, j < k + 1 → tb j ≠ v) := hide fun j hj => by
            rcases Nat.lt_or_ge j k with h | h
            · exact HZ.out j h
            · obtain rfl : j = k := by omega
              exact hz
          generalize tb k = t at hz hcell hb
          have hne : ¬ (t : Int) = (v : Int) := by omega
          have hnb : ((t : Int) == (v : Int)) = false := by simpa using hne
          clear hz HZ hb
          go_wp2_with fail
          go_roundg g1
          case measure => omega
          case rel => exact ⟨rfl, k + 1, by omega, by go_num, HZ1⟩
theorem enc_rune {v : Nat} (h : v < 55296) : Lib.encodeRune (v : Int) = enc v := by
  unfold Lib.encodeRune
  rcases Nat.lt_or_ge v 128 with h1 | h1
  · rw [Lib.encodeRuneZ_one (by omega) (by omega), enc_1 h1]
    rfl
  · rcases Nat.lt_or_ge v 2048 with h2 | h2
    · rw [Lib.encodeRuneZ_two (by omega) (by omega), enc_2 h1 h2]
      simp only [List.map_cons, List.map_nil]
      rw [show (192 + (v : Int) / 64).toNat = 192 + v / 64 by omega, show (128 + (v : Int) % 64).toNat = 128 + v % 64 by omega]
    · rw [Lib.encodeRuneZ_three (by omega), enc_3 h2]
      simp only [List.map_cons, List.map_nil]
      rw [show (224 + (v : Int) / 4096).toNat = 224 + v / 4096 by omega, show (128 + (v : Int) / 64 % 64).toNat = 128 + v / 64 % 64 by omega, show (128 + (v : Int) % 64).toNat = 128 + v % 64 by omega]
theorem bc_len (l : List UInt8) : (Lib.byteCells l).length = l.length := by simp [Lib.byteCells]
theorem bc_app (a b : List UInt8) : Lib.byteCells (a ++ b) = Lib.byteCells a ++ Lib.byteCells b := by simp [Lib.byteCells]
theorem take_one (l : List UInt8) (i : Nat) (h : i < l.length) : l.take (i + 1) = l.take i ++ [l.getD i 0] := by
  rw [List.take_succ_eq_append_getElem h, List.getD, List.getElem?_eq_getElem h, Option.getD_some]
theorem fro_one (x : UInt8) : fro [x] = enc (chL x) := by rw [fro, fro, List.append_nil]
theorem of_bt (l : List UInt8) (i : Nat) : bt l i = (l.getD i 0).toNat := rfl
def FroOk (l : List UInt8) (w : World) (e : Ending) (w' : World) : Prop := e = .returned (.string (tx (fro l))) ∧ Below w.heap.size w w'

set_option maxHeartbeats 4000000 in
theorem fromOem_c (s : ByteArray) (w : World) (hl : s.size ≤ 1000000000) (hT : Tab w) : Calls Tryd.prog 14 #[.string s] w (FroOk s.data.toList w) := by
  have HT := hide hT
  have HLS := hide (len_eq s)
  have HG := hide (show ∀ i (hi : i < s.size), (s[i]'hi).toNat = bt s.data.toList i from fun i hi => get_bt s i hi)
  obtain ⟨l, hl2⟩ : ∃ l, l = s.data.toList := ⟨_, rfl⟩
  rw [← hl2] at HLS HG ⊢
  have HI0 : Hid (Lib.IsBuilderF 38 5 w.heap.size w.heap.size (Lib.byteCells (fro (l.take 0))) (w.alloc (.cells #[.pointer none, .slice none 0 0] 38))) := hide (Lib.IsBuilderF.of (.inl ⟨Nat.le_refl _, _, heap_new w _, World.ownsRow_nil _ _ _ _, by simp [Value.ownBlock]⟩))
  have B0 := hide ((Below.refl _ w).alloc (Nat.le_refl _) (.cells #[.pointer none, .slice none 0 0] 38) : Below w.heap.size w _)
  have hz : ∀ w, (zeroValue 38).run Tryd.prog w = .ok (.agg #[.pointer none, .slice none 0 0]) w := (zero_of_info (n := 2) (by kernel_rfl)).1
  clear hT hl2
  go_enter Tryd.func14, Tryd.ntmps14
  go_wp2_with fail
  obtain ⟨b, hb⟩ : ∃ b, b = w.heap.size := ⟨_, rfl⟩
  rw [← hb] at HI0 B0 ⊢
  have HB := hide hb
  generalize w.alloc (.cells #[.pointer none, .slice none 0 0] 38) = wz at HI0 B0 ⊢
  have hbt : Hid (0 < b) := hide (by rw [hb]; exact HT.out.pos)
  clear hb
  go_loopg [7] s.size (fun gk u7 wx => ∃ i : Nat, i + gk = s.size ∧ u7 = .int .i64 (i : Int) ∧ Hid (Lib.IsBuilderF 38 5 b b (Lib.byteCells (fro (l.take i))) wx) ∧ Hid (Below b w wx))
  case atStart => exact ⟨0, by omega, rfl, HI0, B0⟩
  case round =>
    obtain ⟨i, hg, rfl, IX, BX⟩ := hrel
    clear HI0 B0
    have hbx : Hid (b ≤ wr.heap.size) := hide (Nat.le_trans (Nat.le_of_eq HB.out) BX.out.size)
    cases gk with
    | zero =>
      obtain rfl : i = s.size := by omega
      have hge : ¬ (s.size : Int) < (s.size : Int) := by omega
      have HS := hide (sh_Builder_String_any_k b b (fro (l.take s.size)) wr IX.out hbx.out)
      have HTK : Hid (l.take s.size = l) := hide (List.take_of_length_le (by rw [HLS.out]; exact Nat.le_refl _))
      clear IX
      go_wp2_with (go_at_call 26; refine HS.out.mono ?_; rintro e w2 ⟨rfl, _, b2, _⟩; have B2 := hide b2; clear b2 HS)
      go_ret
      refine ⟨?_, ?_⟩
      · rw [HTK.out]; rfl
      · rw [← HB.out]; exact BX.out.trans B2.out
    | succ g1 =>
      have hi : i < s.size := by omega
      have hlt : (i : Int) < (s.size : Int) := by omega
      have hi0 : (0 : Int) ≤ (i : Int) := by omega
      have hix := HG.out i hi
      obtain ⟨x, hx⟩ : ∃ x, x = l.getD i 0 := ⟨_, rfl⟩
      rw [of_bt, ← hx] at hix
      have HOL := hide (oemLetter_c x wr (HT.out.below hbt.out BX.out))
      have hch := chL_lt x
      have HW := hide (sh_Builder_WriteRune_k b b (Lib.byteCells (fro (l.take i))) (chL x : Nat) (by omega) (by omega) wr IX.out (by rw [bc_len]; have := fro_len (l.take i); rw [List.length_take] at this; omega) hbx.out)
      have HNX : Hid (Lib.byteCells (fro (l.take i)) ++ Lib.runeCells (chL x : Nat) = Lib.byteCells (fro (l.take (i + 1)))) := hide (by
        rw [take_one l i (by rw [HLS.out]; exact hi), fro_app, ← hx, fro_one, bc_app, ← enc_rune hch, Lib.byteCells_encodeRune])
      rw [HNX.out] at HW
      clear IX hx HNX
      generalize chL x = v at HOL hch HW
      generalize x.toNat = xn at hix HOL
      go_wp2_with (first
        | (go_at_call 25; refine HOL.out.mono ?_; rintro e wq ⟨rfl, hw⟩; obtain rfl := hw.symm; clear HOL)
        | (go_at_call 24; refine HW.out.mono ?_; rintro e w2 ⟨rfl, h2, b2, _⟩; have I2 := hide (Or.inr h2 : Lib.IsBuilderF 38 5 b b _ w2); have B2 := hide (BX.out.trans b2); clear h2 b2 HW))
      go_roundg g1
      case measure => omega
      case rel => exact ⟨i + 1, by omega, by go_num, I2, B2⟩
end Go.Proofs.YtjmhnmpnpgiaeaaDoor.E
