/- PROVED: strconv.FormatInt at base 8, of a number that is not below 0. -/
import Derived.Test.YtodkpmnkdplpiaaDoorRefPut
import Derived.Test.YtodkpmnkdplpiaaDoorFmt
namespace Go.Proofs.YtodkpmnkdplpiaaDoor
open Go Go.RowKit
set_option linter.unusedVariables false

/-- How many digits a number has in base 8. -/
def ol (v : Nat) : Nat := if h : v < 8 then 1 else ol (v / 8) + 1
  termination_by v
  decreasing_by omega
theorem ol_small {v : Nat} (h : v < 8) : ol v = 1 := by rw [ol, dif_pos h]
theorem ol_big {v : Nat} (h : ¬ v < 8) : ol v = ol (v / 8) + 1 := by rw [ol, dif_neg h]

theorem trailing_c (w : World) (hT : w.cell? ⟨5, 7, none⟩ = some (.int .u8 3)) :
    Calls Tryd.prog 80 #[.int .u64 8] w fun e w' => e = .returned (.int .i64 3) ∧ w' = w := by
  have h1 : bits .and .u64 8 (IntKind.u64.wrap (-8)) = 8 := by decide
  have h2 : IntKind.u64.wrap (8 * 285870213051353865) = 2286961704410830920 := by decide
  go_enter Tryd.func80, Tryd.ntmps80
  go_wp2_with (go_in)
  go_ret
  exact ⟨rfl, rfl⟩

theorem cell_keep {w : World} {a : Addr} {u : Value} (h : w.cell? a = some u) {o : Obj} : (w.alloc o).cell? a = some u := by
  rw [World.cell?_of_block (w := w) (Below.heap_alloc w _ _ (lt_of_cell h))]; exact h

theorem ol_le (k : Nat) : ∀ v, v < 8 ^ (k + 1) → ol v ≤ k + 1 := by
  induction k with
  | zero => intro v h; rw [ol_small (by simpa using h)]; omega
  | succ k ih =>
    intro v h
    by_cases h8 : v < 8
    · rw [ol_small h8]; omega
    · rw [ol_big h8]
      have := ih (v / 8) (by rw [Nat.pow_succ] at h; omega)
      omega
theorem ol_pos (v : Nat) : 1 ≤ ol v := by
  by_cases h8 : v < 8
  · rw [ol_small h8]; omega
  · rw [ol_big h8]; omega
/-- The digits of base 8, in 65 places. -/
def oX (v : Nat) : List UInt8 := (wri 8 v 65).map (· + 48)
theorem oX_len (v : Nat) : (oX v).length = 65 := by simp [oX, wri_length]
theorem oX_at (v k : Nat) (h : k < 65) : (oX v).getD (64 - k) 0 = UInt8.ofNat (48 + v / 8 ^ k % 8) := by
  have h2 := wri_getD 8 65 v k h
  have hl : 64 - k < (wri 8 v 65).length := by rw [wri_length]; omega
  unfold oX
  simp only [List.getD_eq_getElem?_getD, List.getElem?_map] at h2 ⊢
  rw [List.getElem?_eq_getElem hl] at h2 ⊢
  simp only [Option.getD_some, Option.map_some] at h2 ⊢
  show (wri 8 v 65)[64 - k] + 48 = _
  rw [h2]
  apply UInt8.toNat_inj.1
  rw [UInt8.toNat_add, byte_lt (by omega), byte_lt (by omega)]
  show (_ + 48) % 256 = _
  omega
theorem wri_drop (b : Nat) : ∀ (m v n : Nat), n ≤ m → (wri b v m).drop (m - n) = wri b v n
  | 0, v, n, h => by have : n = 0 := by omega
                     subst this; rfl
  | m + 1, v, 0, h => by simp [wri, wri_length]
  | m + 1, v, n + 1, h => by
    rw [wri, wri, show m + 1 - (n + 1) = m - n by omega, List.drop_append_of_le_length (by rw [wri_length]; omega), wri_drop b m (v / b) n (by omega)]
theorem oX_drop (v n : Nat) (h : n ≤ 65) : (oX v).drop (65 - n) = (wri 8 v n).map (· + 48) := by
  unfold oX
  rw [← List.map_drop, wri_drop 8 65 v n h]
theorem and7 (u : Nat) (hu : u < 18446744073709551616) : bits .and .u64 (u : Int) 7 = ((u % 8 : Nat) : Int) := by
  show IntKind.u64.wrap (((BitVec.ofInt 64 (u : Int) &&& BitVec.ofInt 64 ((7 : Nat) : Int)).toNat : Nat) : Int) = _
  rw [BitVec.toNat_and, ofInt_u64 u hu, ofInt_u64 7 (by omega), show (7 : Nat) = 2 ^ 3 - 1 from rfl, Nat.and_two_pow_sub_one_eq_mod, IntKind.wrap_u64]
  omega
theorem dig_at (q : Nat) (h : q < 8) : (⟨#[48, 49, 50, 51, 52, 53, 54, 55, 56, 57, 97, 98, 99, 100, 101, 102, 103, 104, 105, 106, 107, 108, 109, 110, 111, 112, 113, 114, 115, 116, 117, 118, 119, 120, 121, 122]⟩ : ByteArray)[q]! = UInt8.ofNat (48 + q) := by
  have : q = 0 ∨ q = 1 ∨ q = 2 ∨ q = 3 ∨ q = 4 ∨ q = 5 ∨ q = 6 ∨ q = 7 := by omega
  rcases this with rfl | rfl | rfl | rfl | rfl | rfl | rfl | rfl <;> rfl
theorem arrLen65 : Tryd.prog.arrayLen 101 = 65 := by kernel_rfl
theorem dig_get (q : Nat) (h : q < 8) (hp : q < (⟨#[48, 49, 50, 51, 52, 53, 54, 55, 56, 57, 97, 98, 99, 100, 101, 102, 103, 104, 105, 106, 107, 108, 109, 110, 111, 112, 113, 114, 115, 116, 117, 118, 119, 120, 121, 122]⟩ : ByteArray).size) : (⟨#[48, 49, 50, 51, 52, 53, 54, 55, 56, 57, 97, 98, 99, 100, 101, 102, 103, 104, 105, 106, 107, 108, 109, 110, 111, 112, 113, 114, 115, 116, 117, 118, 119, 120, 121, 122]⟩ : ByteArray)[q]'hp = UInt8.ofNat (48 + q) := by
  have := dig_at q h
  rw [getElem!_pos _ q hp] at this
  exact this
theorem zeros65 : Tryd.zeroCells101 = (List.replicate 65 (Value.int .u8 0)).toArray := by kernel_rfl

set_option maxHeartbeats 1000000 in
set_option maxRecDepth 100000 in
theorem formatBits_c (v : Nat) (hv : v ≤ 4611686018427387904) (w : World) (hT : w.cell? ⟨5, 7, none⟩ = some (.int .u8 3)) :
    Calls Tryd.prog 66 #[.slice none 0 0, .int .u64 (v : Int), .int .i64 8, .bool false, .bool false] w fun e w' => e = .returned (.tuple #[.slice none 0 0, .string ⟨((wri 8 v (ol v)).map (· + 48)).toArray⟩]) ∧ Below w.heap.size w w' := by
  have hol : ol v ≤ 22 := ol_le 21 v (Nat.lt_of_le_of_lt hv (by decide))
  obtain ⟨R, hR⟩ : ∃ R : ByteArray, R = ⟨((wri 8 v (ol v)).map (· + 48)).toArray⟩ := ⟨_, rfl⟩
  rw [← hR]
  have HR : Hid (R = ⟨((oX v).drop (65 - ol v)).toArray⟩) := by rw [hR, oX_drop v _ (by omega)]; exact rfl
  obtain ⟨n, hn⟩ : ∃ n, ol v = n := ⟨_, rfl⟩
  rw [hn] at HR hol
  have HN : Hid (ol v = n) := hn
  clear hR hn
  go_enter Tryd.func66, Tryd.ntmps66
  go_wp2_with (first | (go_at_call 80; refine (trailing_c _ (cell_keep hT)).mono ?_; rintro e w2 ⟨rfl, rfl⟩) | go_in)
  clear hT
  go_loopw [1, 13] (fun x y wr => ∃ k u : Nat, x = .int .u64 (u : Int) ∧ y = .int .i64 (65 - (k : Int)) ∧ u ≤ v ∧ k < n ∧ Hid (u = v / 8 ^ k ∧ n = k + ol u) ∧ wr.heap[w.heap.size]? = some (.cells (fil (oX v) (65 - k) 65) 101 (0, 0)) ∧ Hid (Below w.heap.size w wr)) (fun x _ _ => (intOf x).toNat)
  case atStart => exact ⟨0, v, rfl, rfl, by omega, by have := ol_pos v; rw [HN.out] at this; omega, ⟨by simp, by rw [Nat.zero_add, HN.out]⟩, by rw [Nat.sub_zero, fil_zero, oX_len, ← zeros65]; exact heap_new _ _, (Below.refl _ w).alloc (Nat.le_refl _) _⟩
  case round =>
    obtain ⟨k, u, rfl, rfl, huv, hk, hI, hb, hbw⟩ := hrel
    obtain ⟨j, hj⟩ : ∃ j : Nat, 65 - (k : Int) - 1 = j := ⟨64 - k, by omega⟩
    have hjk : j = 64 - k := by omega
    have hjl : j < (oX v).length := by rw [oX_len]; omega
    have hcell := cells_of hb j
    rw [fil_not hjl (by omega)] at hcell
    have hfree := free_of hb j
    have hj65 : j < 65 := by omega
    have hx : ((oX v).getD j 0).toNat = 48 + u % 8 := by rw [hjk, oX_at v k (by omega), byte_lt (by omega), hI.out.1]
    have ha := and7 u (by omega)
    obtain ⟨q, hq⟩ : ∃ q, u % 8 = q := ⟨_, rfl⟩
    rw [hq] at hx ha
    have hq8 : q < 8 := by omega
    have hg := dig_at q hq8
    have hgq := dig_get q hq8 (Nat.lt_of_lt_of_le hq8 (by decide))
    obtain ⟨c, hc⟩ : ∃ c, UInt8.ofNat (48 + q) = c := ⟨_, rfl⟩
    have HC : Hid (c.toNat = 48 + q) := by rw [← hc, byte_lt (by omega)]; exact rfl
    rw [hc] at hg hgq
    clear hc
    have HS : Hid ((wr.setCell ⟨w.heap.size, j, none⟩ (.int .u8 ((c.toNat : Nat) : Int))).heap[w.heap.size]? = some (.cells (fil (oX v) (65 - (k + 1)) 65) 101 (0, 0))) := by
      rw [set_of hb, HC.out, ← hx, fil_set (lo2 := 65 - (k + 1)) (hi2 := 65) hjl (by omega)]
      exact rfl
    have BS : Hid (Below w.heap.size w (wr.setCell ⟨w.heap.size, j, none⟩ (.int .u8 ((c.toNat : Nat) : Int)))) := hbw.out.setCell (p := ⟨w.heap.size, j, none⟩) (Nat.le_refl _) _
    by_cases h8 : u < 8
    · have hqu : q = u := by omega
      have HE : Hid (n = k + 1) := by rw [hI.out.2, ol_small h8]; exact rfl
      obtain ⟨m, hm⟩ : ∃ m, m = 65 - j := ⟨_, rfl⟩
      have hsl : ∀ W, (Instr.sliceAt 101 (.pointer (some ⟨w.heap.size, 0, none⟩)) (some (.int .i64 (j : Int))) none none).run Tryd.prog W = .ok (.slice (some ⟨w.heap.size, j, none⟩) m m) W := fun W => by
        rw [run_sliceAt_array_l W 101 ⟨w.heap.size, 0, none⟩ (by kernel_rfl) .i64 (j : Int) (by omega) (by rw [arrLen65]; omega)]
        rw [arrLen65, hm]
        go_simp
        omega
      have hcv : (convert 22 9 (.slice (some ⟨w.heap.size, j, none⟩) m m)).run Tryd.prog (wr.setCell ⟨w.heap.size, j, none⟩ (.int .u8 ((c.toNat : Nat) : Int))) = .ok (.string R) (wr.setCell ⟨w.heap.size, j, none⟩ (.int .u8 ((c.toNat : Nat) : Int))) := by
        have hl : ((oX v).drop j).length = m := by rw [List.length_drop, oX_len, hm]
        have h := run_convert_bytes_back (P := Tryd.prog) (wr.setCell ⟨w.heap.size, j, none⟩ (.int .u8 ((c.toNat : Nat) : Int))) 22 9 5 ⟨w.heap.size, j, none⟩ m ((oX v).drop j) Tryd.underlying22 Tryd.underlying5 Tryd.underlying9 (fun i hi => by
          rw [Lib.add_plain, cells_of HS.out, fil_at (by rw [oX_len]; omega) (by omega)]
          rw [List.getD_eq_getElem?_getD, List.getElem?_eq_getElem (by rw [oX_len]; omega), Option.getD_some, List.getElem_drop])
        rw [hl] at h
        rw [h, HR.out, HE.out, show 65 - (k + 1) = j by omega]
      clear hI hb hx hjl hq ha hjk hm
      subst hqu
      go_wp2_with fail
      go_ret2
      exact ⟨rfl, BS.out⟩
    · have HI2 : Hid (u / 8 = v / 8 ^ (k + 1) ∧ n = k + 1 + ol (u / 8)) := by
        refine ⟨by rw [hI.out.1, Nat.div_div_eq_div_mul, ← Nat.pow_succ], ?_⟩
        have := hI.out.2
        rw [ol_big h8] at this
        omega
      have hkn : k + 1 < n := by have := HI2.out.2; have := ol_pos (u / 8); omega
      have HJ : Hid ((65 : Int) - ((k + 1 : Nat) : Int) = (j : Int)) := by show _ = _; omega
      clear hI hb hx hjl hjk hq
      go_wp2_with fail
      go_roundw
      case rel => exact ⟨k + 1, u / 8, by rfl, by rw [HJ.out], by omega, hkn, HI2, HS.out, BS⟩
      case measure => simp [intOf]; omega

theorem formatInt_c (v : Nat) (hv : v ≤ 4611686018427387904) (w : World) (hT : w.cell? ⟨5, 7, none⟩ = some (.int .u8 3)) :
    Calls Tryd.prog 30 #[.int .i64 (v : Int), .int .i64 8] w fun e w' => e = .returned (.string ⟨((wri 8 v (ol v)).map (· + 48)).toArray⟩) ∧ Below w.heap.size w w' := by
  have h := formatBits_c v hv w hT
  obtain ⟨R, hR⟩ : ∃ R : ByteArray, (⟨((wri 8 v (ol v)).map (· + 48)).toArray⟩ : ByteArray) = R := ⟨_, rfl⟩
  rw [hR] at h ⊢
  clear hR
  go_enter Tryd.func30, Tryd.ntmps30
  go_wp2_with (first | (go_at_call 66; refine h.mono ?_; rintro e w2 ⟨rfl, b2⟩) | go_in)
  go_ret
  exact ⟨rfl, b2⟩
end Go.Proofs.YtodkpmnkdplpiaaDoor
