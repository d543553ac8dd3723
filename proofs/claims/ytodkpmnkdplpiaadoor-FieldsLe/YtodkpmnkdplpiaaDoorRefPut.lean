/- PROVED: contracts of the reference's PutLe, written, PutOctal. -/
import Derived.Test.YtodkpmnkdplpiaaDoorPut
import Derived.Deep.AppendLies
import Derived.Deep.QuietTactic
import Derived.BigQuiet
import Derived.Deep.RegionHeld3
import Derived.OneCell
namespace Go.Proofs.YtodkpmnkdplpiaaDoor
open Go Go.RowKit
set_option linter.unusedVariables false

theorem one_byte (w : World) (x : Value) : ∀ j u, [x][j]? = some u → (w.alloc (.cells #[x] 5)).cell? ((⟨w.heap.size, 0, none⟩ : Addr).add j) = some u := World.news_of_block (heap_new w (.cells #[x] 5))
theorem ownsRow_lt {w : World} {base : Nat} {e : TypeId} {size : Nat} {v : Value} {n : Nat} {xs : List Value} (h : w.ownsRow base e size v n xs) {g : Nat} (hg : v.ownBlock = some g) : base ≤ g := by
  obtain ⟨h1, h2⟩ := h
  rcases h2 with ⟨rfl, _⟩ | ⟨g', cap, cur, rfl, hb, hh, r⟩
  · simp [Value.ownBlock] at hg
  · simp [Value.ownBlock] at hg
    subst hg
    exact hb
theorem own_push {w : World} {base : Nat} {v : Value} {X : List UInt8} {x : UInt8} {n : Nat} (hn : n = X.length) (h : w.ownsRow base 5 1 v (n + 1) (asB X ++ [.int .u8 ((x.toNat : Nat) : Int)])) : Own w v base (X ++ [x]) := by
  subst hn
  show w.ownsRow base 5 1 v (X ++ [x]).length _
  rw [List.length_append, ← asB_app]
  exact h
theorem byte_lt {n : Nat} (h : n < 256) : (UInt8.ofNat n).toNat = n := by
  have := byte_of n
  rwa [Nat.mod_eq_of_lt h] at this
theorem own_none (w : World) (B : Nat) : Own w (.slice none 0 0) B [] := ⟨rfl, Or.inl ⟨rfl, rfl⟩⟩

set_option maxRecDepth 100000 in
theorem refPutLe_c (v : Nat) (hv : v < 18446744073709551616) (n : Int) (hn2 : -9223372036854775808 ≤ n ∧ n ≤ 9223372036854775807) (w : World) :
    Calls Tryd.prog 13 #[.int .u64 (v : Int), .int .i64 n] w fun e w' => ∃ s, e = .returned s ∧ Own w' s w.heap.size (putN v (min n 64).toNat) ∧ Below w.heap.size w w' := by
  obtain ⟨m, hm⟩ : ∃ m, m = (min n 64).toNat := ⟨_, rfl⟩
  rw [← hm]
  have hm1 : m ≤ 64 ∧ ((m : Int) = n ∨ m = 64 ∧ 64 < n ∨ m = 0 ∧ n ≤ 0) := by omega
  clear hm
  obtain ⟨i5, hi5, hz5, hs5, hb5⟩ := info5
  go_enter Tryd.func13, Tryd.ntmps13
  go_wp2_with fail
  go_loopg [0, 5, 6] m (fun g x s y wx => ∃ k : Nat, k + g = m ∧ x = .int .u64 (v / 256 ^ k : Nat) ∧ y = .int .i64 k ∧ Hid (Own wx s w.heap.size (putN v k)) ∧ Hid (Below w.heap.size w wx))
  case atStart => exact ⟨0, by omega, by simp, rfl, own_none _ _, Below.refl _ _⟩
  case round =>
    obtain ⟨k, hkg, rfl, rfl, HO, HB⟩ := hrel
    cases gk with
    | zero =>
      have hk : ¬ ((k : Int) < n ∧ k < 64) := by omega
      obtain rfl : k = m := by omega
      by_cases h1 : (k : Int) < n
      · have h2 : ¬ (k : Int) < 64 := by omega
        go_wp2_with fail
        go_ret
        exact ⟨_, rfl, HO.out, HB.out⟩
      · go_wp2_with fail
        go_ret
        exact ⟨_, rfl, HO.out, HB.out⟩
    | succ g =>
      have hk : (k : Int) < n := by omega
      have hk2 : k < 64 := by omega
      have hnx := pow_next v k
      have HP : Hid (putN v (k + 1) = putN v k ++ [UInt8.ofNat (v / 256 ^ k % 256)]) := putN_succ k v
      have hvk : v / 256 ^ k ≤ v := Nat.div_le_self _ _
      have HL : Hid ((putN v k).length = k) := putN_length v k
      obtain ⟨q, hq⟩ : ∃ q, v / 256 ^ k = q := ⟨_, rfl⟩
      rw [hq] at hvk HP hnx ⊢
      have HN : Hid (q / 256 = v / 256 ^ (k + 1)) := hnx
      have HO2 : Hid (wr.ownsRow w.heap.size 5 1 u5 k (asB (putN v k))) := by
        have := HO.out
        unfold Own at this
        rw [HL.out] at this
        exact this
      obtain ⟨P, hP⟩ : ∃ P, putN v k = P := ⟨_, rfl⟩
      rw [hP] at HO2 HL HP
      have hsz := HB.out.size
      clear hnx hq hP HO
      go_wp2_with (at_builtin; refine wpList_append_own _ rfl _ _ 22 rfl w.heap.size 5 i5 (.int .u8 0) 1 1 Tryd.underlying22 hi5 hz5 hs5 hb5 rfl (by decide) _ k (asB P) rfl (World.ownsRow.alloc HO2.out _) ⟨wr.heap.size, 0, none⟩ 1 1 [.int .u8 ((q % 256 : Nat) : Int)] rfl rfl (one_byte wr _) (by intro u hu; simp at hu; subst hu; rfl) (by unfold maxLen; omega) (by omega) (by simp; omega) ?_; intro v' w1 hown' hgrow hnil)
      go_roundg g
      case measure => omega
      case rel =>
        refine ⟨k + 1, by omega, by rw [← HN.out]; rfl, rfl, ?_, (HB.out.alloc hsz _).grown hgrow (by simp; omega) (fun g e => ownsRow_lt HO2.out e)⟩
        rw [HP.out]
        exact own_push HL.out.symm (by rw [byte_of]; exact hown')

set_option maxRecDepth 100000 in
theorem written8 (v m : Nat) (hv : v ≤ 4611686018427387904) (hm : 1 ≤ m ∧ m ≤ 63) (w : World) :
    Calls Tryd.prog 33 #[.int .i64 (v : Int), .int .i64 8, .int .i64 (m : Int)] w fun e w' => e = .returned (.tuple #[.slice (some ⟨w.heap.size, 0, none⟩) m m, .bool (decide (v / 8 ^ m = 0))]) ∧ w'.heap[w.heap.size]? = some (.cells (asB (wri 8 v m)).toArray 5 (0, 0)) ∧ Below w.heap.size w w' := by
  obtain ⟨X, hX⟩ : ∃ X, X = wri 8 v m := ⟨_, rfl⟩
  have HX : Hid (X = wri 8 v m ∧ X.length = m) := ⟨hX, by rw [hX, wri_length]⟩
  rw [← hX]
  clear hX
  have hmk := made_full m (by omega)
  go_enter Tryd.func33, Tryd.ntmps33
  go_wp2_with fail
  go_loopg [0, 9] m (fun g x y wx => ∃ k : Nat, k + g = m ∧ x = .int .i64 (v / 8 ^ k : Nat) ∧ y = .int .i64 ((m : Int) - 1 - k) ∧ wx.heap[w.heap.size]? = some (.cells (fil X (m - k) m) 5 (0, 0)) ∧ Below w.heap.size w wx)
  case atStart => exact ⟨0, by omega, by simp, by simp, by rw [Nat.sub_zero, fil_zero, HX.out.2]; exact heap_new _ _, (Below.refl _ w).alloc (Nat.le_refl _) _⟩
  case round =>
    obtain ⟨k, hkg, rfl, rfl, hb, b0⟩ := hrel
    have B0 : Hid (Below w.heap.size w wr) := b0
    clear b0
    cases gk with
    | zero =>
      have hkm : k = m := by omega
      have HB : Hid (wr.heap[w.heap.size]? = some (.cells (asB X).toArray 5 (0, 0))) := by
        rw [← fil_full, HX.out.2]
        have := hb
        rw [hkm, Nat.sub_self] at this
        exact this
      rw [hkm]
      have hm0 : ((m : Int) - 1 - (m : Int)) = -1 := by omega
      rw [hm0]
      clear hb hkm hm0
      obtain ⟨q, hq⟩ : ∃ q, v / 8 ^ m = q := ⟨_, rfl⟩
      rw [hq]
      have HQ : Hid (decide (v / 8 ^ m = 0) = ((q : Int) == 0)) := by
        rw [hq]
        show decide (q = 0) = ((q : Int) == 0)
        by_cases h0 : q = 0
        · subst h0; rfl
        · have h1 : ((q : Int) == 0) = false := by simp; omega
          rw [h1]; exact decide_eq_false h0
      clear hq
      go_wp2_with fail
      go_ret2
      exact ⟨by rw [HQ.out]; rfl, HB.out, B0.out⟩
    | succ g =>
      have hkm : k < m := by omega
      obtain ⟨j, hj⟩ : ∃ j, j = m - 1 - k := ⟨_, rfl⟩
      have hji : ((m : Int) - 1 - (k : Int)) = (j : Int) := by omega
      have hjn : ((m : Int) - 1 - ((k + 1 : Nat) : Int)) = (j : Int) - 1 := by omega
      have HJ : Hid ((m : Int) - 1 - ((k + 1 : Nat) : Int) = (j : Int) - 1) := hjn
      have hjx : j < X.length := by rw [HX.out.2]; omega
      have hjm : j < m := by omega
      have hcell := cells_of hb j
      rw [fil_not hjx (by omega)] at hcell
      have hfree := free_of hb j
      have hnx : v / 8 ^ k / 8 = v / 8 ^ (k + 1) := by rw [Nat.div_div_eq_div_mul, ← Nat.pow_succ]
      have hx : (X.getD j 0).toNat = v / 8 ^ k % 8 := by
        rw [HX.out.1, hj, wri_getD 8 m v k hkm, byte_lt (by omega)]
      have hvk : v / 8 ^ k ≤ v := Nat.div_le_self _ _
      obtain ⟨q, hq⟩ : ∃ q, v / 8 ^ k = q := ⟨_, rfl⟩
      have HS : Hid ((wr.setCell ⟨w.heap.size, j, none⟩ (.int .u8 ((q % 8 : Nat) : Int))).heap[w.heap.size]? = some (.cells (fil X (m - (k + 1)) m) 5 (0, 0))) := by
        rw [set_of hb, ← hq, ← hx, fil_set (lo2 := m - (k + 1)) (hi2 := m) hjx (by omega)]
        exact rfl
      have HN : Hid (q / 8 = v / 8 ^ (k + 1)) := by rw [← hnx, hq]; exact rfl
      have BS : Hid (Below w.heap.size w (wr.setCell ⟨w.heap.size, j, none⟩ (.int .u8 ((q % 8 : Nat) : Int)))) := B0.out.setCell (p := ⟨w.heap.size, j, none⟩) (Nat.le_refl _) _
      rw [hq] at hvk ⊢
      rw [hji]
      clear hnx hx hq hb hjx hji hjn hj
      go_wp2_with fail
      go_roundg g
      case measure => omega
      case rel => exact ⟨k + 1, by omega, by rw [← HN.out]; rfl, by rw [HJ.out], HS.out, BS.out⟩

set_option maxRecDepth 100000 in
theorem written256 (v m : Nat) (hv : v ≤ 4611686018427387904) (hm : 1 ≤ m ∧ m ≤ 63) (w : World) :
    Calls Tryd.prog 33 #[.int .i64 (v : Int), .int .i64 256, .int .i64 (m : Int)] w fun e w' => e = .returned (.tuple #[.slice (some ⟨w.heap.size, 0, none⟩) m m, .bool (decide (v / 256 ^ m = 0))]) ∧ w'.heap[w.heap.size]? = some (.cells (asB (wri 256 v m)).toArray 5 (0, 0)) ∧ Below w.heap.size w w' := by
  obtain ⟨X, hX⟩ : ∃ X, X = wri 256 v m := ⟨_, rfl⟩
  have HX : Hid (X = wri 256 v m ∧ X.length = m) := ⟨hX, by rw [hX, wri_length]⟩
  rw [← hX]
  clear hX
  have hmk := made_full m (by omega)
  go_enter Tryd.func33, Tryd.ntmps33
  go_wp2_with fail
  go_loopg [0, 9] m (fun g x y wx => ∃ k : Nat, k + g = m ∧ x = .int .i64 (v / 256 ^ k : Nat) ∧ y = .int .i64 ((m : Int) - 1 - k) ∧ wx.heap[w.heap.size]? = some (.cells (fil X (m - k) m) 5 (0, 0)) ∧ Below w.heap.size w wx)
  case atStart => exact ⟨0, by omega, by simp, by simp, by rw [Nat.sub_zero, fil_zero, HX.out.2]; exact heap_new _ _, (Below.refl _ w).alloc (Nat.le_refl _) _⟩
  case round =>
    obtain ⟨k, hkg, rfl, rfl, hb, b0⟩ := hrel
    have B0 : Hid (Below w.heap.size w wr) := b0
    clear b0
    cases gk with
    | zero =>
      have hkm : k = m := by omega
      have HB : Hid (wr.heap[w.heap.size]? = some (.cells (asB X).toArray 5 (0, 0))) := by
        rw [← fil_full, HX.out.2]
        have := hb
        rw [hkm, Nat.sub_self] at this
        exact this
      rw [hkm]
      have hm0 : ((m : Int) - 1 - (m : Int)) = -1 := by omega
      rw [hm0]
      clear hb hkm hm0
      obtain ⟨q, hq⟩ : ∃ q, v / 256 ^ m = q := ⟨_, rfl⟩
      rw [hq]
      have HQ : Hid (decide (v / 256 ^ m = 0) = ((q : Int) == 0)) := by
        rw [hq]
        show decide (q = 0) = ((q : Int) == 0)
        by_cases h0 : q = 0
        · subst h0; rfl
        · have h1 : ((q : Int) == 0) = false := by simp; omega
          rw [h1]; exact decide_eq_false h0
      clear hq
      go_wp2_with fail
      go_ret2
      exact ⟨by rw [HQ.out]; rfl, HB.out, B0.out⟩
    | succ g =>
      have hkm : k < m := by omega
      obtain ⟨j, hj⟩ : ∃ j, j = m - 1 - k := ⟨_, rfl⟩
      have hji : ((m : Int) - 1 - (k : Int)) = (j : Int) := by omega
      have hjn : ((m : Int) - 1 - ((k + 1 : Nat) : Int)) = (j : Int) - 1 := by omega
      have HJ : Hid ((m : Int) - 1 - ((k + 1 : Nat) : Int) = (j : Int) - 1) := hjn
      have hjx : j < X.length := by rw [HX.out.2]; omega
      have hjm : j < m := by omega
      have hcell := cells_of hb j
      rw [fil_not hjx (by omega)] at hcell
      have hfree := free_of hb j
      have hnx : v / 256 ^ k / 256 = v / 256 ^ (k + 1) := by rw [Nat.div_div_eq_div_mul, ← Nat.pow_succ]
      have hx : (X.getD j 0).toNat = v / 256 ^ k % 256 := by
        rw [HX.out.1, hj, wri_getD 256 m v k hkm, byte_lt (by omega)]
      have hvk : v / 256 ^ k ≤ v := Nat.div_le_self _ _
      obtain ⟨q, hq⟩ : ∃ q, v / 256 ^ k = q := ⟨_, rfl⟩
      have HS : Hid ((wr.setCell ⟨w.heap.size, j, none⟩ (.int .u8 ((q % 256 : Nat) : Int))).heap[w.heap.size]? = some (.cells (fil X (m - (k + 1)) m) 5 (0, 0))) := by
        rw [set_of hb, ← hq, ← hx, fil_set (lo2 := m - (k + 1)) (hi2 := m) hjx (by omega)]
        exact rfl
      have HN : Hid (q / 256 = v / 256 ^ (k + 1)) := by rw [← hnx, hq]; exact rfl
      have BS : Hid (Below w.heap.size w (wr.setCell ⟨w.heap.size, j, none⟩ (.int .u8 ((q % 256 : Nat) : Int)))) := B0.out.setCell (p := ⟨w.heap.size, j, none⟩) (Nat.le_refl _) _
      rw [hq] at hvk ⊢
      rw [hji]
      clear hnx hx hq hb hjx hji hjn hj
      go_wp2_with fail
      go_roundg g
      case measure => omega
      case rel => exact ⟨k + 1, by omega, by rw [← HN.out]; rfl, by rw [HJ.out], HS.out, BS.out⟩

end Go.Proofs.YtodkpmnkdplpiaaDoor
