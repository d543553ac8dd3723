/- The reference's reader: New, Left, Bits, Align, Take: contracts. -/
import Derived.Test.YtamkjlihlnejoaaBackMath
namespace Go.Proofs.Ytamkjlihlnejoaa
open Go.RowKit

theorem refNew_any (B : Nat) (a : Option Addr) (len cap : Nat) (zs : List Int) (w : World) (ht : Text B w a len zs) (hl : len ≤ 1000000000000) (hB : B ≤ w.heap.size) :
    Calls Try.prog 10 #[.slice a len cap] w fun e w' => ∃ v, e = .returned (.agg #[v, .int .i64 0]) ∧ Owns w' w.heap.size v (rowOf zs) ∧ Below w.heap.size w w' := by
  have T1 : Hid (Text B (w.alloc (.cells #[.slice none 0 0, .int .i64 0] 28)) a len zs) := ht.kept (Kept.alloc _ (Kept.refl (fun _ => False) w) _) (fun _ _ h => h)
  clear ht
  go_enter Try.func10, Try.ntmps10
  go_wp2_with fail
  refine (row_any B a len cap zs _ T1.out hl (by simp; omega)).mono ?_
  rintro e w1 ⟨v, rfl, ho, hb⟩
  have hblk := (hb.block w.heap.size (by simp)).trans (heap_new w _)
  obtain ⟨al, cl, rfl⟩ := own_form ho
  have c0 := cells_of hblk 0
  have c1 := cells_of hblk 1
  have f0 := free_of hblk 0
  have f1 := free_of hblk 1
  simp at c0 c1
  have HO : Hid (Owns w1 w.heap.size (.slice al (rowOf zs).length cl) (rowOf zs)) := ho.low (by simp)
  have HA : Hid ((Value.slice al (rowOf zs).length cl).ownBlock ≠ some w.heap.size) := ownsRow_apart ho hblk (by decide)
  have HB : Hid (Below w.heap.size w w1) := (Below.alloc (Below.refl _ _) (Nat.le_refl _) _).trans (hb.mono (by simp))
  clear ho hb
  go_wp2
  have hb2 := set_of (set_of hblk 0 (.slice al (rowOf zs).length cl)) 1 (.int .i64 0)
  have g0 := cells_of hb2 0
  have g1 := cells_of hb2 1
  simp at g0 g1
  refine bodyPost_ret (v := .agg #[.slice al (rowOf zs).length cl, .int .i64 0]) (by simp [results, Try.results10, go_sem, g0, g1]) rfl ⟨_, rfl, ?_, ?_⟩
  · exact ownsRow_setCell_other (ownsRow_setCell_other HO.out HA.out _) HA.out _
  · exact (HB.out.setCell (Nat.le_refl _) _).setCell (Nat.le_refl _) _

theorem refLeft_any (a : Option Addr) (n cap : Nat) (p : Nat) (w : World) (hp : p ≤ n) (hn : n ≤ 1000000000000) :
    Calls Try.prog 19 #[.agg #[.slice a n cap, .int .i64 (p : Int)]] w fun e w' => e = .returned (.int .i64 ((n : Int) - p)) ∧ w' = w.alloc (.cells #[.slice a n cap, .int .i64 (p : Int)] 28) := by
  go_enter Try.func19, Try.ntmps19
  go_wp2
  go_ret
  exact ⟨ret_int rfl, rfl⟩

theorem refAlign_any (a : Option Addr) (n cap : Nat) (p : Nat) (w : World) (hn : p ≤ 1000000000000) :
    Calls Try.prog 14 #[.agg #[.slice a n cap, .int .i64 (p : Int)]] w fun e w' => e = .returned (.agg #[.slice a n cap, .int .i64 ((8 * ((p + 7) / 8) : Nat) : Int)]) ∧ Below w.heap.size w w' := by
  go_enter Try.func14, Try.ntmps14
  go_wp2
  go_loopg [] (8 * ((p + 7) / 8) - p) (fun gh wr => gh ≤ 8 * ((p + 7) / 8) - p ∧ wr.heap[w.heap.size]? = some (.cells #[.slice a n cap, .int .i64 ((8 * ((p + 7) / 8) - gh : Nat) : Int)] 28 (0, 0)) ∧ wr.heap[w.heap.size + 1]? = some (.cells #[.slice none 0 0, .int .i64 0] 28 (0, 0)) ∧ Below w.heap.size w wr)
  case atStart =>
    refine ⟨Nat.le_refl _, ?_, heap_new2 w _ _, ((Below.refl _ _).alloc (Nat.le_refl _) _).alloc (by simp) _⟩
    rw [heap_new1, show 8 * ((p + 7) / 8) - (8 * ((p + 7) / 8) - p) = p by omega]
  case round =>
    obtain ⟨h7, hs, ho, hb⟩ := hrel
    obtain ⟨q, hq⟩ : ∃ q, q = 8 * ((p + 7) / 8) - gk := ⟨_, rfl⟩
    rw [← hq] at hs
    have hq8 : q % 8 = (8 - gk) % 8 := by omega
    have hq9 : q ≤ 2000000000000 := by omega
    have HQ : Hid (q = 8 * ((p + 7) / 8) - gk) := hq
    clear hq
    have c0 := cells_of hs 0
    have c1 := cells_of hs 1
    have f1 := free_of hs 1
    have d0 := cells_of ho 0
    have d1 := cells_of ho 1
    have e0 := free_of ho 0
    have e1 := free_of ho 1
    simp at c0 c1 d0 d1
    have hsz := lt_of_block ho
    by_cases hg : 0 < gk
    · have ht : (((q : Int) % 8) != 0) = true := by simp; omega
      go_wp2
      go_roundg (gk - 1)
      case measure => omega
      case rel =>
        refine ⟨by omega, ?_, ?_, hb.setCell (Nat.le_refl _) _⟩
        · have e5 : 8 * ((p + 7) / 8) - (gk - 1) = q + 1 := by have := HQ.out; omega
          rw [set_of hs, e5]
          rfl
        · rw [set_other (by omega)]; exact ho
    · have h0 : gk = 0 := by omega
      subst h0
      have ht : (((q : Int) % 8) != 0) = false := by simp; omega
      have hqe : q = 8 * ((p + 7) / 8) := by have := HQ.out; omega
      have HQE : Hid (q = 8 * ((p + 7) / 8)) := hqe
      clear hqe
      go_wp2
      have hb2 := set_of (set_of ho 0 (.slice a n cap)) 1 (.int .i64 q)
      have g0 := cells_of hb2 0
      have g1 := cells_of hb2 1
      simp at g0 g1
      rw [← HQE.out]
      exact bodyPost_ret (v := .agg #[.slice a n cap, .int .i64 (q : Int)]) (by simp [results, Try.results14, go_sem, g0, g1]) rfl ⟨rfl, (hb.setCell (by simp) _).setCell (by simp) _⟩

set_option maxHeartbeats 1000000 in
theorem refBits_no (a : Option Addr) (n cap p : Nat) (x : Int) (w : World) (hp : p ≤ n) (hn : n ≤ 1000000000000) (h : x < 0 ∨ 24 < x ∨ (n : Int) - p < x) :
    Calls Try.prog 12 #[.agg #[.slice a n cap, .int .i64 (p : Int)], .int .i64 x] w fun e w' => e = .returned (.tuple #[.agg #[.slice a n cap, .int .i64 (p : Int)], .int .i64 0, .bool false]) ∧ Below w.heap.size w w' := by
  have hc : x < 0 ∨ (0 ≤ x ∧ 24 < x) ∨ (0 ≤ x ∧ x ≤ 24 ∧ (n : Int) - p < x) := by omega
  clear h
  have hB : Below w.heap.size w ((w.alloc (.cells #[.slice a n cap, .int .i64 (p : Int)] 28)).alloc (.cells #[.slice none 0 0, .int .i64 0] 28)) := ((Below.refl _ _).alloc (Nat.le_refl _) _).alloc (by simp) _
  have HB : Hid (Below w.heap.size w ((w.alloc (.cells #[.slice a n cap, .int .i64 (p : Int)] 28)).alloc (.cells #[.slice none 0 0, .int .i64 0] 28))) := hB
  clear hB
  clear HB
  rcases hc with h | ⟨h1, h2⟩ | ⟨h1, h2, h3⟩
  · go_enter Try.func12, Try.ntmps12
    go_wp2_with (go_at_call 19; refine (refLeft_any _ _ _ _ _ hp hn).mono ?_; rintro e w' ⟨rfl, rfl⟩)
    exact bodyPost_ret (v := .tuple #[.agg #[.slice a n cap, .int .i64 (p : Int)], .int .i64 0, .bool false]) (by simp [results, Try.results12, go_sem]) rfl ⟨rfl, ((Below.refl _ _).alloc (Nat.le_refl _) _).alloc (by simp) _⟩
  · go_enter Try.func12, Try.ntmps12
    go_wp2_with (go_at_call 19; refine (refLeft_any _ _ _ _ _ hp hn).mono ?_; rintro e w' ⟨rfl, rfl⟩)
    exact bodyPost_ret (v := .tuple #[.agg #[.slice a n cap, .int .i64 (p : Int)], .int .i64 0, .bool false]) (by simp [results, Try.results12, go_sem]) rfl ⟨rfl, ((Below.refl _ _).alloc (Nat.le_refl _) _).alloc (by simp) _⟩
  · go_enter Try.func12, Try.ntmps12
    go_wp2_with (go_at_call 19; refine (refLeft_any _ _ _ _ _ hp hn).mono ?_; rintro e w' ⟨rfl, rfl⟩)
    exact bodyPost_ret (v := .tuple #[.agg #[.slice a n cap, .int .i64 (p : Int)], .int .i64 0, .bool false]) (by simp [results, Try.results12, go_sem]) rfl ⟨rfl, (((Below.refl _ _).alloc (Nat.le_refl _) _).alloc (by simp) _).alloc (by simp; omega) _⟩

theorem pack_step24 (P X l : Int) (h0 : 0 ≤ l) (h1 : l ≤ 1) (hp0 : 0 ≤ P) (hp1 : P ≤ 16777216) (hx0 : 0 ≤ X) (hx1 : X ≤ 16777216) : wrap64 (X + wrap64 (P * l)) = X + P * l := by
  have : l = 0 ∨ l = 1 := by omega
  rcases this with e | e
  · subst e
    rw [Int.mul_zero, IntWalk.wrap64_in 0 (by omega), IntWalk.wrap64_in _ (by omega)]
  · subst e
    rw [Int.mul_one, IntWalk.wrap64_in P (by omega), IntWalk.wrap64_in _ (by omega)]

set_option maxHeartbeats 1000000 in
theorem refBits_yes (a : Option Addr) (cap p m : Nat) (L : List Int) (w : World) (hL : Nums w a L) (hb : Bin L) (hp : p + m ≤ L.length) (hm : m ≤ 24) (hn : L.length ≤ 1000000000000) (V : Int) (hV : V = packB L p m) :
    Calls Try.prog 12 #[.agg #[.slice a L.length cap, .int .i64 (p : Int)], .int .i64 (m : Int)] w fun e w' => e = .returned (.tuple #[.agg #[.slice a L.length cap, .int .i64 ((p + m : Nat) : Int)], .int .i64 V, .bool true]) ∧ Below w.heap.size w w' := by
  subst hV
  have HC : Hid (0 < m → ∃ g off, a = some ⟨g, off, none⟩ ∧ ∀ j, j < L.length → (((w.alloc (.cells #[.slice a L.length cap, .int .i64 (p : Int)] 28)).alloc (.cells #[.slice none 0 0, .int .i64 0] 28)).alloc (.cells #[.slice a L.length cap, .int .i64 (p : Int)] 28)).cell? ⟨g, off + j, none⟩ = some (.int .i64 (L.getD j 0))) := by
    intro hm0
    obtain ⟨g, off, hlt, ha, hc⟩ := hL.resolve_left (by omega)
    refine ⟨g, off, ha, fun j hj => ?_⟩
    rw [← hc j hj]
    exact Kept.cell (M := fun _ => False) (Kept.alloc _ (Kept.alloc _ (Kept.alloc _ (Kept.refl _ w) _) _) _) (p := ⟨g, off + j, none⟩) hlt (fun h => h)
  have HN : Hid (Bin L) := hb
  clear hL hb
  go_enter Try.func12, Try.ntmps12
  go_wp2_with (go_at_call 19; refine (refLeft_any _ _ _ _ _ (by omega) hn).mono ?_; rintro e w' ⟨rfl, rfl⟩)
  go_loop [7, 8, 9] (fun x q i => ∃ k : Nat, k ≤ m ∧ i = .int .i64 k ∧ q = .int .i64 (2 ^ k) ∧ x = .int .i64 (packB L p k)) (fun _ _ i => m - (intOf i).toNat)
  case atStart => exact ⟨0, Nat.zero_le _, rfl, rfl, rfl⟩
  case round =>
    obtain ⟨k, hk, rfl, rfl, rfl⟩ := hrel
    by_cases hlt : k < m
    · have hpb := packB_bd L HN.out p k
      have hp8 := @pow_le_24 k (by omega)
      have hp0 := pow_pos' k
      have hbit := HN.out (p + k)
      obtain ⟨g, off, rfl, hc⟩ := HC.out (by omega)
      have hck := hc (p + k) (by omega)
      clear hc HC
      obtain ⟨P, hP⟩ : ∃ P : Int, P = 2 ^ k := ⟨_, rfl⟩
      obtain ⟨X, hX⟩ : ∃ X, X = packB L p k := ⟨_, rfl⟩
      obtain ⟨l, hl'⟩ : ∃ l, l = L.getD (p + k) 0 := ⟨_, rfl⟩
      rw [← hP, ← hX] at hpb
      rw [← hP] at hp8 hp0
      rw [← hl'] at hck hbit
      rw [← hP, ← hX]
      have HP : Hid (P = 2 ^ k) := hP
      have HX : Hid (X = packB L p k) := hX
      have HL : Hid (l = L.getD (p + k) 0) := hl'
      clear hP hX hl'
      go_wp2
      go_round
      case rel =>
        refine ⟨k + 1, by omega, by go_num, ?_, ?_⟩
        · rw [Int.pow_succ', ← HP.out]
        · rw [packB, ← HX.out, ← HP.out, ← HL.out, pack_step24 P X l hbit.1 hbit.2 (by omega) (by omega) hpb.1 (by omega)]
      case measure => simp [intOf]; omega
    · have hkm : k = m := by omega
      subst hkm
      clear HC
      go_wp2
      exact bodyPost_ret (v := .tuple #[.agg #[.slice a L.length cap, .int .i64 ((p : Int) + k)], .int .i64 (packB L p k), .bool true]) (by simp [results, Try.results12, go_sem]) rfl ⟨rfl, (((Below.refl _ _).alloc (Nat.le_refl _) _).alloc (by simp) _).alloc (by simp; omega) _⟩
#print axioms refBits_yes
end Go.Proofs.Ytamkjlihlnejoaa
