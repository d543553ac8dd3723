/- Key: contract. -/
import Derived.Test.YtgafejgmjenfaabMPart
namespace Go.Proofs.Ytgafejgmjenfaab.S
set_option maxRecDepth 100000
open Go Go.RowKit

theorem slice_hm_nil (K : IntKind) (W : World) : (Instr.sliceAt 22 (.slice none 0 0) none (some (.int K 0)) (some (.int K 0))).run Try.prog W = .ok (.slice none 0 0) W := by
  rw [run_sliceAt_slice _ _ _ _ _ _ (by kernel_rfl), run_slice_hm W 22 none 0 0 (by kernel_rfl) K K 0 0 (by omega) (by omega) (by omega), elemB, size5]
  simp [sliced]
theorem slice_hm (K : IntKind) (W : World) (b o len cap m : Nat) (h : m ≤ cap) : (Instr.sliceAt 22 (.slice (some ⟨b, o, none⟩) len cap) none (some (.int K (m : Int))) (some (.int K (m : Int)))).run Try.prog W = .ok (.slice (some ⟨b, o, none⟩) m m) W := by
  rw [run_sliceAt_slice _ _ _ _ _ _ (by kernel_rfl), run_slice_hm W 22 (some ⟨b, o, none⟩) len cap (by kernel_rfl) K K (m : Int) (m : Int) (by omega) (by omega) (by omega), elemB, size5]
  simp [sliced, addr_plain]
theorem tsK_by (pw salt : List Nat) (r n : Nat) : By (tsK pw salt r n) := by
  induction n with
  | zero => exact fun x hx => by simp [tsK] at hx
  | succ n ih => exact ih.append (tK_by _ _ _ _)
theorem keyK_length (pw salt : List Nat) (rounds long : Nat) : (keyK pw salt rounds long).length = long := by
  rw [keyK, List.length_take, tsK_length]; omega
theorem keyK_by (pw salt : List Nat) (rounds long : Nat) : By (keyK pw salt rounds long) := (tsK_by _ _ _ _).take _
/-- A row's beginning. -/
theorem TextAt.take {w : World} {a : Option Addr} {ys : List Nat} (h : TextAt w a ys) (n : Nat) : TextAt w a (ys.take n) := by
  rcases h with h | ⟨b, off, e, hb, hs⟩
  · exact .inl (by rw [List.length_take]; omega)
  · refine .inr ⟨b, off, e, hb, fun i hi => ?_⟩
    have hi2 : i < n ∧ i < ys.length := by rw [List.length_take] at hi; omega
    rw [hs i hi2.2]
    simp [List.getD, hi2.1]
/-- What Key answers where it does not refuse. -/
def KeyOk (pw salt : List Nat) (r L : Nat) (w : World) (e : Ending) (w' : World) : Prop :=
  ∃ a, e = .returned (.tuple #[.slice a L L, .bool true]) ∧ TextAt w' a (keyK pw salt (r + 1) L) ∧ (a = none → L = 0) ∧ Below w.heap.size w w'

set_option maxHeartbeats 4000000 in
theorem key_c (a sa : Option Addr) (ca sc : Nat) (pw salt : List Nat) (r L : Nat) (w : World) (hk : By pw) (hka : TextAt w a pw) (hkc : pw.length ≤ ca) (hkm : ca ≤ 9223372036854775807) (hkl : pw.length ≤ 1000000000000000)
    (hs : By salt) (hst : TextAt w sa salt) (hsn : sa = none → salt.length = 0 ∧ sc = 0) (hsl : salt.length ≤ 140737488351232) (hr : r < 5000) (hL : L ≤ 1000) :
    Calls Try.prog 5 #[.slice a pw.length ca, .slice sa salt.length sc, .int .i64 ((r : Int) + 1), .int .i64 (L : Int)] w (KeyOk pw salt r L w) := by
  have hz : ∀ w, (zeroValue 26).run Try.prog w = .ok (.agg (oA st0 0)) w := (zero20 _).1
  have HBI := hide (bind_c a ca pw w hk hka hkc hkm hkl)
  have HPA := fun (w1 W : World) bi bo (ri : w1.heap[bi]? = some (.cells (kA (kX pw 54)) 33 (0, 0))) (ro : w1.heap[bo]? = some (.cells (kA (kX pw 92)) 33 (0, 0))) (k1 : Below w.heap.size w w1) (k : Below w1.heap.size w1 W) (j : Nat) (hj : j + 1 ≤ 1000) =>
    hide (show Calls Try.prog 9 #[.func (.func 12) #[] #[.pointer (some ⟨bi, 0, none⟩), .pointer (some ⟨bo, 0, none⟩)], .slice sa salt.length sc, .int .i64 ((j : Int) + 1), .int .i64 ((r : Int) + 1)] W fun e w' => e = .returned (.agg (bA (tK pw salt (j + 1) r))) ∧ Below W.heap.size W w' from by
      have := part_c bi bo pw salt sa sc (j + 1) r W hk ((k.block _ (lt_of_block' ri)).trans ri) ((k.block _ (lt_of_block' ro)).trans ro) hs ((hst.below k1).below k) hsn hsl hj (by omega)
      push_cast at this
      exact this)
  obtain ⟨N, hN⟩ : ∃ N, N = pw.length := ⟨_, rfl⟩
  obtain ⟨M, hM⟩ : ∃ M, M = salt.length := ⟨_, rfl⟩
  rw [← hN] at HBI ⊢
  rw [← hM] at HPA ⊢
  clear hk hka hkc hkm hkl hs hst hsn hsl hN hM
  have r1 : ¬ (r : Int) + 1 < 1 := by omega
  have r2 : ¬ (5000 : Int) < (r : Int) + 1 := by omega
  have r3 : ¬ (L : Int) < 0 := by omega
  have r4 : ¬ (1000 : Int) < (L : Int) := by omega
  go_enter Try.func5, Try.ntmps5
  go_wp2_with (go_at_call 8; refine HBI.out.mono ?_; rintro e w1 ⟨v, rfl, ⟨bi, bo, rfl, _, _, hbi, hbo⟩, b1⟩; have RI := hide hbi; have RO := hide hbo; have B1 := hide b1; clear b1 hbi hbo)
  obtain ⟨n, hn⟩ : ∃ n, n = (L + 19) / 20 := ⟨_, rfl⟩
  have hq : ((L : Int) + 20 - 1) / 20 = (n : Int) := by omega
  rw [hq]
  have hn2 : n ≤ 50 ∧ L ≤ 20 * n := by omega
  have HKK := hide (show (tsK pw salt r n).take L = keyK pw salt (r + 1) L by rw [hn]; rfl)
  have HLN := hide (show n = 0 → L = 0 by omega)
  have HNL := hide (show L = 0 → n = 0 by omega)
  clear hq hn HBI
  have HPB := fun W (k : Below w1.heap.size w1 W) j hj => hide (HPA w1 W bi bo RI.out RO.out B1.out k j hj).out
  clear HPA
  have HTI := fun j => hide (infoA (tK pw salt (j + 1) r))
  have HTO := fun j => hide (bA_one (tK pw salt (j + 1) r))
  have HTS := fun j => hide (show (oA st0 0).size = (bA (tK pw salt (j + 1) r)).size by rw [oA, fA_size, bA_size])
  go_loopg [11, 34] n (fun gk u11 u34 wx => ∃ j : Nat, j + gk = n ∧ u34 = .int .i64 j ∧ Hid (OwnsB wx w1.heap.size u11 (tsK pw salt r j)) ∧ Hid (Below w1.heap.size w1 wx))
  case atStart => exact ⟨0, by omega, rfl, OwnsB.nil _ _, Below.refl _ _⟩
  case round =>
    obtain ⟨j, hjg, rfl, OX, BX⟩ := hrel
    cases gk with
    | zero =>
      obtain rfl : j = n := by omega
      have hge : ¬ (j : Int) < (j : Int) := by omega
      obtain ⟨a4, c4, rfl, hc4, hm4, hn4⟩ := OX.out.form
      have HT := hide OX.out.text
      have BW := hide (B1.out.trans (BX.out.mono B1.out.size))
      have hs4 : ∃ a5, (∀ W, (Instr.sliceAt 22 (.slice a4 (tsK pw salt r j).length c4) none (some (.int .i64 (L : Int))) (some (.int .i64 (L : Int)))).run Try.prog W = .ok (.slice a5 L L) W) ∧ a5 = a4 ∧ (a5 = none → L = 0) := by
        rcases OX.out.bs with h0 | ⟨g, rfl, _⟩
        · rw [tsK_length] at h0
          have hj0 : j = 0 := by omega
          have hL0 := HLN.out hj0
          subst hj0 hL0
          cases a4 with
          | none =>
            obtain ⟨_, rfl⟩ := hn4 rfl
            exact ⟨none, fun W => slice_hm_nil .i64 W, rfl, fun _ => rfl⟩
          | some ad =>
            have h2 := OX.out.2
            rcases h2 with ⟨e, _⟩ | ⟨g, cap, cur, e, _⟩
            · cases e
            · simp only [Value.slice.injEq, Option.some.injEq] at e
              obtain ⟨rfl, _, _⟩ := e
              exact ⟨_, fun W => slice_hm .i64 W g 0 _ c4 0 (by omega), rfl, fun e => by cases e⟩
        · exact ⟨_, fun W => slice_hm .i64 W g 0 _ c4 L (by rw [tsK_length] at hc4; omega), rfl, fun e => by cases e⟩
      obtain ⟨a5, hsl, rfl, hnil⟩ := hs4
      have HNI := hide hnil
      clear OX hc4 hm4 hn4 hnil
      generalize (tsK pw salt r j).length = tl at hsl ⊢
      go_wp2_with fail
      go_ret2
      exact ⟨a5, rfl, by rw [← HKK.out]; exact HT.out.take L, HNI.out, BW.out⟩
    | succ g1 =>
      have hlt : (j : Int) < (n : Int) := by omega
      have HP := hide (HPB wr BX.out j (by omega)).out
      have hsx := BX.out.size
      go_upto_region 9 with (first
        | (go_at_call 9; refine HP.out.mono ?_; rintro e w5 ⟨rfl, k5⟩; have B5 := hide (BX.out.trans (k5.mono BX.out.size)); have O5 := hide (OX.out.stay k5); clear k5)
        | (refine wpList_store_row rfl 26 (.tmp 13) (.tmp 42) rfl w5.heap.size (bA (tK pw salt (j + 1) r)) (by rfl) (by rfl) (oA st0 0) 26 (heap_new _ _) (HTI j).out (HTS j).out (HTO j).out ?_; intro w6 G6 K6))
      have hs5 := B5.out.size
      have B6 := hide ((B5.out.alloc hs5 (.cells (oA st0 0) 26)).trans (K6.out.below (by simp; omega) (fun i hi e => by omega)))
      have O6 : Hid (OwnsB w6 w1.heap.size u11 (tsK pw salt r j)) := ownsRow_kept (World.ownsRow.alloc O5.out _) K6.out (fun g hg e => by have := (ownsRow_lt O5.out hg).2; omega)
      have T6 := hide (textA (tK_length _ _ _ _) G6.out)
      have hsl := fun W => slice20 W w5.heap.size
      obtain ⟨b5, hb5⟩ : ∃ b5, b5 = w5.heap.size := ⟨_, rfl⟩
      rw [← hb5] at T6 hsl ⊢
      clear hb5 K6 G6 O5 B5 hs5 HP
      have hs6 := B6.out.size
      go_wp2_with (refine wpList_appB _ rfl (.tmp 43) (.tmp 44) rfl w1.heap.size u11 (tsK pw salt r j) (by rfl) O6.out (some ⟨b5, 0, none⟩) 20 20 (by rfl) (tK pw salt (j + 1) r) (tsK pw salt r (j + 1)) rfl (tK_length _ _ _ _) T6.out (fun e => by cases e) (by rw [tsK_length]; omega) hs6 ?_; intro v7 w7 h7 k7; have O7 := hide h7; have B7 := hide (growB O6.out B6.out k7); clear h7 k7)
      go_roundg g1
      case measure => omega
      case rel => exact ⟨j + 1, by omega, by go_num, O7, B7⟩

/-- Key refuses. -/
theorem key_no (v u : Value) (r L : Int) (w : World) (h : r < 1 ∨ 5000 < r ∨ L < 0 ∨ 1000 < L) :
    Calls Try.prog 5 #[v, u, .int .i64 r, .int .i64 L] w fun e w' => e = .returned (.tuple #[.slice none 0 0, .bool false]) ∧ w' = w := by
  by_cases h1 : r < 1
  · go_enter Try.func5, Try.ntmps5
    go_wp2_with fail
    go_ret2
    exact ⟨rfl, rfl⟩
  · by_cases h2 : 5000 < r
    · go_enter Try.func5, Try.ntmps5
      go_wp2_with fail
      go_ret2
      exact ⟨rfl, rfl⟩
    · by_cases h3 : L < 0
      · go_enter Try.func5, Try.ntmps5
        go_wp2_with fail
        go_ret2
        exact ⟨rfl, rfl⟩
      · have h4 : 1000 < L := by omega
        go_enter Try.func5, Try.ntmps5
        go_wp2_with fail
        go_ret2
        exact ⟨rfl, rfl⟩
end Go.Proofs.Ytgafejgmjenfaab.S
