/- Several texts, laid together: DFew, DQFix. -/
import Derived.Test.YtlakgbckopjelaaGreatDoorK34DAns
import Derived.Test.YtlakgbckopjelaaGreatDoorK33MAlive
import Derived.Test.YtlakgbckopjelaaGreatDoorG35RFix
import Derived.Test.YtlakgbckopjelaaGreatDoorG36ROut
import Derived.Test.YtlakgbckopjelaaGreatDoorG02HMath
/- The laws' own look: do tokens tell so little that the document's way ends soon? -/
namespace Go.Proofs.YtlakgbckopjelaaGreatDoor
set_option maxRecDepth 100000
open Go Go.RowKit

/-- What is told of the rest of the tokens, with a sum so far (as int adds). -/
def fewGo : Int → List M.Tk → Bool
  | S, [] => decide (S < 6000)
  | S, t :: r => if 300 < t.2.1 then false else fewGo (wrap64 (S + t.2.1)) r
def fewB (ts : List M.Tk) : Bool := if 600 < ts.length then false else fewGo 0 ts
theorem fewB_len {ts : List M.Tk} (h : fewB ts = true) : ts.length ≤ 600 := by
  unfold fewB at h
  split at h
  · cases h
  · omega
theorem fewGo_at {ts : List M.Tk} {i : Nat} (h : i < ts.length) (S : Int) : fewGo S (ts.drop i) = if 300 < (M.tk ts i).2.1 then false else fewGo (wrap64 (S + (M.tk ts i).2.1)) (ts.drop (i + 1)) := by
  rw [List.drop_eq_getElem_cons h]
  have e : M.tk ts i = ts[i] := M.tk_in h
  rw [e]
  rfl
set_option maxHeartbeats 1000000 in
theorem few_c (a : Option Addr) (cap : Nat) (ts : List M.Tk) (w : World) (h : M.Toks w a ts) : Calls Tryz.prog 12 #[.slice a ts.length cap] w fun e w' => e = .returned (.bool (fewB ts)) ∧ Below w.heap.size w w' := by
  by_cases hl : 600 < ts.length
  · have hf : fewB ts = false := by unfold fewB; rw [if_pos hl]
    rw [hf]
    have hl' : (600 : Int) < (ts.length : Int) := by omega
    clear h hf
    go_enter Tryz.func12, Tryz.ntmps12
    go_wp2_with fail
    go_ret
    exact ⟨rfl, Below.refl _ _⟩
  · have hf : fewB ts = fewGo 0 ts := by unfold fewB; rw [if_neg hl]
    have hl' : ¬ (600 : Int) < (ts.length : Int) := by omega
    obtain ⟨R, hR⟩ : ∃ R, fewGo 0 ts = R := ⟨_, rfl⟩
    have HR : Hid (fewGo 0 (ts.drop 0) = R) := by rw [List.drop_zero]; exact hR
    rw [hf, hR]
    have HT := hide h
    clear h hf hR
    go_enter Tryz.func12, Tryz.ntmps12
    go_wp2_with fail
    go_loopg [3, 11] ts.length (fun gk v3 v11 wx => ∃ (i : Nat) (S : Int), i + gk = ts.length ∧ v3 = .int .i64 S ∧ v11 = .int .i64 i ∧ Hid (fewGo S (ts.drop i) = R ∧ Below w.heap.size w wx))
    case atStart => exact ⟨0, 0, by omega, rfl, rfl, HR.out, Below.refl _ _⟩
    case round =>
      obtain ⟨i, S, hig, rfl, rfl, HI⟩ := hrel
      cases gk with
      | zero =>
        have hge : ¬ (i : Int) < (ts.length : Int) := by omega
        have HE : Hid (decide (S < 6000) = R) := hide (by have := HI.out.1; rwa [List.drop_eq_nil_of_le (by omega)] at this)
        go_wp2_with fail
        go_ret
        exact ⟨by rw [← HE.out]; rfl, HI.out.2⟩
      | succ g1 =>
        have hlt : (i : Int) < (ts.length : Int) := by omega
        obtain ⟨b, off, rfl, hbl, c0, c1, c2⟩ := HT.out.three HI.out.2 (i := i) (by omega)
        have HG := hide (fewGo_at (ts := ts) (i := i) (by omega) S)
        obtain ⟨t, ht⟩ : ∃ t, M.tk ts i = t := ⟨_, rfl⟩
        rw [ht] at c0 c1 c2 HG
        obtain ⟨B, L, K⟩ := t
        simp only at c0 c1 c2 HG
        have HB : Hid (Below w.heap.size w wr) := HI.out.2
        have hsz : w.heap.size ≤ wr.heap.size := HB.out.size
        have HE := hide (HG.out.symm.trans HI.out.1)
        clear HG HI HT ht HR
        by_cases hL : 300 < L
        · have HE2 : Hid (false = R) := hide (by have := HE.out; rwa [if_pos hL] at this)
          clear HE
          go_wp2_with fail
          go_ret
          exact ⟨by rw [← HE2.out]; rfl, HB.out.alloc (by omega) _⟩
        · have HE2 : Hid (fewGo (wrap64 (S + L)) (ts.drop (i + 1)) = R) := hide (by have := HE.out; rwa [if_neg hL] at this)
          clear HE
          go_wp2_with fail
          go_roundg g1
          case measure => omega
          case rel => exact ⟨i + 1, wrap64 (S + L), by omega, rfl, by go_num, HE2.out, HB.out.alloc (by omega) _⟩
/-- A slice of tokens that came in leads to a block that is there. -/
theorem tok_block {W : World} {base : Nat} {a : Addr} {len cap : Nat} (h : Value.okWide Tryz.prog W .any base 27 (.slice (some a) len cap)) : a.block < W.heap.size := by
  simp only [Value.okWide, Tryz.underlying27, Cell.okWide, Cell.ok] at h
  obtain ⟨_, _, _, _, row, cells, hs, _⟩ := h
  unfold World.shape? at hs
  rcases Nat.lt_or_ge a.block W.heap.size with h' | h'
  · exact h'
  · rw [Array.getElem?_eq_none h'] at hs
    simp at hs
theorem own_text {w : World} {b n c : Nat} {o : Option Addr} {X : List Int} (h : OwnsB w b (.slice o n c) X) (hb : ∀ i, 0 ≤ X.getD i 0 ∧ X.getD i 0 ≤ 255) : Text w.heap.size w o X.length X := by
  rcases h.2 with ⟨_, h2⟩ | ⟨g', cap, cur, hv, hg, hh, _, _, _, h4⟩
  · exact ⟨rfl, hb, .inl h2⟩
  · simp only [Value.slice.injEq] at hv
    obtain ⟨rfl, _, _⟩ := hv
    refine ⟨rfl, hb, .inr ⟨g', 0, lt_of_block hh, rfl, fun i hi => ?_⟩⟩
    rw [Nat.zero_add, cells_of hh]
    have e : (cur.toList.take (X.length * 1))[i]? = (X.map (Value.int .u8))[i]? := by rw [h4]
    rw [List.getElem?_take_of_lt (by omega), Array.getElem?_toList] at e
    rw [e]
    simp [List.getD, hi]
theorem getD_bytes {Z : List Int} (h : ∀ x ∈ Z, 0 ≤ x ∧ x ≤ 255) (i : Nat) : 0 ≤ Z.getD i 0 ∧ Z.getD i 0 ≤ 255 := by
  by_cases hi : i < Z.length
  · simp only [List.getD, List.getElem?_eq_getElem hi, Option.getD_some]
    exact h _ (List.getElem_mem hi)
  · simp [List.getD, List.getElem?_eq_none (show Z.length ≤ i by omega)]
end Go.Proofs.YtlakgbckopjelaaGreatDoor

/- The reference's Long and Far: the symbol of a run's length, and of its distance. -/
namespace Go.Proofs.YtlakgbckopjelaaGreatDoor
set_option maxRecDepth 100000
open Go Go.RowKit

/-- The greatest symbol among the first k whose least length is not above n. -/
def gL (n : Nat) : Nat → Nat
  | 0 => 257
  | k + 1 => if iLb (257 + k) ≤ n then 257 + k else gL n k
theorem gL_is (n : Nat) (h : 3 ≤ n) (h1 : n ≤ 257) : gL n 28 = (lmk n).1 := by
  have key : ∀ x : Fin 255, gL (x.val + 3) 28 = (lmk (x.val + 3)).1 := by decide +kernel
  have := key ⟨n - 3, by omega⟩
  simpa only [show n - 3 + 3 = n by omega] using this
theorem gL_le (n k : Nat) : gL n k ≤ 257 + k := by
  induction k with
  | zero => exact Nat.le_refl _
  | succ k ih => unfold gL; split <;> omega
/-- Likewise of distances. -/
def gF (n : Nat) : Nat → Nat
  | 0 => 0
  | k + 1 => if iDb k ≤ n then k else gF n k
theorem gF_le (n k : Nat) : gF n k ≤ k := by
  induction k with
  | zero => exact Nat.le_refl _
  | succ k ih => unfold gF; split <;> omega
theorem iDb_mono (a k : Nat) : iDb a ≤ iDb (a + k) := by
  induction k with
  | zero => exact Nat.le_refl _
  | succ k ih => rw [← Nat.add_assoc, iDb_succ]; exact Nat.le_trans ih (Nat.le_add_right _ _)
theorem gF_at {n s : Nat} (h1 : iDb s ≤ n) (h2 : n < iDb (s + 1)) : ∀ k, gF n (s + 1 + k) = s
  | 0 => by unfold gF; rw [if_pos h1]
  | k + 1 => by
    have := iDb_mono (s + 1) k
    rw [show s + 1 + (k + 1) = (s + 1 + k) + 1 by omega]
    unfold gF
    rw [if_neg (by omega)]
    exact gF_at h1 h2 k
theorem gF_is (d : Nat) (h : 1 ≤ d) (h1 : d ≤ 32768) : gF d 30 = (bmk d).1 := by
  obtain ⟨k1, k2, k3, k4, _⟩ := bmk_ok d ⟨h, h1⟩
  have hs := iDb_succ (bmk d).1
  rw [k2] at hs
  have := gF_at (n := d) (s := (bmk d).1) (by omega) (by omega) (29 - (bmk d).1)
  rwa [show (bmk d).1 + 1 + (29 - (bmk d).1) = 30 by omega] at this
theorem iLb_le8 (k : Nat) (hk : k ≤ 285) : iLb k ≤ 2000 := by
  by_cases h : k = 285
  · subst h; decide
  · rw [← rLs_eq (by omega)]
    have := rLs_le (k - 257) (by omega)
    omega
set_option maxRecDepth 100000 in
theorem q8Long_c (n : Nat) (w : World) (h : 3 ≤ n) (h1 : n ≤ 258) : Calls Tryz.prog 19 #[.int .i64 (n : Int)] w fun x w' => x = .returned (.int .i64 ((lmk n).1 : Int)) ∧ w' = w := by
  by_cases h5 : n = 258
  · subst h5
    have e : (lmk 258).1 = 285 := rfl
    rw [e]
    go_enter Tryz.func19, Tryz.ntmps19
    go_wp2
    go_ret
    exact ⟨rfl, rfl⟩
  · have HE : Hid (gL n 28 = (lmk n).1) := gL_is n h (by omega)
    rw [← HE.out]
    have HX : ∀ (k : Nat) (w' : World), k < 28 → Hid (Calls Tryz.prog 35 #[.int .i64 ((257 + k : Nat) : Int)] w' fun x w'' => x = .returned (.tuple #[.int .i64 (iLb (257 + k) : Int), .int .i64 (iLx (257 + k) : Int)]) ∧ w'' = w') := fun k w' hk => rLong_c (257 + k) w' (by omega) (by omega)
    have HG : ∀ k, Hid (gL n (k + 1) = if iLb (257 + k) ≤ n then 257 + k else gL n k) := fun k => by show _ = _; conv => lhs; unfold gL
    have HLe : ∀ k, k < 28 → iLb (257 + k) ≤ 2000 := fun k hk => iLb_le8 _ (by omega)
    have h5' : ¬ (n : Int) = 258 := by omega
    have h5b : ((n : Int) == 258) = false := by simp; omega
    clear HE
    go_enter Tryz.func19, Tryz.ntmps19
    go_wp2
    go_loop [3, 4] (fun s i => ∃ k : Nat, k ≤ 28 ∧ i = .int .i64 ((257 + k : Nat) : Int) ∧ s = .int .i64 (gL n k : Int)) (fun _ i => (285 - intOf i).toNat)
    case atStart => exact ⟨0, by omega, rfl, rfl⟩
    case round =>
      obtain ⟨k, hk, rfl, rfl⟩ := hrel
      by_cases hlt : k < 28
      · have h1 := HX k w hlt
        have h2 := HG k
        have h3 := HLe k hlt
        have hl1 : ((257 + k : Nat) : Int) < 285 := by omega
        obtain ⟨X, hX⟩ : ∃ X, X = 257 + k := ⟨_, rfl⟩
        obtain ⟨A, hA⟩ : ∃ A, A = iLb (257 + k) := ⟨_, rfl⟩
        obtain ⟨B, hB⟩ : ∃ B, B = iLx (257 + k) := ⟨_, rfl⟩
        obtain ⟨G, hG⟩ : ∃ G, G = gL n k := ⟨_, rfl⟩
        obtain ⟨G1, hG1⟩ : ∃ G1, G1 = gL n (k + 1) := ⟨_, rfl⟩
        rw [← hA, ← hG, ← hG1, ← hX] at h2
        rw [← hA, ← hB, ← hX] at h1
        rw [← hA] at h3
        rw [← hX] at hl1
        rw [← hX, ← hG]
        have HX1 := hide hX
        have HG1 := hide hG1
        clear HX HG HLe hA hB hG hG1
        by_cases hc : A ≤ n
        · have hc' : (A : Int) ≤ (n : Int) := by omega
          have H2 : Hid (G1 = X) := by rw [h2.out, if_pos hc]; rfl
          clear h2 hX
          go_wp2_with (go_at_call 35; refine h1.out.mono ?_; rintro x w1 ⟨rfl, rfl⟩; clear h1)
          go_round
          case rel => exact ⟨k + 1, by omega, by rw [HX1.out]; go_num, by rw [← HG1.out, H2.out]⟩
          case measure => simp [intOf]; omega
        · have hc' : ¬ (A : Int) ≤ (n : Int) := by omega
          have H2 : Hid (G1 = G) := by rw [h2.out, if_neg hc]; rfl
          clear h2 hX
          go_wp2_with (go_at_call 35; refine h1.out.mono ?_; rintro x w1 ⟨rfl, rfl⟩; clear h1)
          go_round
          case rel => exact ⟨k + 1, by omega, by rw [HX1.out]; go_num, by rw [← HG1.out, H2.out]⟩
          case measure => simp [intOf]; omega
      · obtain rfl : k = 28 := by omega
        obtain ⟨G, hG⟩ : ∃ G, G = gL n 28 := ⟨_, rfl⟩
        rw [← hG]
        have HG1 := hide hG
        clear HX HG HLe hG
        go_wp2
        go_ret
        exact ⟨by rw [← HG1.out]; rfl, rfl⟩
set_option maxRecDepth 100000 in
theorem q8Far_c (n : Nat) (w : World) (h : 1 ≤ n) (h1 : n ≤ 32768) : Calls Tryz.prog 20 #[.int .i64 (n : Int)] w fun x w' => x = .returned (.int .i64 ((bmk n).1 : Int)) ∧ w' = w := by
  have HE : Hid (gF n 30 = (bmk n).1) := gF_is n h h1
  rw [← HE.out]
  have HX : ∀ (k : Nat) (w' : World), k < 30 → Hid (Calls Tryz.prog 37 #[.int .i64 (k : Int)] w' fun x w'' => x = .returned (.tuple #[.int .i64 (iDb k : Int), .int .i64 (iDx k : Int)]) ∧ w'' = w') := fun k w' hk => rFar_c k w' (by omega)
  have HG : ∀ k, Hid (gF n (k + 1) = if iDb k ≤ n then k else gF n k) := fun k => by show _ = _; conv => lhs; unfold gF
  have HLe : ∀ k, k < 30 → iDb k ≤ 300000 := fun k hk => by have := iDb_leR k (by omega); omega
  clear HE
  go_enter Tryz.func20, Tryz.ntmps20
  go_wp2
  go_loop [3, 4] (fun s i => ∃ k : Nat, k ≤ 30 ∧ i = .int .i64 (k : Int) ∧ s = .int .i64 (gF n k : Int)) (fun _ i => (30 - intOf i).toNat)
  case atStart => exact ⟨0, by omega, rfl, rfl⟩
  case round =>
    obtain ⟨k, hk, rfl, rfl⟩ := hrel
    by_cases hlt : k < 30
    · have h1 := HX k w hlt
      have h2 := HG k
      have h3 := HLe k hlt
      have hl1 : (k : Int) < 30 := by omega
      obtain ⟨A, hA⟩ : ∃ A, A = iDb k := ⟨_, rfl⟩
      obtain ⟨B, hB⟩ : ∃ B, B = iDx k := ⟨_, rfl⟩
      obtain ⟨G, hG⟩ : ∃ G, G = gF n k := ⟨_, rfl⟩
      obtain ⟨G1, hG1⟩ : ∃ G1, G1 = gF n (k + 1) := ⟨_, rfl⟩
      rw [← hA, ← hG, ← hG1] at h2
      rw [← hA, ← hB] at h1
      rw [← hA] at h3
      rw [← hG]
      have HG1 := hide hG1
      clear HX HG HLe hA hB hG hG1
      by_cases hc : A ≤ n
      · have hc' : (A : Int) ≤ (n : Int) := by omega
        have H2 : Hid (G1 = k) := by rw [h2.out, if_pos hc]; rfl
        clear h2
        go_wp2_with (go_at_call 37; refine h1.out.mono ?_; rintro x w1 ⟨rfl, rfl⟩; clear h1)
        go_round
        case rel => exact ⟨k + 1, by omega, by go_num, by rw [← HG1.out, H2.out]⟩
        case measure => simp [intOf]; omega
      · have hc' : ¬ (A : Int) ≤ (n : Int) := by omega
        have H2 : Hid (G1 = G) := by rw [h2.out, if_neg hc]; rfl
        clear h2
        go_wp2_with (go_at_call 37; refine h1.out.mono ?_; rintro x w1 ⟨rfl, rfl⟩; clear h1)
        go_round
        case rel => exact ⟨k + 1, by omega, by go_num, by rw [← HG1.out, H2.out]⟩
        case measure => simp [intOf]; omega
    · obtain rfl : k = 30 := by omega
      obtain ⟨G, hG⟩ : ∃ G, G = gF n 30 := ⟨_, rfl⟩
      rw [← hG]
      have HG1 := hide hG
      clear HX HG HLe hG
      go_wp2
      go_ret
      exact ⟨by rw [← HG1.out]; rfl, rfl⟩
end Go.Proofs.YtlakgbckopjelaaGreatDoor

