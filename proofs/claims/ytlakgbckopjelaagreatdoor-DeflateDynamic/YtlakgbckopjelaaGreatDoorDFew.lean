/- The laws' own look: do tokens tell so little that the document's way ends soon? -/
import Derived.Test.YtlakgbckopjelaaGreatDoorG34DAns
import Derived.Test.YtlakgbckopjelaaGreatDoorG33MAlive
namespace Go.Proofs.YtlakgbckopjelaaGreatDoor
set_option maxRecDepth 100000
open Go Go.RowKit

/-- What is told of the rest of the tokens, with a sum so far (as int adds). -/
def fewGo : Int → List M.Tk → Bool
  | S, [] => decide (S < 6000)
  | S, t :: r => if 300 < t.2.1 then false else fewGo (wrap64 (S + t.2.1)) r
def fewB (ts : List M.Tk) : Bool := if 600 < ts.length then false else fewGo 0 ts
theorem fewB_len {ts : List M.Tk} (h : fewB ts = true) : ts.length ≤ 600 := by
  unfold fewB at h
  split at h
  · cases h
  · omega
theorem fewGo_at {ts : List M.Tk} {i : Nat} (h : i < ts.length) (S : Int) : fewGo S (ts.drop i) = if 300 < (M.tk ts i).2.1 then false else fewGo (wrap64 (S + (M.tk ts i).2.1)) (ts.drop (i + 1)) := by
  rw [List.drop_eq_getElem_cons h]
  have e : M.tk ts i = ts[i] := M.tk_in h
  rw [e]
  rfl
set_option maxHeartbeats 1000000 in
theorem few_c (a : Option Addr) (cap : Nat) (ts : List M.Tk) (w : World) (h : M.Toks w a ts) : Calls Tryz.prog 12 #[.slice a ts.length cap] w fun e w' => e = .returned (.bool (fewB ts)) ∧ Below w.heap.size w w' := by
  by_cases hl : 600 < ts.length
  · have hf : fewB ts = false := by unfold fewB; rw [if_pos hl]
    rw [hf]
    have hl' : (600 : Int) < (ts.length : Int) := by omega
    clear h hf
    go_enter Tryz.func12, Tryz.ntmps12
    go_wp2_with fail
    go_ret
    exact ⟨rfl, Below.refl _ _⟩
  · have hf : fewB ts = fewGo 0 ts := by unfold fewB; rw [if_neg hl]
    have hl' : ¬ (600 : Int) < (ts.length : Int) := by omega
    obtain ⟨R, hR⟩ : ∃ R, fewGo 0 ts = R := ⟨_, rfl⟩
    have HR : Hid (fewGo 0 (ts.drop 0) = R) := by rw [List.drop_zero]; exact hR
    rw [hf, hR]
    have HT := hide h
    clear h hf hR
    go_enter Tryz.func12, Tryz.ntmps12
    go_wp2_with fail
    go_loopg [3, 11] ts.length (fun gk v3 v11 wx => ∃ (i : Nat) (S : Int), i + gk = ts.length ∧ v3 = .int .i64 S ∧ v11 = .int .i64 i ∧ Hid (fewGo S (ts.drop i) = R ∧ Below w.heap.size w wx))
    case atStart => exact ⟨0, 0, by omega, rfl, rfl, HR.out, Below.refl _ _⟩
    case round =>
      obtain ⟨i, S, hig, rfl, rfl, HI⟩ := hrel
      cases gk with
      | zero =>
        have hge : ¬ (i : Int) < (ts.length : Int) := by omega
        have HE : Hid (decide (S < 6000) = R) := hide (by have := HI.out.1; rwa [List.drop_eq_nil_of_le (by omega)] at this)
        go_wp2_with fail
        go_ret
        exact ⟨by rw [← HE.out]; rfl, HI.out.2⟩
      | succ g1 =>
        have hlt : (i : Int) < (ts.length : Int) := by omega
        obtain ⟨b, off, rfl, hbl, c0, c1, c2⟩ := HT.out.three HI.out.2 (i := i) (by omega)
        have HG := hide (fewGo_at (ts := ts) (i := i) (by omega) S)
        obtain ⟨t, ht⟩ : ∃ t, M.tk ts i = t := ⟨_, rfl⟩
        rw [ht] at c0 c1 c2 HG
        obtain ⟨B, L, K⟩ := t
        simp only at c0 c1 c2 HG
        have HB : Hid (Below w.heap.size w wr) := HI.out.2
        have hsz : w.heap.size ≤ wr.heap.size := HB.out.size
        have HE := hide (HG.out.symm.trans HI.out.1)
        clear HG HI HT ht HR
        by_cases hL : 300 < L
        · have HE2 : Hid (false = R) := hide (by have := HE.out; rwa [if_pos hL] at this)
          clear HE
          go_wp2_with fail
          go_ret
          exact ⟨by rw [← HE2.out]; rfl, HB.out.alloc (by omega) _⟩
        · have HE2 : Hid (fewGo (wrap64 (S + L)) (ts.drop (i + 1)) = R) := hide (by have := HE.out; rwa [if_neg hL] at this)
          clear HE
          go_wp2_with fail
          go_roundg g1
          case measure => omega
          case rel => exact ⟨i + 1, wrap64 (S + L), by omega, rfl, by go_num, HE2.out, HB.out.alloc (by omega) _⟩
/-- A slice of tokens that came in leads to a block that is there. -/
theorem tok_block {W : World} {base : Nat} {a : Addr} {len cap : Nat} (h : Value.okWide Tryz.prog W .any base 27 (.slice (some a) len cap)) : a.block < W.heap.size := by
  simp only [Value.okWide, Tryz.underlying27, Cell.okWide, Cell.ok] at h
  obtain ⟨_, _, _, _, row, cells, hs, _⟩ := h
  unfold World.shape? at hs
  rcases Nat.lt_or_ge a.block W.heap.size with h' | h'
  · exact h'
  · rw [Array.getElem?_eq_none h'] at hs
    simp at hs
theorem own_text {w : World} {b n c : Nat} {o : Option Addr} {X : List Int} (h : OwnsB w b (.slice o n c) X) (hb : ∀ i, 0 ≤ X.getD i 0 ∧ X.getD i 0 ≤ 255) : Text w.heap.size w o X.length X := by
  rcases h.2 with ⟨_, h2⟩ | ⟨g', cap, cur, hv, hg, hh, _, _, _, h4⟩
  · exact ⟨rfl, hb, .inl h2⟩
  · simp only [Value.slice.injEq] at hv
    obtain ⟨rfl, _, _⟩ := hv
    refine ⟨rfl, hb, .inr ⟨g', 0, lt_of_block hh, rfl, fun i hi => ?_⟩⟩
    rw [Nat.zero_add, cells_of hh]
    have e : (cur.toList.take (X.length * 1))[i]? = (X.map (Value.int .u8))[i]? := by rw [h4]
    rw [List.getElem?_take_of_lt (by omega), Array.getElem?_toList] at e
    rw [e]
    simp [List.getD, hi]
theorem getD_bytes {Z : List Int} (h : ∀ x ∈ Z, 0 ≤ x ∧ x ≤ 255) (i : Nat) : 0 ≤ Z.getD i 0 ∧ Z.getD i 0 ≤ 255 := by
  by_cases hi : i < Z.length
  · simp only [List.getD, List.getElem?_eq_getElem hi, Option.getD_some]
    exact h _ (List.getElem_mem hi)
  · simp [List.getD, List.getElem?_eq_none (show Z.length ≤ i by omega)]
end Go.Proofs.YtlakgbckopjelaaGreatDoor
