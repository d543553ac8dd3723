/- slices.Grow of nil, slices.Concat of two: contracts. -/
import Derived.Test.YtgafejgmjenfaabHOwn
import Derived.Lib.AppendZeros
namespace Go.Proofs.Ytgafejgmjenfaab.S
set_option maxRecDepth 100000
open Go Go.RowKit

theorem slice_h_nil (K : IntKind) (W : World) : (Instr.sliceAt 22 (.slice none 0 0) none (some (.int K 0)) none).run Try.prog W = .ok (.slice none 0 0) W := by
  rw [run_sliceAt_slice _ _ _ _ _ _ (by kernel_rfl), run_slice_h W 22 none 0 0 (by kernel_rfl) K 0 (by omega) (by omega), elemB, size5]
  simp [sliced]
theorem slice_h (K : IntKind) (W : World) (b o len cap m : Nat) (h : m ≤ cap) : (Instr.sliceAt 22 (.slice (some ⟨b, o, none⟩) len cap) none (some (.int K (m : Int))) none).run Try.prog W = .ok (.slice (some ⟨b, o, none⟩) m cap) W := by
  rw [run_sliceAt_slice _ _ _ _ _ _ (by kernel_rfl), run_slice_h W 22 (some ⟨b, o, none⟩) len cap (by kernel_rfl) K (m : Int) (by omega) (by omega), elemB, size5]
  simp [sliced, addr_plain]
/-- A row that was asked for, of no bytes yet. -/
def RowOk (w : World) (e : Ending) (w' : World) : Prop := ∃ v, e = .returned v ∧ OwnsB w' w.heap.size v [] ∧ Below w.heap.size w w'
theorem zeros_made (w : World) (ty : TypeId) (n : Nat) (h0 : 0 < n) (hn : n ≤ 140737488355328) :
    ∃ c w', (Builtin.append_ #[22, 3] ty #[.slice none 0 0, .int .i64 (n : Int)]).run Try.prog w = .ok (.slice (some ⟨w.heap.size, 0, none⟩) n c) w' ∧ n ≤ c ∧ OwnsB w' w.heap.size (.slice (some ⟨w.heap.size, 0, none⟩) 0 c) [] ∧ Below w.heap.size w w' := by
  obtain ⟨i5, hi5, hz5, hs5, hb5⟩ := info_parts infoB
  have hr := Lib.run_append_nil_zeros (P := Try.prog) w 22 3 ty 5 i5 (.int .u8 0) .i64 .i64 Try.underlying22 Try.underlying3 hi5 hz5 n h0 (by rw [hs5]; omega) (by omega) (by rw [hb5]; omega)
  have hge := grownCap_ge w n 0 5
  have hle := grownCap_le_maxLen w n 0 5 (by unfold maxLen; omega)
  refine ⟨_, _, hr, hge, ⟨by simp [bV], .inr ⟨w.heap.size, _, _, rfl, Nat.le_refl _, heap_new w.drew _, Nat.zero_le _, hle, ?_, by simp [bV]⟩⟩, ?_⟩
  · rw [Array.size_append, size_zeroCells, size_zeroCells]
    simp only [Value.cells, List.size_toArray, List.length_singleton]
    omega
  · exact ((⟨rfl, rfl, rfl, Nat.le_refl _, fun _ _ => rfl⟩ : Below w.heap.size w w.drew)).alloc (Nat.le_refl _) _

set_option maxHeartbeats 4000000 in
theorem grow_c (n : Nat) (w : World) (hn : n ≤ 140737488355328) : Calls Try.prog 19 #[.slice none 0 0, .int .i64 (n : Int)] w (RowOk w) := by
  have hsn := slice_h_nil
  by_cases h0 : n = 0
  · subst h0
    go_enter Try.func19, Try.ntmps19
    go_wp2_with fail
    go_ret
    exact ⟨_, rfl, OwnsB.nil _ _, Below.refl _ _⟩
  · obtain ⟨c, w1, hr, hc, ho, hb⟩ := zeros_made w 22 n (by omega) hn
    have HR := hide hr
    have HO := hide ho
    have HB := hide hb
    have hp : (0 : Int) < (n : Int) := by omega
    have hsh := fun W => slice_h .i64 W w.heap.size 0 n c 0 (Nat.zero_le _)
    clear hr ho hb
    go_enter Try.func19, Try.ntmps19
    go_wp2_with (refine Lib.wpList_append_run w rfl (.tmp 20) (.tmp 21) 22 3 rfl (.slice none 0 0) (.int .i64 (n : Int)) (by rfl) (by rfl) _ _ HR.out ?_)
    go_ret
    exact ⟨_, rfl, HO.out, HB.out⟩

/-- The two rows that are joined, and what stands ahead of each. -/
def catPre (xs ys : List Nat) : Nat → List Nat
  | 0 => []
  | 1 => xs
  | _ => xs ++ ys
/-- What Concat answers. -/
def CatOk (xs ys : List Nat) (w : World) (e : Ending) (w' : World) : Prop := ∃ v, e = .returned v ∧ OwnsB w' w.heap.size v (xs ++ ys) ∧ Below w.heap.size w w'
/-- One of the two rows. -/
structure CatRow (w : World) (c i : Nat) (xs ys : List Nat) (A : Option Addr) (L C : Nat) (Y : List Nat) : Prop where
  cell : w.cell? ⟨c, i, none⟩ = some (.slice A L C)
  len : Y.length = L
  text : TextAt w A Y
  nil : A = none → L = 0 ∧ C = 0
  pre : catPre xs ys i ++ Y = catPre xs ys (i + 1)
theorem cat_row {c : Nat} {a b : Option Addr} {ca cb : Nat} {xs ys : List Nat} {w : World} (hc : w.heap[c]? = some (.cells #[.slice a xs.length ca, .slice b ys.length cb] 22 (0, 0))) (ha : TextAt w a xs) (hb : TextAt w b ys) (hna : a = none → xs.length = 0 ∧ ca = 0) (hnb : b = none → ys.length = 0 ∧ cb = 0)
    {i : Nat} (hi : i < 2) : ∃ A L C Y, CatRow w c i xs ys A L C Y := by
  match i, hi with
  | 0, _ => exact ⟨a, _, ca, xs, cells_of hc 0, rfl, ha, hna, rfl⟩
  | 1, _ => exact ⟨b, _, cb, ys, cells_of hc 1, rfl, hb, hnb, rfl⟩
theorem catPre_le (xs ys : List Nat) (i : Nat) : (catPre xs ys i).length ≤ xs.length + ys.length := by
  match i with
  | 0 => simp [catPre]
  | 1 => simp [catPre]
  | _ + 2 => simp [catPre]

set_option maxHeartbeats 4000000 in
theorem concat_c (c : Nat) (a b : Option Addr) (ca cb : Nat) (xs ys : List Nat) (w : World) (hc : w.heap[c]? = some (.cells #[.slice a xs.length ca, .slice b ys.length cb] 22 (0, 0))) (ha : TextAt w a xs) (hb : TextAt w b ys) (hna : a = none → xs.length = 0 ∧ ca = 0) (hnb : b = none → ys.length = 0 ∧ cb = 0) (hl : xs.length + ys.length ≤ 140737488355328) :
    Calls Try.prog 14 #[.slice (some ⟨c, 0, none⟩) 2 2] w (CatOk xs ys w) := by
  have HR := fun i (hi : i < 2) => hide (cat_row hc ha hb hna hnb hi)
  have hcl := lt_of_block' hc
  have HP := hide (catPre_le xs ys)
  clear hc ha hb hna hnb
  go_enter Try.func14, Try.ntmps14
  go_wp2_with fail
  go_loopg [3, 11] 2 (fun gk u3 u11 wx => ∃ i : Nat, i + gk = 2 ∧ u3 = .int .i64 ((catPre xs ys i).length : Nat) ∧ u11 = .int .i64 i ∧ w = wx)
  case atStart => exact ⟨0, by omega, rfl, rfl, rfl⟩
  case round =>
    obtain ⟨i, hig, rfl, rfl, rfl⟩ := hrel
    cases gk with
    | zero =>
      obtain rfl : i = 2 := by omega
      have hge : ¬ ((2 : Nat) : Int) < 2 := by omega
      have hS := HP.out 2
      have HG := hide (grow_c (catPre xs ys 2).length w (by omega))
      generalize (catPre xs ys 2).length = S at hS HG ⊢
      go_wp2_with (go_at_call 19; refine HG.out.mono ?_; rintro e w1 ⟨v6, rfl, o1, b1⟩; have O1 := hide o1; have B1 := hide b1; clear o1 b1)
      go_loopg [6, 27] 2 (fun gk u6 u27 wx => ∃ i : Nat, i + gk = 2 ∧ u27 = .int .i64 i ∧ Hid (OwnsB wx w.heap.size u6 (catPre xs ys i)) ∧ Hid (Below w.heap.size w wx))
      case atStart => exact ⟨0, by omega, rfl, O1, B1⟩
      case round =>
        obtain ⟨i, hig, rfl, OX, BX⟩ := hrel
        clear O1 B1 HG
        cases gk with
        | zero =>
          obtain rfl : i = 2 := by omega
          have hge : ¬ ((2 : Nat) : Int) < 2 := by omega
          go_wp2_with fail
          go_ret
          exact ⟨_, rfl, OX.out, BX.out⟩
        | succ g1 =>
          have hlt : (i : Int) < 2 := by omega
          obtain ⟨A, L, C, Y, hrow⟩ := (HR i (by omega)).out
          have hc := (BX.out.cell (p := ⟨c, i, none⟩) hcl).trans hrow.cell
          have HT := hide (hrow.text.below BX.out)
          have HL := hide hrow.len
          have HNL := hide hrow.nil
          have HPR := hide hrow.pre
          have hpl := HP.out i
          have hpn := HP.out (i + 1)
          have hpl2 : (catPre xs ys i).length + L ≤ 140737488355328 := by
            rw [← hrow.pre, List.length_append, hrow.len] at hpn; omega
          have hsx := BX.out.size
          have i0 : (0 : Int) ≤ (i : Int) := by omega
          clear hrow hpl hpn
          go_wp2_with (refine wpList_appB _ rfl (.tmp 31) (.tmp 32) rfl w.heap.size u6 (catPre xs ys i) (by rfl) OX.out A L C (by rfl) Y (catPre xs ys (i + 1)) HPR.out HL.out HT.out HNL.out hpl2 hsx ?_; intro v7 w2 h2 k2; have O2 := hide h2; have B2 := hide (growB OX.out BX.out k2); clear h2 k2)
          go_roundg g1
          case measure => omega
          case rel => exact ⟨i + 1, by omega, by go_num, O2, B2⟩
    | succ g1 =>
      have hlt : (i : Int) < 2 := by omega
      obtain ⟨A, L, C, Y, hrow⟩ := (HR i (by omega)).out
      have hc := hrow.cell
      have hpn := HP.out (i + 1)
      have HE := hide (show (catPre xs ys (i + 1)).length = (catPre xs ys i).length + L by rw [← hrow.pre, List.length_append, hrow.len])
      have hsum : (catPre xs ys i).length + L ≤ 140737488355328 := by rw [← HE.out]; omega
      have i0 : (0 : Int) ≤ (i : Int) := by omega
      clear hrow hpn
      generalize (catPre xs ys i).length = S0 at HE hsum ⊢
      go_wp2_with fail
      go_roundg g1
      case measure => omega
      case rel => exact ⟨i + 1, by omega, by rw [HE.out]; go_num, by go_num, rfl⟩
end Go.Proofs.Ytgafejgmjenfaab.S
