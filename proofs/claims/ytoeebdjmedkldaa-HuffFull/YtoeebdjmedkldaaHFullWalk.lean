/- HuffFull's walk. -/
import Derived.Test.YtoeebdjmedkldaaHOpen
namespace Go.Proofs.Ytoeebdjmedkldaa
open Go.ChangeShapes Go.WideShapes Go.ChangeAt Go.RowKit

section
variable {H : Type} {enc : TypeId × Value → H} {W : World}
theorem Try.cells47 : Try.prog.cellsOf 47 = 2 := by kernel_rfl
theorem open_two {base : Nat} {v : Value} {d : DataW H} {p : List MemPlace} (hval : Value.okWide Try.prog W .any base 47 v) (h : DataW.Trod enc Try.prog W 0 (fun _ => true) true 47 v d p) : ∃ x y : Int, v = .agg #[.int .u8 x, .int .u8 y] ∧ (0 ≤ x ∧ x ≤ 255) ∧ (0 ≤ y ∧ y ≤ 255) := by
  unfold Value.okWide at hval
  rw [Try.underlying47] at hval
  obtain ⟨cs, rfl, hs, _⟩ := hval
  rw [Try.cells47] at hs
  obtain ⟨c0, c1, rfl⟩ : ∃ c0 c1, cs = #[c0, c1] := by
    obtain ⟨l⟩ := cs
    match l, hs with
    | [a, b], _ => exact ⟨a, b, rfl⟩
  obtain ⟨fuel, hf⟩ := h
  obtain ⟨xs, m, rfl, _, _, hx, he⟩ := DataW.trod_array Try.underlying47 hf
  have e0 := he 0 (by omega)
  have e1 := he 1 (by omega)
  rw [Try.cells5] at e0 e1
  simp [Value.cells] at e0 e1
  have l0 : 0 < xs.length := by omega
  have l1 : 1 < xs.length := by omega
  rw [List.getElem?_eq_getElem l0] at e0
  rw [List.getElem?_eq_getElem l1] at e1
  obtain ⟨x, hx1, _, hx2⟩ := DataW.trod_int Try.underlying5 e0
  obtain ⟨y, hy1, _, hy2⟩ := DataW.trod_int Try.underlying5 e1
  simp at hx1 hy1
  subst hx1 hy1
  exact ⟨x, y, rfl, bounds_u8 hx2, bounds_u8 hy2⟩
end

theorem full_err {ls : List Int} {N s n : Nat} {err : Int} {b : Nat → Nat} (hb : ∀ i, b i ≤ 1) (hc : check ls false = 0) (hN : Longest ls N) (h : NextIs ls b 16 N s n err) : err = 0 ∧ s < ls.length ∧ ln ls s = (n : Int) ∧ n ≤ 16 := by
  obtain ⟨h1, h2, h3⟩ := check_ok hc
  have hw : ws ls 15 = 32768 := by
    unfold amiss at h3
    split at h3
    · simp at h3
    · split at h3
      · simp at h3
      · rename_i q1 q2
        simp at q2
        omega
  rcases h with ⟨k1, k2, k3, k4, k5, k6⟩ | ⟨_, _, k3, _⟩
  · exact ⟨k1, k3, k5, k2⟩
  · exfalso
    obtain ⟨m, hm, hh⟩ := full_hit ls hw b hb N hN.le (fun k q1 q2 => hN.zero k q1)
    exact k3 m (by have := hN.le; omega) hh

theorem two_text {W : World} {g : Nat} {x y : Int} {t : TypeId} {fr : Nat × Nat} (h : W.heap[g]? = some (.cells #[.int .u8 x, .int .u8 y] t fr)) (hx : 0 ≤ x ∧ x ≤ 255) (hy : 0 ≤ y ∧ y ≤ 255) : Text (g + 1) W (some ⟨g, 0, none⟩) 2 [x, y] := by
  refine ⟨rfl, fun i => ?_, .inr ⟨g, 0, by omega, rfl, fun i hi => ?_⟩⟩
  · match i with
    | 0 => simpa using hx
    | 1 => simpa using hy
    | i + 2 => simp [List.getD]
  · have : W.cell? ⟨g, 0 + i, none⟩ = (#[.int .u8 x, .int .u8 y] : Array Value)[i]? := by simp [World.cell?, h]
    rw [this]
    match i, hi with
    | 0, _ => rfl
    | 1, _ => rfl

theorem next_full {w w1 : World} {bc gl gc : Nat} {vo : Value} {N : Nat} {ls : List Int} {x y : Int} (hc : check ls false = 0) (c : CodeAt (w.heap.size + 1) w1.heap.size w1 bc gl gc vo N ls) (hb : w1.heap[w.heap.size]? = some (.cells #[.int .u8 x, .int .u8 y] 47 (0, 0))) (hx : 0 ≤ x ∧ x ≤ 255) (hy : 0 ≤ y ∧ y ≤ 255) :
    Calls Try.prog 16 #[.pointer (some ⟨bc, 0, none⟩), .pointer (some ⟨w1.heap.size, 0, none⟩)] (w1.alloc (.cells #[.slice (some ⟨w.heap.size, 0, none⟩) 2 2, .int .i64 0] 60)) fun e w' => ∃ s n : Nat, e = .returned (.tuple #[.int .i64 (s : Int), .int .i64 0]) ∧ s < ls.length ∧ ln ls s = (n : Int) ∧ n ≤ 16 ∧ w'.heap[w1.heap.size]? = some (.cells #[.slice (some ⟨w.heap.size, 0, none⟩) 2 2, .int .i64 (n : Int)] 60 (0, 0)) ∧ Below w1.heap.size w1 w' := by
  have hbel : Below w1.heap.size w1 (w1.alloc (.cells #[.slice (some ⟨w.heap.size, 0, none⟩) 2 2, .int .i64 0] 60)) := (Below.refl _ w1).alloc (Nat.le_refl _) _
  refine (next_any (w.heap.size + 1) w1.heap.size bc gl gc vo N ls w1.heap.size _ 2 2 0 [x, y] (w.heap.size + 1) _ (c.below hbel (Nat.le_refl _)) (check_good hc) (check_ok hc).1 (heap_new _ _) (two_text (heap_old hb) hx hy) (by omega) (by omega) (.inr (Nat.le_refl _)) (by have := lt_of_block hb; omega)).mono ?_
  rintro e w' ⟨s, n, err, hnx, rfl, ⟨q, hq, _, hq2⟩, hk⟩
  obtain ⟨rfl, h1, h2, h3⟩ := full_err (bz_le _ _) hc c.long hnx
  have := hq2 rfl
  rw [Nat.zero_add] at this
  subst this
  exact ⟨s, q, rfl, h1, h2, h3, hq, hbel.trans (hk.below (by simp) (fun i hi e => by omega))⟩

set_option maxHeartbeats 1000000 in
set_option maxRecDepth 100000 in
theorem full_walk (B : Nat) (a : Option Addr) (cap : Nat) (ls : List Int) (x y : Int) (w : World) (hi : Ints 0 B w a ls) (hx : 0 ≤ x ∧ x ≤ 255) (hy : 0 ≤ y ∧ y ≤ 255) :
    Calls Try.prog 7 #[.slice a ls.length cap, .agg #[.int .u8 x, .int .u8 y]] w fun e w' => e = .returned (.bool true) ∧ Below w.heap.size w w' := by
  have HB0 : Hid (Below w.heap.size w (w.alloc (.cells #[.int .u8 x, .int .u8 y] 47))) := (Below.refl _ w).alloc (Nat.le_refl _) _
  have hsz0 : (w.alloc (.cells #[.int .u8 x, .int .u8 y] 47)).heap.size = w.heap.size + 1 := by simp
  have HX : Hid (0 ≤ x ∧ x ≤ 255) := hx
  have HY : Hid (0 ≤ y ∧ y ≤ 255) := hy
  clear hx hy
  by_cases hc : check ls false = 0
  · have HM := make_ok B a cap ls false (w.alloc (.cells #[.int .u8 x, .int .u8 y] 47)) hc (hi.stay HB0.out)
    rw [hsz0] at HM
    have HH : Hid (Calls Try.prog 9 #[.slice a ls.length cap, .bool false] (w.alloc (.cells #[.int .u8 x, .int .u8 y] 47)) fun e w' => ∃ bc gl gc vo N, e = .returned (.tuple #[.pointer (some ⟨bc, 0, none⟩), .int .i64 0]) ∧ CodeAt (w.heap.size + 1) w'.heap.size w' bc gl gc vo N ls ∧ Below (w.heap.size + 1) (w.alloc (.cells #[.int .u8 x, .int .u8 y] 47)) w') := HM
    have HCk : Hid (check ls false = 0) := hc
    have HI : Hid (Ints 0 B w a ls) := hi
    clear HM hsz0 hc hi
    go_enter Try.func7, Try.ntmps7
    go_upto_region 6 with (first
      | (go_at_call 9; refine HH.out.mono ?_; rintro e w1 ⟨bc, gl, gc, vo, N, rfl, c1, b1⟩; have B1 : Hid (Below w.heap.size w w1) := HB0.out.trans (b1.mono (by omega)); have C1 : Hid (CodeAt (w.heap.size + 1) w1.heap.size w1 bc gl gc vo N ls) := c1; have T1 : Hid (w1.heap[w.heap.size]? = some (.cells #[.int .u8 x, .int .u8 y] 47 (0, 0))) := (b1.block w.heap.size (by omega)).trans (heap_new _ _); clear b1 c1)
      | (go_at_call 15; refine (newReader_any _ _ _ _).mono ?_; rintro e w2 ⟨rfl, rfl⟩)
      | (go_at_call 16; refine (next_full HCk.out C1.out T1.out HX.out HY.out).mono ?_; rintro e w3 ⟨s, n, rfl, hs, hln, hn16, hr3, b3⟩; have B3 : Hid (Below w.heap.size w w3) := B1.out.trans (b3.mono B1.out.size); have r0 := cells_of hr3 0; have r1 := cells_of hr3 1; have R3 : Hid (w3.heap[w1.heap.size]? = some (.cells #[.slice (some ⟨w.heap.size, 0, none⟩) 2 2, .int .i64 (n : Int)] 60 (0, 0))) := hr3; simp at r0 r1; clear b3 hr3))
    obtain ⟨b, off, _, _, hb, rfl, hcell⟩ := (HI.out.stay B3.out).resolve_left (by omega)
    have hcs := hcell s hs
    rw [hln] at hcs
    have hbr : w1.heap.size < w3.heap.size := lt_of_block R3.out
    clear hcell hln
    go_region_held3 (fun w' => w'.cell? ⟨b, off + s, none⟩ = some (.int .i64 (n : Int)) ∧ w'.cell? ⟨w1.heap.size, 0, none⟩ = some (.slice (some ⟨w.heap.size, 0, none⟩) 2 2) ∧ w'.cell? ⟨w1.heap.size, 1, none⟩ = some (.int .i64 (n : Int))) (first | go_keep | assumption) (first
      | (go_at_call 10; refine (alive_any _).mono ?_; rintro e w4 ⟨rfl, b4⟩; have q0 : w4.cell? ⟨b, off + s, none⟩ = some (.int .i64 (n : Int)) := (b4.cell (p := ⟨b, off + s, none⟩) (by exact hb)).trans hcs; have q1 : w4.cell? ⟨w1.heap.size, 0, none⟩ = some (.slice (some ⟨w.heap.size, 0, none⟩) 2 2) := (b4.cell (p := ⟨w1.heap.size, 0, none⟩) (by exact hbr)).trans r0; have q2 : w4.cell? ⟨w1.heap.size, 1, none⟩ = some (.int .i64 (n : Int)) := (b4.cell (p := ⟨w1.heap.size, 1, none⟩) (by exact hbr)).trans r1; have B4 : Hid (Below w.heap.size w w4) := B3.out.drew.trans (b4.mono B3.out.size); clear b4)
      | (go_at_call 22; refine (left_any w1.heap.size _ 2 2 n _ (by assumption) (by assumption) (by omega) (by omega) (by omega)).mono ?_; rintro e w5 ⟨rfl, k5, rfl⟩))
    all_goals go_wp2
    all_goals go_ret
    all_goals
      have e : ((n : Int) == IntKind.i64.wrap (16 - (16 - (n : Int)))) = true := by
        have e1 : IntKind.i64.wrap (16 - (16 - (n : Int))) = (n : Int) := by rw [IntKind.wrap_i64]; omega
        rw [e1]; simp
      have bb := B4.out
      exact ⟨congrArg (fun x => Ending.returned (.bool x)) e, ⟨bb.os, bb.tape, bb.output, bb.size, bb.block⟩⟩
  · have HM := make_err B a cap ls false (w.alloc (.cells #[.int .u8 x, .int .u8 y] 47)) hc (hi.stay HB0.out)
    generalize check ls false = C at hc HM
    have HH : Hid (Calls Try.prog 9 #[.slice a ls.length cap, .bool false] (w.alloc (.cells #[.int .u8 x, .int .u8 y] 47)) fun e w' => e = .returned (.tuple #[.pointer none, .int .i64 C]) ∧ Below (w.alloc (.cells #[.int .u8 x, .int .u8 y] 47)).heap.size (w.alloc (.cells #[.int .u8 x, .int .u8 y] 47)) w') := HM
    clear HM hsz0
    go_enter Try.func7, Try.ntmps7
    go_wp2_with (first
      | (go_at_call 9; refine HH.out.mono ?_; rintro e w1 ⟨rfl, b1⟩; have B1 : Hid (Below w.heap.size w (w1.alloc (.cells #[.slice (some ⟨w.heap.size, 0, none⟩) 2 2, .int .i64 0] 60))) := (HB0.out.trans (b1.mono (by simp))).alloc (by have := b1.size; simp at this; omega) _; clear b1)
      | (go_at_call 15; refine (newReader_any _ _ _ _).mono ?_; rintro e w2 ⟨rfl, rfl⟩)
      | (go_at_call 10; refine (alive_any _).mono ?_; rintro e w4 ⟨rfl, b4⟩; have B4 : Hid (Below w.heap.size w w4) := B1.out.trans (b4.mono B1.out.size); clear b4))
    go_ret
    exact ⟨rfl, B4.out⟩
end Go.Proofs.Ytoeebdjmedkldaa
