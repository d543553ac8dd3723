/- The law on like bytes: walked. -/
import Derived.Test.YtlakgbckopjelabGreatDoorDLike
import Derived.Test.YtlakgbckopjelabGreatDoorE11DBack
namespace Go.Proofs.YtlakgbckopjelabGreatDoor
set_option maxRecDepth 100000
open Go Go.RowKit

/-- Bytes in a block of their own. -/
def BRo (g : Nat) (xs : List Int) (w : World) : Prop := w.heap[g]? = some (.cells (xs.map (Value.int .u8)).toArray 5 (0, 0))
theorem BRo.cell {g : Nat} {xs : List Int} {w : World} (h : BRo g xs w) {i : Nat} (hi : i < xs.length) : w.cell? ⟨g, i, none⟩ = some (.int .u8 (ln xs i)) := by
  rw [cells_of h]; simp [ln, List.getD, hi]
theorem BRo.set {g : Nat} {xs : List Int} {w : World} (h : BRo g xs w) (i : Nat) (v : Int) : BRo g (xs.set i v) (w.setCell ⟨g, i, none⟩ (.int .u8 v)) := by
  unfold BRo at h ⊢
  rw [set_of h]
  simp
/-- Like bytes, so far. -/
def lk (c : Int) (M i : Nat) : List Int := List.replicate i c ++ List.replicate (M - i) 0
theorem lk_length (c : Int) (M i : Nat) (h : i ≤ M) : (lk c M i).length = M := by simp [lk]; omega
theorem lk_set (c : Int) (M i : Nat) (h : i < M) : (lk c M i).set i c = lk c M (i + 1) := by
  apply List.ext_getElem?
  intro k
  rw [List.getElem?_set]
  unfold lk
  by_cases e : i = k
  · subst e
    have hl : i < (List.replicate i c ++ List.replicate (M - i) 0).length := by simp; omega
    rw [if_pos rfl, if_pos hl, List.getElem?_append_left (by simp)]
    simp
  · rw [if_neg e]
    by_cases hk : k < i
    · rw [List.getElem?_append_left (by simpa using hk), List.getElem?_append_left (by simp; omega)]
      simp [hk, show k < i + 1 by omega]
    · rw [List.getElem?_append_right (by simpa using hk), List.getElem?_append_right (by simp; omega)]
      simp only [List.length_replicate, List.getElem?_replicate]
      have : (k - i < M - i) ↔ (k - (i + 1) < M - (i + 1)) := by omega
      simp only [this]
theorem lk_all (c : Int) (M : Nat) : lk c M M = List.replicate M c := by simp [lk]
theorem made_like (n : Nat) (hn : n ≤ 1000000000) (W : World) :
    (Instr.makeSlice 23 (.int .i64 (n : Int)) (.int .i64 (n : Int))).run Tryz.prog W = .ok (.slice (some ⟨W.heap.size, 0, none⟩) n n) (W.alloc (.cells ((List.replicate n (0 : Int)).map (Value.int .u8)).toArray 5)) := by
  obtain ⟨i, hi, hz, hs, hb⟩ := info_parts Tryz.info5
  have := run_make (P := Tryz.prog) W 23 5 i (.int .u8 0) Tryz.underlying23 hi hz .i64 .i64 n n (by omega) (by omega) (by rw [hb]; omega) (by omega)
  rw [this, hs]
  have e2 : madeCells (Value.int .u8 0).cells n = ((List.replicate n (0 : Int)).map (Value.int .u8)).toArray := by
    have := toList_madeCells_one (Value.int .u8 0) n
    rw [← Array.toList_inj]
    simpa [Value.cells] using this
  rw [Int.toNat_natCast, Nat.mul_one, e2]
theorem BRo.text {g : Nat} {xs : List Int} {w : World} (h : BRo g xs w) (hr : ∀ x ∈ xs, 0 ≤ x ∧ x ≤ 255) : Text w.heap.size w (some ⟨g, 0, none⟩) xs.length xs := by
  refine ⟨rfl, fun i => ?_, .inr ⟨g, 0, lt_of_block h, rfl, fun i hi => by rw [Nat.zero_add]; exact h.cell hi⟩⟩
  by_cases hi : i < xs.length
  · simp only [List.getD, List.getElem?_eq_getElem hi, Option.getD_some]
    exact hr _ (List.getElem_mem hi)
  · simp [List.getD, List.getElem?_eq_none (show xs.length ≤ i by omega)]
/-- Deflate of like bytes: short, and read as they are. -/
theorem like_in {w : World} {g n : Nat} {zs : List Int} {c : Int} (hz : zs = List.replicate n c) (hc : 0 ≤ c ∧ c ≤ 255) (h : BRo g zs w) (hT : Tab w) (h4 : 4 ≤ n) (hn : n ≤ 20000) (lv : Int) (hlv : 1 ≤ lv) :
    Calls Tryz.prog 5 #[.slice (some ⟨g, 0, none⟩) n n, .int .i64 lv] w fun e w' => ∃ g' c' m, e = .returned (.slice (some ⟨g', 0, none⟩) m c') ∧ Below w.heap.size w w' ∧ m ≤ 20 + n / 50 ∧ (n ≤ 3000 → ∀ W, Below w'.heap.size w' W → Calls Tryz.prog 6 #[.slice (some ⟨g', 0, none⟩) m c', .slice (some ⟨g, 0, none⟩) n n] W fun e w'' => e = .returned (.bool true) ∧ Below W.heap.size W w'') := by
  have hzl : zs.length = n := by rw [hz, List.length_replicate]
  have hzm : ∀ x ∈ zs, 0 ≤ x ∧ x ≤ 255 := fun x hx => by rw [hz] at hx; rw [List.eq_of_mem_replicate hx]; exact hc
  have hlike : ∀ i, i < zs.length → M.ln zs i = M.ln zs 0 := fun i hi => by
    have e : ∀ j, j < n → M.ln zs j = c := fun j hj => by
      unfold M.ln
      rw [hz]
      simp [List.getD, hj]
    rw [e i (by omega), e 0 (by omega)]
  have ht := h.text hzm
  subst hzl
  have hone : ∀ ts : List M.Tk, M.FdTo zs zs.length ts → ts.length ≤ zs.length → ts.length ≤ 16384 := fun ts hf _ => by
    have := like_few hlike hf
    omega
  refine (deflate_any w hT hT.pos (some ⟨g, 0, none⟩) zs.length zs lv ht (fun e => by cases e) (Nat.le_refl _) (by omega) (by omega) hone).mono ?_
  rintro e w' ⟨g', c', X, rfl, o, hX, b⟩
  have hlx := hX.len
  refine ⟨g', c', X.length, rfl, b, like_len hX hlv hlike h4, fun h3 W hW => ?_⟩
  have bW : Below w.heap.size w W := b.trans (hW.mono b.size)
  exact tells_yes W (some ⟨g', 0, none⟩) c' zs.length X zs (some ⟨g, 0, none⟩) (owns_text (o.below hW) (hX.bytes hzm)) ((ht.kept (Kept.of_below bW) (fun b hb e => by omega)).up bW.size) (by omega) (by omega) (hX.ans hzm)
set_option maxHeartbeats 4000000 in
theorem like_walk (c many lv : Int) (hcb : 0 ≤ c ∧ c ≤ 255) (w : World) (hT : Tab w) :
    Calls Tryz.prog 3 #[.int .u8 c, .int .i64 many, .int .i64 lv] w fun e w' => e = .returned (.bool true) ∧ Below w.heap.size w w' := by
  have HA : Hid (∀ W, Below w.heap.size w W → Calls Tryz.prog 4 #[] W fun e w' => e = .returned (.bool true) ∧ Below W.heap.size W w') := fun W hW => alive_c W (hT.on hW)
  by_cases h1 : many < 4
  case pos =>
    clear hT
    go_enter Tryz.func3, Tryz.ntmps3
    go_wp2_with (go_at_call 4; refine (HA.out _ (Below.refl _ _)).mono ?_; rintro e w1 ⟨rfl, b1⟩)
    go_ret
    exact ⟨rfl, b1⟩
  by_cases h2 : 20000 < many
  case pos =>
    clear hT
    go_enter Tryz.func3, Tryz.ntmps3
    go_wp2_with (go_at_call 4; refine (HA.out _ (Below.refl _ _)).mono ?_; rintro e w1 ⟨rfl, b1⟩)
    go_ret
    exact ⟨rfl, b1⟩
  by_cases h3 : lv < 1
  case pos =>
    clear hT
    go_enter Tryz.func3, Tryz.ntmps3
    go_wp2_with (go_at_call 4; refine (HA.out _ (Below.refl _ _)).mono ?_; rintro e w1 ⟨rfl, b1⟩)
    go_ret
    exact ⟨rfl, b1⟩
  obtain ⟨M, rfl⟩ : ∃ M : Nat, many = M := ⟨many.toNat, by omega⟩
  obtain ⟨Z0, hZ0⟩ : ∃ Z0, ((lk c M 0).map (Value.int .u8)).toArray = Z0 := ⟨_, rfl⟩
  have hmk : ∀ W : World, (Instr.makeSlice 23 (.int .i64 (M : Int)) (.int .i64 (M : Int))).run Tryz.prog W = .ok (.slice (some ⟨W.heap.size, 0, none⟩) M M) (W.alloc (.cells Z0 5)) := fun W => by
    rw [← hZ0]
    have e : lk c M 0 = List.replicate M (0 : Int) := by simp [lk]
    rw [e]
    exact made_like M (by omega) W
  have HZ := hide hZ0
  have HT := hide hT
  clear hT hZ0
  go_enter Tryz.func3, Tryz.ntmps3
  go_wp2_with fail
  go_loopg [8, 25] M (fun gk v8 v25 wx => ∃ i : Nat, i + gk = M ∧ v25 = .int .i64 i ∧ Hid (BRo w.heap.size (lk c M i) wx ∧ Below w.heap.size w wx))
  case atStart =>
    refine ⟨0, by omega, rfl, ?_, (Below.refl _ w).alloc (Nat.le_refl _) _⟩
    unfold BRo
    rw [HZ.out]
    exact heap_new w _
  case round =>
    clear HZ hmk
    obtain ⟨i, hig, rfl, HR⟩ := hrel
    cases gk with
    | succ g1 =>
      have hlt : (i : Int) < (M : Int) := by omega
      have t0 := HR.out.1.cell (i := i) (by rw [lk_length c M i (by omega)]; omega)
      have f0 := free_of HR.out.1 i
      have hset := HR.out.1.set i c
      rw [lk_set c M i (by omega)] at hset
      have HSET := hide hset
      clear hset
      generalize ln (lk c M i) i = E0 at t0
      go_wp2_with fail
      go_roundg g1
      case measure => omega
      case rel => exact ⟨i + 1, by omega, by go_num, HSET.out, HR.out.2.setCell (Nat.le_refl _) _⟩
    | zero =>
      obtain rfl : i = M := by omega
      have hro := HR.out.1
      rw [lk_all] at hro
      have hge : ¬ (i : Int) < (i : Int) := by omega
      have HL := hide (like_in rfl hcb hro (HT.out.on HR.out.2) (by omega) (by omega) lv (by omega))
      have HB := hide HR.out.2
      clear hro HR HT
      by_cases h30 : i ≤ 3000
      · have g30 : ¬ (3000 : Int) < (i : Int) := by omega
        go_wp2_with (first
          | (go_at_call 5; refine HL.out.mono ?_; rintro e w2 ⟨g', c', m, rfl, b2, hm, ht⟩; have B2 := hide (HB.out.trans (b2.mono HB.out.size)); have HTL := hide (ht h30); have hm' : (m : Int) ≤ 20 + (i : Int) / 50 := (by omega); clear b2 ht HL)
          | (go_at_call 4; refine (HA.out _ B2.out).mono ?_; rintro e w3 ⟨rfl, b3⟩; have B3 := hide (B2.out.trans (b3.mono B2.out.size)); have HT3 := hide (HTL.out _ b3); clear b3 HTL)
          | (go_at_call 6; refine HT3.out.mono ?_; rintro e w4 ⟨rfl, b4⟩; have B4 := hide (B3.out.trans (b4.mono B3.out.size)); clear b4 HT3))
        go_ret
        exact ⟨rfl, B4.out⟩
      · have g30 : (3000 : Int) < (i : Int) := by omega
        go_wp2_with (first
          | (go_at_call 5; refine HL.out.mono ?_; rintro e w2 ⟨g', c', m, rfl, b2, hm, ht⟩; have B2 := hide (HB.out.trans (b2.mono HB.out.size)); have hm' : (m : Int) ≤ 20 + (i : Int) / 50 := (by omega); clear b2 ht HL)
          | (go_at_call 4; refine (HA.out _ B2.out).mono ?_; rintro e w3 ⟨rfl, b3⟩; have B3 := hide (B2.out.trans (b3.mono B2.out.size)); clear b3))
        go_ret
        exact ⟨rfl, B3.out⟩
end Go.Proofs.YtlakgbckopjelabGreatDoor
