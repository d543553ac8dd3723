/- The comparison that the sort is given, and the library's sort by insertion. -/
import Derived.Test.YtdeigchkpakdaaaLSwap
namespace Go.Proofs.Ytdeigchkpakdaaa
open Go Go.RowKit

/-- Which of two numbers is less. -/
def cmpv (x y : Int) : Int := if x < y then -1 else if y < x then 1 else 0
theorem cmpv_lt (x y : Int) : cmpv x y < 0 ↔ x < y := by unfold cmpv; split <;> (try split) <;> omega

theorem isNaN_c (x : Int) (w : World) : Calls Try.prog 30 #[.int .i64 x] w fun e w' => e = .returned (.bool false) ∧ w' = w := by
  go_enter Try.func30, Try.ntmps30
  go_wp2_with fail
  go_ret
  exact ⟨by simp, rfl⟩
theorem compare_c (x y : Int) (w : World) : Calls Try.prog 25 #[.int .i64 x, .int .i64 y] w fun e w' => e = .returned (.int .i64 (cmpv x y)) ∧ w' = w := by
  unfold cmpv
  by_cases h1 : x < y
  · go_enter Try.func25, Try.ntmps25
    go_wp2_with (go_at_call 30; refine (isNaN_c _ _).mono ?_; rintro e w ⟨rfl, rfl⟩)
    go_ret
    exact ⟨by simp, rfl⟩
  · by_cases h2 : y < x
    · go_enter Try.func25, Try.ntmps25
      go_wp2_with (go_at_call 30; refine (isNaN_c _ _).mono ?_; rintro e w ⟨rfl, rfl⟩)
      go_ret
      exact ⟨by simp, rfl⟩
    · go_enter Try.func25, Try.ntmps25
      go_wp2_with (go_at_call 30; refine (isNaN_c _ _).mono ?_; rintro e w ⟨rfl, rfl⟩)
      go_ret
      exact ⟨by simp, rfl⟩

set_option maxRecDepth 100000 in
theorem closure_c (B b off len cap x y : Nat) (X Y : Int) (w : World) (hB : w.cell? ⟨B, 0, none⟩ = some (.slice (some ⟨b, off, none⟩) len cap)) (hx : x < len) (hy : y < len) (cx : w.cell? ⟨b, off + x, none⟩ = some (.int .i64 X)) (cy : w.cell? ⟨b, off + y, none⟩ = some (.int .i64 Y)) :
    Calls Try.prog 24 #[.int .i64 x, .int .i64 y, .pointer (some ⟨B, 0, none⟩)] w fun e w' => e = .returned (.int .i64 (cmpv X Y)) ∧ ∃ q, w' = w.drewN q := by
  have hx' : (x : Int) < (len : Int) := by omega
  have hy' : (y : Int) < (len : Int) := by omega
  generalize hC : cmpv X Y = C
  have hcc : ∀ W, Calls Try.prog 25 #[.int .i64 X, .int .i64 Y] W fun e w' => e = .returned (.int .i64 C) ∧ w' = W := fun W => hC ▸ compare_c X Y W
  clear hC
  go_enter Try.func24, Try.ntmps24
  go_wp2_with fail
  go_quiet ((go_at_call 25; exact Calls.quiet_of_same (hcc _)))
  go_wp2_with fail
  go_ret
  exact ⟨rfl, nq, rfl⟩

/-- What the sort is given: a comparison by a key, of those of which P holds, while no block but the row's is written. -/
def CmpOk (w0 : World) (g : Nat) (P : Int → Prop) (k : Int → Int) (bp : Value) : Prop :=
  ∀ w, Kept (fun i => i = g) w0 w → ∀ x y, P x → P y → Calls Try.prog 24 #[.int .i64 x, .int .i64 y, bp] w fun e w' => e = .returned (.int .i64 (cmpv (k x) (k y))) ∧ ∃ q, w' = w.drewN q
theorem CmpOk.after {w0 w1 : World} {g : Nat} {P : Int → Prop} {k : Int → Int} {bp : Value} (h : CmpOk w0 g P k bp) (hk : Kept (fun i => i = g) w0 w1) : CmpOk w1 g P k bp := fun w h1 x y hx hy => h w (hk.trans h1 (fun _ _ h => h)) x y hx hy
def All (P : Int → Prop) (d : List Int) : Prop := ∀ x ∈ d, P x
theorem All.at {P : Int → Prop} {d : List Int} (h : All P d) {i : Nat} (hi : i < d.length) : P (ln d i) := by rw [ln_in hi]; exact h _ (List.getElem_mem hi)
theorem All.stir {P : Int → Prop} {d e : List Int} {a b : Nat} (h : All P d) (s : Stir a b d e) : All P e := fun x hx => h x (s.perm.mem_iff.1 hx)

set_option maxRecDepth 100000 in
theorem insertion_c (g : Nat) (sp : Array Value) (cap a b : Nat) (d : List Int) (bp : Value) (w : World) (P : Int → Prop) (k : Int → Int) (hC : CmpOk w g P k bp) (hP : All P d) (h : Ro g sp d w) (hab : a ≤ b) (hb : b ≤ d.length) (hl : d.length < 4611686018427387904) :
    Calls Try.prog 31 #[.slice (some ⟨g, 0, none⟩) d.length cap, .int .i64 a, .int .i64 b, .func (.func 24) #[] #[bp]] w fun e w' =>
      e = .returned (.tuple #[]) ∧ ∃ d', Srt k d' a b ∧ Stir a b d d' ∧ Ro g sp d' w' ∧ Kept (fun k => k = g) w w' := by
  have HR : Hid (Ro g sp d w) := h
  have HP : Hid (All P d) := hP
  have HC : Hid (CmpOk w g P k bp) := hC
  clear h hP hC
  go_enter Try.func31, Try.ntmps31
  go_wp2_with fail
  go_loopg [8] (b - a) (fun gk v8 wx => ∃ (i : Nat) (dk : List Int), v8 = .int .i64 i ∧ a < i ∧ b + 1 - i ≤ gk + 1 ∧ Hid (Srt k dk a i ∧ (i ≤ b ∨ b ≤ a + 1 ∧ i = a + 1) ∧ Stir a b d dk ∧ Ro g sp dk wx ∧ Kept (fun k => k = g) w wx))
  case atStart => exact ⟨a + 1, d, by go_num, by omega, by omega, Srt.one _ _ _ (by omega), by omega, Stir.refl _ _ _, HR.out, Kept.refl _ _⟩
  case round =>
    obtain ⟨i, dk, rfl, hai, hg1, HI⟩ := hrel
    by_cases hib : i < b
    · have hib' : (i : Int) < (b : Int) := by omega
      go_wp2_with fail
      go_loopg [9] i (fun g2 v9 wx => ∃ (j : Nat) (dj : List Int), v9 = .int .i64 j ∧ a ≤ j ∧ j ≤ i ∧ j ≤ g2 ∧ Hid (Ins k dj a i j ∧ Stir a b d dj ∧ Ro g sp dj wx ∧ Kept (fun k => k = g) w wx))
      case atStart => exact ⟨i, dk, rfl, by omega, Nat.le_refl _, Nat.le_refl _, Ins.start HI.out.1, HI.out.2.2⟩
      case round =>
        obtain ⟨j, dj, rfl, haj, hji, hg2, HJ⟩ := hrel
        have HL : Hid (dj.length = d.length) := HJ.out.2.1.len
        have HPj : Hid (All P dj) := HP.out.stir HJ.out.2.1
        by_cases hja : a < j
        · obtain ⟨jp, rfl⟩ : ∃ jp, j = jp + 1 := ⟨j - 1, by omega⟩
          have c1 := HJ.out.2.2.1.cell (i := jp + 1) (by rw [HL.out]; omega)
          have c0 := HJ.out.2.2.1.cell (i := jp) (by rw [HL.out]; omega)
          have hc := fun n => HC.out _ (HJ.out.2.2.2.drewN n) _ _ (HPj.out.at (i := jp + 1) (by rw [HL.out]; omega)) (HPj.out.at (i := jp) (by rw [HL.out]; omega))
          have hja' : (a : Int) < (jp : Int) + 1 := by omega
          have jz : (jp : Int) + 1 < (d.length : Int) := by omega
          have jz1 : (jp : Int) < (d.length : Int) := by omega
          have p0 : (0 : Int) ≤ (jp : Int) + 1 := by omega
          have e0 : ((jp : Int) + 1).toNat = jp + 1 := by omega
          have hwp : IntKind.i64.wrap (jp : Int) = (jp : Int) := by rw [IntKind.wrap_i64]; omega
          by_cases hlv : k (ln dj (jp + 1)) < k (ln dj jp)
          · have hCn : cmpv (k (ln dj (jp + 1))) (k (ln dj jp)) < 0 := (cmpv_lt _ _).2 hlv
            generalize cmpv (k (ln dj (jp + 1))) (k (ln dj jp)) = C at hc hCn
            generalize hX : ln dj (jp + 1) = X at c1 hc
            generalize hY : ln dj jp = Y at c0 hc
            have EX := hide hX
            have EY := hide hY
            have HLV := hide hlv
            clear hX hY hlv
            go_wp2_with fail
            go_quiet ((go_at_call 24; exact Calls.quiet_of (hc _)))
            go_wp2_with fail
            have c1' : (wr.drewN nq).cell? ⟨g, jp + 1, none⟩ = some (.int .i64 X) := c1
            have c0' : (wr.drewN nq).cell? ⟨g, jp, none⟩ = some (.int .i64 Y) := c0
            have f1' : (wr.drewN nq).frozen? ⟨g, jp + 1, none⟩ = false := HJ.out.2.2.1.free _
            have f0' : (wr.drewN nq).frozen? ⟨g, jp, none⟩ = false := HJ.out.2.2.1.free _
            have R' : Hid (Ro g sp dj (wr.drewN nq)) := HJ.out.2.2.1
            have K' : Hid (Kept (fun k => k = g) w (wr.drewN nq)) := HJ.out.2.2.2.drewN nq
            have I' : Hid (Ins k dj a i (jp + 1) ∧ Stir a b d dj) := ⟨HJ.out.1, HJ.out.2.1⟩
            clear c1 c0 hc HJ
            generalize wr.drewN nq = wq at c1' c0' f1' f0' R' K' ⊢
            go_region
            go_wp2_with fail
            go_roundg jp
            case measure => omega
            case rel =>
              have hs := I'.out.1.step (by omega) hji (by rw [HL.out]; omega) HLV.out
              simp only [Nat.add_sub_cancel] at hs
              refine ⟨jp, swp dj (jp + 1) jp, by go_num, by omega, by omega, Nat.le_refl _, hs, I'.out.2.trans (Stir.swp (by omega) (by omega) (by omega) (by omega) (by rw [HL.out]; omega)), ?_, ?_⟩
              · have := R'.out.swp (i := jp + 1) (j := jp) (by rw [HL.out]; omega) (by rw [HL.out]; omega)
                rw [EX.out, EY.out] at this
                exact this
              · exact ((K'.out.setCell (fun _ => rfl) _).setCell (fun _ => rfl) _).drew
          · have hCn : ¬ cmpv (k (ln dj (jp + 1))) (k (ln dj jp)) < 0 := fun h => hlv ((cmpv_lt _ _).1 h)
            generalize cmpv (k (ln dj (jp + 1))) (k (ln dj jp)) = C at hc hCn
            generalize hX : ln dj (jp + 1) = X at c1 hc
            generalize hY : ln dj jp = Y at c0 hc
            have HLV := hide (Int.not_lt.1 hlv)
            clear hX hY hlv
            go_wp2_with fail
            go_quiet ((go_at_call 24; exact Calls.quiet_of (hc _)))
            go_wp2_with fail
            go_roundg (b - (i + 1))
            case measure => omega
            case rel =>
              obtain ⟨r1, r2, r3, r4⟩ := HJ.out
              exact ⟨i + 1, dj, by go_num, by omega, by omega, r1.done hji (.inr (by simp only [Nat.add_sub_cancel]; exact HLV.out)), by omega, r2, r3, r4.drewN _⟩
        · obtain rfl : j = a := by omega
          go_wp2_with fail
          go_quiet (fail)
          go_wp2_with fail
          go_roundg (b - (i + 1))
          case measure => omega
          case rel =>
            obtain ⟨r1, r2, r3, r4⟩ := HJ.out
            exact ⟨i + 1, dj, by go_num, by omega, by omega, r1.done hji (.inl (Nat.le_refl _)), by omega, r2, r3, r4.drewN _⟩
    · have hib' : ¬ (i : Int) < (b : Int) := by omega
      go_wp2_with fail
      go_end0
      obtain ⟨h1, h2, h3⟩ := HI.out
      exact ⟨rfl, dk, h1.part (Nat.le_refl _) (by omega), h3⟩
end Go.Proofs.Ytdeigchkpakdaaa
