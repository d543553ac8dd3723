/- Several texts, laid together: DCost, DFix, DBest, DBlk, DDyn. -/
import Derived.Test.YteknifnadbmfiaaGreatDoorpDLayB
import Derived.Test.YteknifnadbmfiaaGreatDoorpLg06LAlive
import Derived.Test.YteknifnadbmfiaaGreatDoorpPMake
import Derived.Test.YteknifnadbmfiaaGreatDoorpAg12HPut
/- What a block's symbols cost, by how often they are, and by their marks. Of no program. -/
namespace Go.Proofs.YteknifnadbmfiaaGreatDoor
set_option maxRecDepth 100000
open Go Go.RowKit

/-- A sum of products, plainly. -/
def cs (A B : List Int) : Nat → Int
  | 0 => 0
  | n + 1 => cs A B n + ln A n * ln B n
theorem cs_le {A B : List Int} (hA : ∀ i, 0 ≤ ln A i) (hB : ∀ i, 0 ≤ ln B i ∧ ln B i ≤ 15) : ∀ n, 0 ≤ cs A B n ∧ cs A B n ≤ 15 * ((List.range n).map (ln A)).sum := by
  intro n
  induction n with
  | zero => simp [cs]
  | succ n ih =>
    have h1 := Int.mul_nonneg (hA n) (hB n).1
    have h2 : ln A n * ln B n ≤ ln A n * 15 := Int.mul_le_mul_of_nonneg_left (hB n).2 (hA n)
    rw [cs, List.range_succ, List.map_append, List.sum_append]
    simp only [List.map_cons, List.map_nil, List.sum_cons, List.sum_nil]
    omega
theorem sum_mono {A : List Int} (hA : ∀ i, 0 ≤ ln A i) (n : Nat) : ((List.range n).map (ln A)).sum ≤ ((List.range (n + 1)).map (ln A)).sum := by
  rw [List.range_succ, List.map_append, List.sum_append]
  have := hA n
  simp
  omega
theorem cw_cs {A B : List Int} (hA : ∀ i, 0 ≤ ln A i) (hB : ∀ i, 0 ≤ ln B i ∧ ln B i ≤ 15) {K : Int} (hK : K ≤ 1000000000) : ∀ n, ((List.range n).map (ln A)).sum ≤ K → L.cw A B n = cs A B n := by
  intro n
  induction n with
  | zero => intro _; rfl
  | succ n ih =>
    intro hs
    have hm := sum_mono hA n
    have hc := cs_le hA hB n
    have hd := cs_le hA hB (n + 1)
    have h1 := Int.mul_nonneg (hA n) (hB n).1
    rw [cs] at hd
    show wrap64 (L.cw A B n + wrap64 (L.ln A n * L.ln B n)) = _
    rw [ih (by omega)]
    have e : L.ln A n * L.ln B n = ln A n * ln B n := rfl
    rw [e, cs]
    generalize ln A n * ln B n = P at *
    unfold wrap64
    omega
/-- The symbols' bits of marks of one kind. -/
def mco (b : Bool) (S : List Int) (ms : List (Bool × Mk)) : Int := (ms.map fun x => if x.1 = b then ln S x.2.1 else 0).sum
theorem mco_snoc (b : Bool) (S : List Int) (ms : List (Bool × Mk)) (x : Bool × Mk) : mco b S (ms ++ [x]) = mco b S ms + if x.1 = b then ln S x.2.1 else 0 := by simp [mco]
theorem cs_set {A B : List Int} {s : Nat} (hs : s < A.length) : ∀ n, cs (A.set s (ln A s + 1)) B n = cs A B n + if s < n then ln B s else 0 := by
  intro n
  induction n with
  | zero => simp [cs]
  | succ n ih =>
    rw [cs, cs, ih]
    by_cases e : s = n
    · subst e
      have h1 : ln (A.set s (ln A s + 1)) s = ln A s + 1 := by simp [ln, List.getD, hs]
      rw [h1, if_neg (by omega), if_pos (by omega), Int.add_mul, Int.one_mul]
      omega
    · have h1 : ln (A.set s (ln A s + 1)) n = ln A n := by simp [ln, List.getD, e]
      rw [h1]
      by_cases h : s < n
      · rw [if_pos h, if_pos (by omega)]; omega
      · rw [if_neg h, if_neg (by omega)]; omega
theorem cs_zero (B : List Int) (n k : Nat) : cs (List.replicate k 0) B n = 0 := by
  induction n with
  | zero => rfl
  | succ n ih =>
    have : ln (List.replicate k 0) n = 0 := by unfold ln; rw [List.getD_eq_getElem?_getD, List.getElem?_replicate]; split <;> rfl
    rw [cs, ih, this]; simp
theorem snoc_ind {α : Type} {P : List α → Prop} (h0 : P []) (hs : ∀ l x, P l → P (l ++ [x])) (l : List α) : P l := by
  have : ∀ r : List α, P r.reverse := by
    intro r
    induction r with
    | nil => exact h0
    | cons x r ih => rw [List.reverse_cons]; exact hs _ _ ih
  have h := this l.reverse
  rwa [List.reverse_reverse] at h
theorem cs_tly (b : Bool) (S : List Int) (k n : Nat) (hn : n ≤ k) (ms : List (Bool × Mk)) : (∀ x ∈ ms, x.1 = b → x.2.1 < n) → cs (tly b k ms) S n = mco b S ms := by
  refine snoc_ind (P := fun ms => (∀ x ∈ ms, x.1 = b → x.2.1 < n) → cs (tly b k ms) S n = mco b S ms) ?_ ?_ ms
  · intro _
    rw [tly_nil, cs_zero]; rfl
  · intro ms x ih h
    have i := ih (fun y hy => h y (by simp [hy]))
    have hx := h x (by simp)
    obtain ⟨c, m⟩ := x
    rw [mco_snoc]
    by_cases e : c = b
    · subst e
      have hm : m.1 < n := hx rfl
      rw [tly_set c k ms m (by omega), cs_set (by rw [tly_length]; omega), i, if_pos hm, if_pos rfl]
    · rw [tly_other b c k ms m e, i, if_neg e]; omega
theorem sum_tly_le (b : Bool) (k : Nat) (ms : List (Bool × Mk)) : ∀ n, ((List.range n).map (ln (tly b k ms))).sum ≤ ms.length := by
  intro n
  refine snoc_ind (P := fun ms => ((List.range n).map (ln (tly b k ms))).sum ≤ ms.length) ?_ ?_ ms
  · rw [tly_nil]
    have : (List.range n).map (ln (List.replicate k 0)) = (List.range n).map (fun _ => (0 : Int)) := by
      congr 1
      funext i
      unfold ln; rw [List.getD_eq_getElem?_getD, List.getElem?_replicate]; split <;> rfl
    rw [this]
    have hz : ∀ l : List Nat, (l.map (fun _ => (0 : Int))).sum = 0 := by
      intro l; induction l with
      | nil => rfl
      | cons x l ih => rw [List.map_cons, List.sum_cons, ih]; rfl
    rw [hz]; simp
  · intro ms x ih
    obtain ⟨c, m⟩ := x
    have key : ∀ A : List Int, ∀ s, ((List.range n).map (ln (A.set s (ln A s + 1)))).sum ≤ ((List.range n).map (ln A)).sum + 1 := by
      intro A s
      have : ∀ n, ((List.range n).map (ln (A.set s (ln A s + 1)))).sum ≤ ((List.range n).map (ln A)).sum + if s < n then 1 else 0 := by
        intro n
        induction n with
        | zero => simp
        | succ n ih =>
          rw [List.range_succ, List.map_append, List.map_append, List.sum_append, List.sum_append]
          simp only [List.map_cons, List.map_nil, List.sum_cons, List.sum_nil]
          by_cases e : s = n
          · subst e
            have h1 : ln (A.set s (ln A s + 1)) s ≤ ln A s + 1 := by
              by_cases hs : s < A.length
              · simp [ln, List.getD, hs]
              · rw [List.set_eq_of_length_le (by omega)]; omega
            rw [if_neg (by omega)] at ih
            rw [if_pos (by omega)]
            omega
          · have h1 : ln (A.set s (ln A s + 1)) n = ln A n := by simp [ln, List.getD, e]
            rw [h1]
            by_cases h : s < n
            · rw [if_pos h] at ih; rw [if_pos (by omega)]; omega
            · rw [if_neg h] at ih; rw [if_neg (by omega)]; omega
      have h2 := this n
      split at h2 <;> omega
    rw [List.length_append, List.length_singleton]
    by_cases e : c = b
    · subst e
      by_cases hm : m.1 < k
      · rw [tly_set c k ms m hm]
        have := key (tly c k ms) m.1
        omega
      · have e2 : tly c k (ms ++ [(c, m)]) = tly c k ms := by
          apply List.ext_getElem
          · rw [tly_length, tly_length]
          · intro i h1 h2
            rw [tly_length] at h2
            have : ¬ m.1 = i := by omega
            simp [tly, List.countP_append, this]
        rw [e2]; omega
    · rw [tly_other b c k ms m e]; omega
/-- What Cost tells of a tally. -/
theorem cost_tly (b : Bool) (S : List Int) (k : Nat) (ms : List (Bool × Mk)) (hf : Fit S) (hl : ms.length ≤ 900000000) (h : ∀ x ∈ ms, x.1 = b → x.2.1 < k ∧ x.2.1 < S.length) : L.cw (tly b k ms) S (min (tly b k ms).length S.length) = mco b S ms := by
  rw [tly_length]
  rw [cw_cs (K := ms.length) (fun i => (tly_le b k ms i).1) (fun i => ln_fit hf i) (by omega) _ (sum_tly_le b k ms _)]
  exact cs_tly b S k _ (Nat.min_le_left _ _) ms (fun x hx e => by have := h x hx e; omega)
/-- How many further bits marks have. -/
def fur (ms : List (Bool × Mk)) : Nat := (ms.map fun x => x.2.2.2).sum
theorem mco_nonneg (b : Bool) {S : List Int} (hS : Fit S) (ms : List (Bool × Mk)) : 0 ≤ mco b S ms ∧ mco b S ms ≤ 15 * ms.length := by
  induction ms with
  | nil => simp [mco]
  | cons x ms ih =>
    have h1 := ln_fit hS x.2.1
    simp only [mco, List.map_cons, List.sum_cons, List.length_cons] at ih ⊢
    push_cast
    split <;> omega
end Go.Proofs.YteknifnadbmfiaaGreatDoor

/- fixedSymbols, fixedBacks, trim, best: contracts. -/
namespace Go.Proofs.YteknifnadbmfiaaGreatDoor
set_option maxRecDepth 100000
open Go Go.RowKit

set_option maxHeartbeats 1000000 in
theorem dfixedBacks_c (w : World) : Calls Tryz.prog 93 #[] w (NewRow w iFive) := by
  obtain ⟨i0, hi, hz0, hz1, hz2⟩ := info_parts Tryz.info3
  have hmk : ∀ W : World, (Instr.makeSlice 97 (.int .i64 32) (.int .i64 32)).run Tryz.prog W = .ok (.slice (some ⟨W.heap.size, 0, none⟩) 32 32) (W.alloc (.cells (valA (List.replicate 32 0)) 3)) := made_ints 32 i0 hi hz0 hz1 hz2 (by decide)
  have hlen : Hid (iFive.length = 32) := iFive_length
  have HZ := hide (fl_zero iFive)
  have HS : ∀ k, k < 32 → Hid ((valA (fl iFive k)).setIfInBounds k (.int .i64 5) = valA (fl iFive (k + 1))) := fun k hk => fl_set iFive (by rw [iFive_length]; exact hk) (iFive_ln hk)
  have HC : ∀ k, k < 32 → Hid ((valA (fl iFive k))[k]? = some (.int .i64 0)) := fun k hk => fl_at iFive (by rw [iFive_length]; exact hk)
  have HE := hide (fl_all iFive)
  rw [hlen.out] at HZ HE
  have HN : Hid (∀ e w', e = .returned (.slice (some ⟨w.heap.size, 0, none⟩) 32 32) → w'.heap[w.heap.size]? = some (.cells (valA (fl iFive 32)) 3 (0, 0)) → Below w.heap.size w w' → NewRow w iFive e w') := fun e w' h1 h2 h3 => ⟨by rw [h1, iFive_length], by rw [h2, HE.out], h3⟩
  generalize NewRow w iFive = Q at HN ⊢
  rw [← HZ.out] at hmk
  generalize fl iFive = F at hmk HS HC HN
  clear HZ HE hlen
  have HB0 : Hid (Below w.heap.size w (w.alloc (.cells (valA (F 0)) 3))) := (Below.refl _ w).alloc (Nat.le_refl _) _
  have HH0 : Hid ((w.alloc (.cells (valA (F 0)) 3)).heap[w.heap.size]? = some (.cells (valA (F 0)) 3 (0, 0))) := heap_new _ _
  go_enter Tryz.func93, Tryz.ntmps93
  go_wp2
  go_loopw [6] (fun i wr => ∃ k : Nat, k ≤ 32 ∧ i = .int .i64 k ∧ wr.heap[w.heap.size]? = some (.cells (valA (F k)) 3 (0, 0)) ∧ Below w.heap.size w wr) (fun i _ => 32 - (intOf i).toNat)
  case atStart => exact ⟨0, Nat.zero_le _, rfl, HH0.out, HB0.out⟩
  case round =>
    obtain ⟨k, hk, rfl, hh, hb⟩ := hrel
    have H1 := hide hh
    have H2 := hide hb
    by_cases hlt : k < 32
    · have c1 := cells_of hh k
      rw [(HC k hlt).out] at c1
      have f1 := free_of hh k
      have hz := lt_of_block hh
      have HSk := HS k hlt
      clear hh hb HS HC
      go_wp2
      go_roundw
      case rel => exact ⟨k + 1, by omega, by go_num, by rw [set_of H1.out k, HSk.out], H2.out.setCell (Nat.le_refl _) _⟩
      case measure => simp [intOf]; omega
    · obtain rfl : k = 32 := by omega
      clear hh hb
      go_wp2
      exact HN.out _ _ rfl H1.out H2.out

set_option maxHeartbeats 2000000 in
theorem dfixedSymbols_c (w : World) : Calls Tryz.prog 92 #[] w (NewRow w iFix) := by
  obtain ⟨i0, hi, hz0, hz1, hz2⟩ := info_parts Tryz.info3
  have hmk : ∀ W : World, (Instr.makeSlice 97 (.int .i64 288) (.int .i64 288)).run Tryz.prog W = .ok (.slice (some ⟨W.heap.size, 0, none⟩) 288 288) (W.alloc (.cells (valA (List.replicate 288 0)) 3)) := made_ints 288 i0 hi hz0 hz1 hz2 (by decide)
  have hlen : Hid (iFix.length = 288) := iFix_length
  have HZ := hide (fl_zero iFix)
  have HS : ∀ k, k < 288 → Hid ((valA (fl iFix k)).setIfInBounds k (.int .i64 (if k < 144 then 8 else if k < 256 then 9 else if k < 280 then 7 else 8)) = valA (fl iFix (k + 1))) := fun k hk => fl_set iFix (by rw [iFix_length]; exact hk) (iFix_ln hk)
  have HC : ∀ k, k < 288 → Hid ((valA (fl iFix k))[k]? = some (.int .i64 0)) := fun k hk => fl_at iFix (by rw [iFix_length]; exact hk)
  have HE := hide (fl_all iFix)
  rw [hlen.out] at HZ HE
  have HN : Hid (∀ e w', e = .returned (.slice (some ⟨w.heap.size, 0, none⟩) 288 288) → w'.heap[w.heap.size]? = some (.cells (valA (fl iFix 288)) 3 (0, 0)) → Below w.heap.size w w' → NewRow w iFix e w') := fun e w' h1 h2 h3 => ⟨by rw [h1, iFix_length], by rw [h2, HE.out], h3⟩
  generalize NewRow w iFix = Q at HN ⊢
  rw [← HZ.out] at hmk
  generalize fl iFix = F at hmk HS HC HN
  clear HZ HE hlen
  have HB0 : Hid (Below w.heap.size w (w.alloc (.cells (valA (F 0)) 3))) := (Below.refl _ w).alloc (Nat.le_refl _) _
  have HH0 : Hid ((w.alloc (.cells (valA (F 0)) 3)).heap[w.heap.size]? = some (.cells (valA (F 0)) 3 (0, 0))) := heap_new _ _
  go_enter Tryz.func92, Tryz.ntmps92
  go_wp2
  go_loopw [6] (fun i wr => ∃ k : Nat, k ≤ 288 ∧ i = .int .i64 k ∧ wr.heap[w.heap.size]? = some (.cells (valA (F k)) 3 (0, 0)) ∧ Below w.heap.size w wr) (fun i _ => 288 - (intOf i).toNat)
  case atStart => exact ⟨0, Nat.zero_le _, rfl, HH0.out, HB0.out⟩
  case round =>
    obtain ⟨k, hk, rfl, hh, hb⟩ := hrel
    have H1 := hide hh
    have H2 := hide hb
    by_cases hlt : k < 288
    · have c1 := cells_of hh k
      rw [(HC k hlt).out] at c1
      have f1 := free_of hh k
      have hz := lt_of_block hh
      have HSk := HS k hlt
      clear hh hb HS HC
      by_cases h1 : k < 144
      case' pos => rw [if_pos h1] at HSk; have h2 : (k : Int) < 144 := by omega
      case' neg =>
        rw [if_neg h1] at HSk
        have h2 : ¬ (k : Int) < 144 := by omega
        by_cases h3 : k < 256
        case' pos => rw [if_pos h3] at HSk; have h4 : (k : Int) < 256 := by omega
        case' neg =>
          rw [if_neg h3] at HSk
          have h4 : ¬ (k : Int) < 256 := by omega
          by_cases h5 : k < 280
          case' pos => rw [if_pos h5] at HSk; have h6 : (k : Int) < 280 := by omega
          case' neg => rw [if_neg h5] at HSk; have h6 : ¬ (k : Int) < 280 := by omega
      all_goals
        go_wp2
        go_roundw
        case rel => exact ⟨k + 1, by omega, by go_num, by rw [set_of H1.out k, HSk.out], H2.out.setCell (Nat.le_refl _) _⟩
        case measure => simp [intOf]; omega
    · obtain rfl : k = 288 := by omega
      clear hh hb
      go_wp2
      exact HN.out _ _ rfl H1.out H2.out


/-- Lengths, the zeros at the end left out, down to so many. -/
def trm (F : List Int) (least : Nat) : Nat → Nat
  | 0 => 0
  | n + 1 => if least < n + 1 ∧ ln F n = 0 then trm F least n else n + 1
theorem trm_ok (F : List Int) (least : Nat) : ∀ n, trm F least n ≤ n ∧ (least ≤ n → least ≤ trm F least n) ∧ ∀ i, trm F least n ≤ i → i < n → ln F i = 0 := by
  intro n
  induction n with
  | zero => exact ⟨Nat.le_refl _, fun h => h, fun i _ h => by omega⟩
  | succ n ih =>
    rw [trm]
    split
    · rename_i h
      refine ⟨by omega, fun _ => ih.2.1 (by omega), fun i h1 h2 => ?_⟩
      by_cases e : i = n
      · subst e; exact h.2
      · exact ih.2.2 i h1 (by omega)
    · exact ⟨Nat.le_refl _, fun h => h, fun i _ h => by omega⟩
set_option maxHeartbeats 1000000 in
theorem trim_c (gl least : Nat) (F : List Int) (w : World) (h : w.heap[gl]? = some (.cells (valA F) 3 (0, 0))) (hl : F.length ≤ 1000) (h0 : 1 ≤ least ∧ least ≤ F.length) :
    Calls Tryz.prog 95 #[.slice (some ⟨gl, 0, none⟩) F.length F.length, .int .i64 (least : Int)] w fun e w' => e = .returned (.slice (some ⟨gl, 0, none⟩) (trm F least F.length) F.length) ∧ w' = w := by
  have HH := hide h
  obtain ⟨N, hN⟩ : ∃ N, trm F least F.length = N := ⟨_, rfl⟩
  rw [hN]
  have HN := hide hN
  clear h hN
  go_enter Tryz.func95, Tryz.ntmps95
  go_wp2_with fail
  go_loopg [5] F.length (fun gk v5 wx => v5 = .int .i64 gk ∧ least ≤ gk ∧ gk ≤ F.length ∧ Hid (trm F least gk = N) ∧ w = wx)
  case atStart => exact ⟨rfl, h0.2, Nat.le_refl _, HN, rfl⟩
  case round =>
    obtain ⟨rfl, hg1, hg2, HT, rfl⟩ := hrel
    obtain ⟨n, rfl⟩ : ∃ n, gk = n + 1 := ⟨gk - 1, by omega⟩
    have hT := HT.out
    rw [trm] at hT
    by_cases hlt : least < n + 1
    · have hgt : (least : Int) < ((n + 1 : Nat) : Int) := by omega
      have c := cells_of HH.out n
      rw [valA_at F (by omega)] at c
      have hn1 : (n : Int) < (F.length : Int) := by omega
      obtain ⟨X, hX⟩ : ∃ X, ln F n = X := ⟨_, rfl⟩
      rw [hX] at c hT
      clear hX HT
      by_cases hz : X = 0
      · rw [if_pos ⟨hlt, hz⟩] at hT
        have HT2 := hide hT
        subst hz
        clear hT
        go_wp2_with fail
        go_roundg n
        case measure => omega
        case rel => exact ⟨by go_num, by omega, by omega, HT2, rfl⟩
      · rw [if_neg (fun c => hz c.2)] at hT
        have hzb : (X == 0) = false := by simpa using hz
        have HT2 := hide hT
        have hle : ((n + 1 : Nat) : Int) ≤ (F.length : Int) := by omega
        clear hT
        go_wp2_with fail
        go_ret
        exact ⟨by rw [← HT2.out]; rfl, rfl⟩
    · rw [if_neg (fun c => hlt c.1)] at hT
      have hng : ¬ (least : Int) < ((n + 1 : Nat) : Int) := by omega
      have HT2 := hide hT
      have hle : ((n + 1 : Nat) : Int) ≤ (F.length : Int) := by omega
      clear hT HT
      go_wp2_with fail
      go_ret
      exact ⟨by rw [← HT2.out]; rfl, rfl⟩
end Go.Proofs.YteknifnadbmfiaaGreatDoor

/- best, measure: contracts. -/
namespace Go.Proofs.YteknifnadbmfiaaGreatDoor
set_option maxRecDepth 100000
open Go Go.RowKit
set_option linter.unusedVariables false

set_option maxHeartbeats 2000000 in
theorem best_c (hi : Nat) (a : Option Addr) (cap : Nat) (A : List Int) (w : World) (h : Ints 0 hi w a A) (hl : 0 < A.length ∧ A.length ≤ 286) (hA : ∀ i, 0 ≤ ln A i ∧ ln A i ≤ 1000000000) :
    Calls Tryz.prog 96 #[.slice a A.length cap] w fun e w' => ∃ gl F, e = .returned (.slice (some ⟨gl, 0, none⟩) A.length A.length) ∧ w.heap.size ≤ gl ∧ w'.heap[gl]? = some (.cells (valA F) 3 (0, 0)) ∧ L.LGoodR A 15 F ∧ Below w.heap.size w w' := by
  obtain ⟨i0, hi0, hz0, hz1, hz2⟩ := info_parts Tryz.info3
  have hmk := made_ints A.length i0 hi0 hz0 hz1 hz2 (by omega)
  rw [← fl_zero A] at hmk
  have HH := hide h
  have HA := hide hA
  have HS : ∀ k, k < A.length → Hid ((valA (fl A k)).setIfInBounds k (.int .i64 (ln A k)) = valA (fl A (k + 1))) := fun k hk => fl_set A hk rfl
  have HC : ∀ k, k < A.length → Hid ((valA (fl A k))[k]? = some (.int .i64 0)) := fun k hk => fl_at A hk
  have HE := hide (fl_all A)
  have HL : Hid (∀ w2, w2.heap[w.heap.size]? = some (.cells (valA A) 3 (0, 0)) → Calls Tryz.prog 117 #[.slice (some ⟨w.heap.size, 0, none⟩) A.length A.length, .int .i64 15] w2 (L.LensYes A 15 w2)) := fun w2 hw2 => by
    have := valA_ints hw2
    exact L.lengths_yes w2.heap.size _ _ A 15 w2 this (lens_fits (by omega) (by decide) (fun i => by have := hA i; omega) (by have : A.length ≤ 286 := hl.2; omega))
  have HB0 : Hid (Below w.heap.size w (w.alloc (.cells (valA (fl A 0)) 3))) := (Below.refl _ w).alloc (Nat.le_refl _) _
  have HH0 : Hid ((w.alloc (.cells (valA (fl A 0)) 3)).heap[w.heap.size]? = some (.cells (valA (fl A 0)) 3 (0, 0))) := heap_new _ _
  generalize fl A = G at hmk HS HC HE HB0 HH0
  clear h hA
  go_enter Tryz.func96, Tryz.ntmps96
  go_wp2_with fail
  go_loopg [13] A.length (fun gk v13 wx => ∃ k : Nat, k + gk = A.length ∧ v13 = .int .i64 k ∧ Hid (wx.heap[w.heap.size]? = some (.cells (valA (G k)) 3 (0, 0)) ∧ Below w.heap.size w wx))
  case atStart => exact ⟨0, by omega, rfl, HH0.out, HB0.out⟩
  case round =>
    obtain ⟨k, hkg, rfl, HI⟩ := hrel
    cases gk with
    | zero =>
      obtain rfl : k = A.length := by omega
      have hI := HI.out
      rw [HE.out] at hI
      have HLL := hide (HL.out wr hI.1)
      have HB := hide hI.2
      unfold L.LensYes at HLL
      clear hI HI HL HS HC HE
      go_wp2_with (go_at_call 117; refine HLL.out.mono ?_; rintro e w1 ⟨gl, F, rfl, hgl, hro, hgd, hb1⟩; have HR := hide (show w.heap.size ≤ gl ∧ w1.heap[gl]? = some (.cells (valA F) 3 (0, 0)) ∧ L.LGoodR A 15 F ∧ Below w.heap.size w w1 from ⟨Nat.le_trans HB.out.size hgl, ro_valA hro, hgd, HB.out.trans (hb1.mono HB.out.size)⟩); clear hgl hro hgd hb1)
      go_ret
      exact ⟨gl, F, rfl, HR.out⟩
    | succ g1 =>
      have hk : k < A.length := by omega
      have hlt : (k : Int) < (A.length : Int) := by omega
      obtain ⟨hI1, hI2⟩ := HI.out
      obtain ⟨b, off, _, _, hb, rfl, hc⟩ := HH.out.resolve_left (by omega)
      have ca := (hI2.cell (p := ⟨b, off + k, none⟩) hb).trans (hc k hk)
      have c1 := cells_of hI1 k
      rw [(HC k hk).out] at c1
      have f1 := free_of hI1 k
      have HSk := HS k hk
      have hXb := HA.out k
      generalize ln A k = X at ca HSk hXb
      have hif : (if (1073741824 : Int) < X then (1073741824 : Int) else X) = X := by omega
      have H1 := hide hI1
      have H2 := hide hI2
      clear hI1 hI2 hc HI HS HC
      go_wp2_with fail
      go_roundg g1
      case measure => omega
      case rel => exact ⟨k + 1, by omega, by go_num, by rw [set_of H1.out k, HSk.out], H2.out.setCell (Nat.le_refl _) _⟩

/-- The size that measure tells. -/
def szB (k : Nat) (H S D : List Int) (ts : List M.Tk) : Int := 3 + H.length + mco false S (emk ts) + mco true D (emk ts)
def MsRet (w : World) (k : Nat) (S D : List Int) (ts : List M.Tk) (e : Ending) (w' : World) : Prop := ∃ H, HdIs k S D H ∧ e = .returned (.int .i64 (szB k H S D ts)) ∧ Below w.heap.size w w'
set_option maxHeartbeats 4000000 in
theorem measure_c (w : World) (hT : Tab w) (h0 : 2 < w.heap.size) (ta sa da : Option Addr) (ct cs cd k tb : Nat) (sz : Int) (ts : List M.Tk) (S D : List Int) (hb : BkOk k ts S D) (ha : BkAt w.heap.size w ta sa da ts S D) (ht : TlOf w tb ts) :
    Calls Tryz.prog 94 #[.agg (bA ta ts.length ct k sa S.length cs da D.length cd sz), .pointer (some ⟨tb, 0, none⟩)] w (MsRet w k S D ts) := by
  obtain ⟨W, hWW⟩ : ∃ W, W = w.alloc (.cells (bA ta ts.length ct k sa S.length cs da D.length cd sz) 99) := ⟨_, rfl⟩
  have blW : Below w.heap.size w W := by rw [hWW]; exact (Below.refl _ _).alloc (Nat.le_refl _) _
  have hWb : W.heap[w.heap.size]? = some (.cells (bA ta ts.length ct k sa S.length cs da D.length cd sz) 99 (0, 0)) := by rw [hWW]; exact heap_new w _
  have HN := hide (newW W)
  have HE : Hid (w.alloc (.cells (bA ta ts.length ct k sa S.length cs da D.length cd sz) 99) = W) := hWW.symm
  have HWB := hide hWb
  have HBW := hide blW
  have HTL := hide ht
  have HT := hide hT
  have HB := hide hb
  have HA := hide ha
  clear hWW blW hWb hT hb ha ht
  go_enter Tryz.func94, Tryz.ntmps94
  go_upto_region 1 with fail
  rw [HE.out]
  go_upto_region 2 with (go_at_call 45; refine HN.out.mono ?_; rintro e w1 ⟨rfl, s1, b1⟩; have HS1 := hide s1; have HB1 := hide b1; clear s1 b1 HN)
  have bl1 : Below w.heap.size w w1 := HBW.out.trans (HB1.out.mono HBW.out.size)
  have hb1 := (HB1.out.block _ (lt_of_block HWB.out)).trans HWB.out
  have c0 := cells_of hb1 0
  have c1 := cells_of hb1 1
  have c2 := cells_of hb1 2
  have c3 := cells_of hb1 3
  have c4 := cells_of hb1 4
  simp at c0 c1 c2 c3 c4
  have hzW := HBW.out.size
  have ha1 := (HA.out.below bl1).wide hzW
  have hT1 : Tab w1 := HT.out.below bl1 h0
  have HH := hide (layHead_c W.heap.size none w1 [] HS1.out (by simp) hT1 (by omega) ta sa da ts.length ct cs cd k sz S D false HB.out.k12 ha1.s ha1.d)
  have HWB1 := hide hb1
  have HBL1 := hide bl1
  have HTL1 := hide (HTL.out.below bl1)
  clear bl1 hb1 hT1
  go_upto_region 3 with (go_at_call 65; refine HH.out.mono ?_; rintro e w2 ⟨rfl, H, hH, k2⟩; have HHD := hide hH; have HK2 := hide k2; clear k2 hH HH)
  obtain ⟨o2, s2, k2, oo2⟩ := HK2.out
  rw [List.nil_append] at s2
  have hlH := hd_len HHD.out
  have hL2 : ((knd false k ++ H).length : Int) = 3 + H.length := by rw [List.length_append, knd_length]; push_cast; rfl
  have hbl2 : Below W.heap.size w1 w2 := HK2.out.blw HB1.out.size (Nat.le_refl _) (fun g e => by cases e)
  have ha2 := ha1.below hbl2
  have hb2 := HK2.out.heap HWB1.out (HS1.out.apart HWB1.out (by decide) (by decide))
  have ht2 : TlOf w2 tb ts := ⟨HK2.out.heap HTL1.out.1 (HS1.out.apart HTL1.out.1 (by decide) (by decide)), HTL1.out.2⟩
  have d2 := cells_of hb2 2
  have d3 := cells_of hb2 3
  simp at d2 d3
  have hml := emk_len ts
  have hmk := emk_ok HB.out.ok
  have hlen := HB.out.len
  have hfS := (check_ok HB.out.cs).2.1
  have hfD := (check_ok HB.out.cd).2.1
  have hc1 := cost_tly false S 286 (emk ts) hfS (by omega) (fun x hx e => ⟨(hmk x hx).1 e, ((HB.out.has x hx).1 e).1⟩)
  have hc2 := cost_tly true D 30 (emk ts) hfD (by omega) (fun x hx e => ⟨(hmk x hx).2.1 e, ((HB.out.has x hx).2 e).1⟩)
  have hn1 := mco_nonneg false hfS (emk ts)
  have hn2 := mco_nonneg true hfD (emk ts)
  have kq : ∀ q, Kept (fun _ => False) w2 (w2.drewN q) := fun q => Kept.drewN (Kept.refl _ _) q
  have HLEN : Hid (∀ q, Calls Tryz.prog 115 #[.pointer (some ⟨W.heap.size, 0, none⟩)] (w2.drewN q) fun e w' => e = .returned (.int .i64 (3 + (H.length : Int))) ∧ ∃ m, w' = (w2.drewN q).drewN m) := fun q => by
    rw [← hL2]
    exact lenW (s2.kept (kq q) (fun e => e) (fun _ _ e => e)) (by rw [List.length_append, knd_length]; omega)
  have HC1 : Hid (∀ q, Calls Tryz.prog 116 #[.slice (some ⟨tb, 0, none⟩) 286 286, .slice sa S.length cs] (w2.drewN q) fun e w' => e = .returned (.int .i64 (mco false S (emk ts))) ∧ ∃ m, w' = (w2.drewN q).drewN m) := fun q => by
    have := L.cost_c 0 (tb + 1) 0 W.heap.size (some ⟨tb, 0, none⟩) sa 286 cs (tly false 286 (emk ts)) S (w2.drewN q) (ht2.a.kept (kq q) (fun _ _ _ e => e)) (ha2.s.kept (kq q) (fun _ _ _ e => e)) (by rw [tly_length]; decide)
    rw [hc1, tly_length] at this
    exact this
  have HC2 : Hid (∀ q, Calls Tryz.prog 116 #[.slice (some ⟨tb, 286, none⟩) 30 30, .slice da D.length cd] (w2.drewN q) fun e w' => e = .returned (.int .i64 (mco true D (emk ts))) ∧ ∃ m, w' = (w2.drewN q).drewN m) := fun q => by
    have := L.cost_c 0 (tb + 1) 0 W.heap.size (some ⟨tb, 286, none⟩) da 30 cd (tly true 30 (emk ts)) D (w2.drewN q) (ht2.b.kept (kq q) (fun _ _ _ e => e)) (ha2.d.kept (kq q) (fun _ _ _ e => e)) (by rw [tly_length]; decide)
    rw [hc2, tly_length] at this
    exact this
  have HOUT : Hid (∀ nq, MsRet w k S D ts (.returned (.int .i64 (3 + (H.length : Int) + mco false S (emk ts) + mco true D (emk ts)))) (w2.drewN nq)) := fun nq => ⟨H, HHD.out, rfl, HBL1.out.trans ((Kept.drewN (Kept.trans (Kept.refl (fun i => W.heap.size ≤ i) w1) (Kept.of_below hbl2) (fun _ _ h => h)) nq).below HBL1.out.size (fun i hi h => by omega))⟩
  obtain ⟨C1, hC1⟩ : ∃ C1, mco false S (emk ts) = C1 := ⟨_, rfl⟩
  obtain ⟨C2, hC2⟩ : ∃ C2, mco true D (emk ts) = C2 := ⟨_, rfl⟩
  rw [hC1] at HC1 HOUT hn1
  rw [hC2] at HC2 HOUT hn2
  have hb1' : 0 ≤ C1 ∧ C1 ≤ 50000000 := by omega
  have hb2' : 0 ≤ C2 ∧ C2 ≤ 50000000 := by omega
  have hXb : 0 ≤ 3 + (H.length : Int) ∧ 3 + (H.length : Int) ≤ 100003 := by omega
  generalize 3 + (H.length : Int) = X at HLEN HOUT hL2 hXb
  clear hn1 hn2 hC1 hC2 hc1 hc2 hmk hml hfS hfD hL2 ha2 hb2 ht2 hbl2 s2 k2 oo2 kq ha1 c0 c1 c2 c3 c4 HK2 HHD HBL1 HTL1 HWB1 HS1 HB1 HB HA HT HTL HBW HWB HE hlen
  go_quiet (first
    | (go_at_call 115; with_reducible exact Calls.quiet_of (HLEN.out _))
    | (go_at_call 116; with_reducible exact Calls.quiet_of (HC1.out _))
    | (go_at_call 116; with_reducible exact Calls.quiet_of (HC2.out _)))
  go_wp2_with fail
  go_ret
  exact HOUT.out nq
end Go.Proofs.YteknifnadbmfiaaGreatDoor

/- fixedBlock, dynamicBlock: contracts. -/
namespace Go.Proofs.YteknifnadbmfiaaGreatDoor
set_option maxRecDepth 100000
open Go Go.RowKit

/-- Where the lengths of a dynamic block come from. -/
def DynOk (ts : List M.Tk) (S D : List Int) : Prop := ∃ FS FD, L.LGoodR (tly false 286 (emk ts)) 15 FS ∧ S = FS.take (trm FS 257 286) ∧ L.LGoodR (tly true 30 (emk ts)) 15 FD ∧ D = FD.take (trm FD 1 30)
theorem tly_pos {b : Bool} {n : Nat} {ms : List (Bool × Mk)} {x : Bool × Mk} (h : x ∈ ms) (hb : x.1 = b) (hn : x.2.1 < n) : 0 < ln (tly b n ms) x.2.1 := by
  rw [tly_ln b n ms hn]
  have : 0 < ms.countP (fun y => y.1 == b && y.2.1 == x.2.1) := List.countP_pos_iff.2 ⟨x, h, by simp [hb]⟩
  omega
/-- What is left of lengths that Lengths told. -/
theorem trimmed {b : Bool} {n least : Nat} {ms : List (Bool × Mk)} {F : List Int} (hn : least ≤ n ∧ n ≤ 320) (hl : ms.length ≤ 1000000000) (h : L.LGoodR (tly b n ms) 15 F) :
    least ≤ (F.take (trm F least n)).length ∧ (F.take (trm F least n)).length ≤ n ∧ Fit (F.take (trm F least n)) ∧ check (F.take (trm F least n)) true = 0 ∧ ∀ x ∈ ms, x.1 = b → x.2.1 < n → Has (F.take (trm F least n)) x.2.1 := by
  have hA : L.AlwTo (tly b n ms) (tly b n ms).length := fun i _ => by
    have := tly_le b n ms i
    have e : L.ln (tly b n ms) i = ln (tly b n ms) i := rfl
    rw [e]
    omega
  have hv := h.valid hA (by decide)
  have hlen : F.length = n := by rw [h.len, tly_length]
  have ht := trm_ok F least n
  have hz : ∀ i, trm F least n ≤ i → ln F i = 0 := fun i hi => by
    by_cases h2 : i < n
    · exact ht.2.2 i hi h2
    · unfold ln; rw [List.getD_eq_getElem?_getD, List.getElem?_eq_none (by omega)]; rfl
  have hf := valid_fit hv h.len (by decide)
  have hln : (F.take (trm F least n)).length = trm F least n := by rw [List.length_take]; omega
  refine ⟨by rw [hln]; exact ht.2.1 hn.1, by omega, fun x hx => hf x (List.mem_of_mem_take hx), lens_check h hA (by decide) (by rw [tly_length]; omega) hz (.inr rfl), fun x hx hb hxn => ?_⟩
  have hp := tly_pos hx hb hxn
  have := hv x.2.1 (by rw [tly_length]; exact hxn)
  have e1 : L.ln (tly b n ms) x.2.1 = ln (tly b n ms) x.2.1 := rfl
  have e2 : L.ln F x.2.1 = ln F x.2.1 := rfl
  rw [e1, e2] at this
  have h1 : 1 ≤ ln F x.2.1 := by omega
  have hlt : x.2.1 < trm F least n := by
    rcases Nat.lt_or_ge x.2.1 (trm F least n) with h' | h'
    · exact h'
    · have := hz _ h'; omega
  refine ⟨by omega, ?_⟩
  have e3 : ln (F.take (trm F least n)) x.2.1 = ln F x.2.1 := by unfold ln; simp [List.getD, hlt]
  rw [e3]; exact h1
theorem DynOk.ok {ts : List M.Tk} {S D : List Int} (h : DynOk ts S D) (hok : TOk ts) (hl : ts.length ≤ 1200000) : BkOk 2 ts S D := by
  obtain ⟨FS, FD, h1, rfl, h2, rfl⟩ := h
  have hml := emk_len ts
  have hmk := emk_ok hok
  obtain ⟨a1, a2, a3, a4, a5⟩ := trimmed (least := 257) (by decide) (by omega) h1
  obtain ⟨b1, b2, b3, b4, b5⟩ := trimmed (least := 1) (by decide) (by omega) h2
  have hend := a5 (false, (256, 0, 0)) (pre_mem (end_pre ts)) rfl (by decide)
  refine ⟨.inr ⟨rfl, a1, a2, b1, b2, a3, b3, by have := hend.2; simp only at this; omega⟩, hok, hl, a4, b4, fun x hx => ⟨fun e => a5 x hx e ((hmk x hx).1 e), fun e => b5 x hx e ((hmk x hx).2.1 e)⟩⟩
theorem fix_ok {ts : List M.Tk} (hok : TOk ts) (hl : ts.length ≤ 1200000) : BkOk 1 ts iFix iFive := by
  have hmk := emk_ok hok
  refine ⟨.inl ⟨rfl, rfl, rfl⟩, hok, hl, iFix_check, iFive_check, fun x hx => ⟨fun e => ?_, fun e => ?_⟩⟩
  · have h := (hmk x hx).1 e
    refine ⟨by rw [iFix_length]; omega, ?_⟩
    rw [iFix_ln (by omega)]
    split <;> (try split) <;> (try split) <;> omega
  · have h := (hmk x hx).2.1 e
    refine ⟨by rw [iFive_length]; omega, ?_⟩
    rw [iFive_ln (by omega)]; omega
/-- A block told. -/
def BRet (w : World) (ta : Option Addr) (ct : Nat) (ts : List M.Tk) (k : Nat) (e : Ending) (w' : World) : Prop :=
  ∃ sa cs da cd S D H, BkOk k ts S D ∧ (k = 2 → DynOk ts S D) ∧ HdIs k S D H ∧ e = .returned (.agg (bA ta ts.length ct k sa S.length cs da D.length cd (szB k H S D ts))) ∧ BkAt w'.heap.size w' ta sa da ts S D ∧ (Ints w.heap.size w'.heap.size w' sa S ∧ Ints w.heap.size w'.heap.size w' da D) ∧ Below w.heap.size w w'
/-- Tokens that come in. -/
structure TkIn (w : World) (ta : Option Addr) (ts : List M.Tk) : Prop where
  t : M.Toks w ta ts
  b : ∀ b off, ta = some ⟨b, off, none⟩ → b < w.heap.size
  ok : TOk ts
  len : ts.length ≤ 1200000
theorem TkIn.stay {w w' : World} {ta : Option Addr} {ts : List M.Tk} (h : TkIn w ta ts) (k : Below w.heap.size w w') : TkIn w' ta ts := ⟨h.t.stay k, fun b off e => Nat.lt_of_lt_of_le (h.b b off e) k.size, h.ok, h.len⟩
abbrev bZ : Array Value := #[.slice none 0 0, .int .i64 0, .slice none 0 0, .slice none 0 0, .int .i64 0]
theorem valA_tight {gl lo hi : Nat} {F : List Int} {w : World} (h : w.heap[gl]? = some (.cells (valA F) 3 (0, 0))) (h1 : lo ≤ gl) (h2 : gl < hi) : Ints lo hi w (some ⟨gl, 0, none⟩) F := by
  by_cases h0 : F.length = 0
  · exact .inl h0
  · exact .inr ⟨gl, 0, h1, h2, lt_of_block h, rfl, fun i hi => by rw [Nat.zero_add, cells_of h, valA_at F hi]⟩
/-- A whole block stored, cell by cell. -/
def setBk (w : World) (g : Nat) (v0 v1 v2 v3 v4 : Value) : World := ((((w.setCell ⟨g, 0, none⟩ v0).setCell ⟨g, 1, none⟩ v1).setCell ⟨g, 2, none⟩ v2).setCell ⟨g, 3, none⟩ v3).setCell ⟨g, 4, none⟩ v4
theorem setBk_at {w : World} {g : Nat} {u0 u1 u2 u3 u4 v0 v1 v2 v3 v4 : Value} (h : w.heap[g]? = some (.cells #[u0, u1, u2, u3, u4] 99 (0, 0))) : (setBk w g v0 v1 v2 v3 v4).heap[g]? = some (.cells #[v0, v1, v2, v3, v4] 99 (0, 0)) := set_of (set_of (set_of (set_of (set_of h 0 v0) 1 v1) 2 v2) 3 v3) 4 v4
theorem setBk_kept {w w' : World} {M : Nat → Prop} {g : Nat} {v0 v1 v2 v3 v4 : Value} (h : Kept M w w') (hg : M g) : Kept M w (setBk w' g v0 v1 v2 v3 v4) := ((((h.setCell (fun _ => hg) _).setCell (fun _ => hg) _).setCell (fun _ => hg) _).setCell (fun _ => hg) _).setCell (fun _ => hg) _
set_option maxHeartbeats 4000000 in
theorem fixedBlock_c (w : World) (hT : Tab w) (h0 : 2 < w.heap.size) (ta : Option Addr) (ct tb : Nat) (ts : List M.Tk) (hI : TkIn w ta ts) (ht : TlOf w tb ts) :
    Calls Tryz.prog 70 #[.slice ta ts.length ct, .pointer (some ⟨tb, 0, none⟩)] w (BRet w ta ct ts 1) := by
  obtain ⟨W, hWW⟩ : ∃ W, W = w.alloc (.cells bZ 99) := ⟨_, rfl⟩
  have blW : Below w.heap.size w W := by rw [hWW]; exact (Below.refl _ _).alloc (Nat.le_refl _) _
  have hWb : W.heap[w.heap.size]? = some (.cells bZ 99 (0, 0)) := by rw [hWW]; exact heap_new w _
  have HS := hide (dfixedSymbols_c W)
  have HD := fun W => hide (dfixedBacks_c W)
  have HE : Hid (w.alloc (.cells bZ 99) = W) := hWW.symm
  have HWB := hide hWb
  have HBW := hide blW
  have HTL := hide ht
  have HT := hide hT
  have HI := hide hI
  have hl1 := iFix_length
  have hl2 := iFive_length
  unfold NewRow at HS HD
  rw [hl1] at HS
  simp only [hl2] at HD
  have HL1 := hide hl1
  have HL2 := hide hl2
  clear hWW blW hWb hT hI ht hl1 hl2
  go_enter Tryz.func70, Tryz.ntmps70
  go_upto_region 1 with fail
  rw [HE.out]
  go_upto_region 2 with (first
    | (go_at_call 92; refine HS.out.mono ?_; rintro e w1 ⟨rfl, r1, b1⟩; have R1 := hide r1; have B1 := hide b1; clear r1 b1 HS)
    | (go_at_call 93; refine (HD _).out.mono ?_; rintro e w2 ⟨rfl, r2, b2⟩; have R2 := hide r2; have R12 := hide ((b2.block _ (lt_of_block R1.out)).trans R1.out); have B2 := hide (B1.out.trans (b2.mono B1.out.size)); clear r2 b2 HD))
  obtain ⟨W3, hW3⟩ : ∃ W3, W3 = w2.alloc (.cells #[.slice ta ts.length ct, .int .i64 1, .slice (some ⟨W.heap.size, 0, none⟩) 288 288, .slice (some ⟨w1.heap.size, 0, none⟩) 32 32, .int .i64 0] 99) := ⟨_, rfl⟩
  have bl3 : Below w2.heap.size w2 W3 := by rw [hW3]; exact (Below.refl _ _).alloc (Nat.le_refl _) _
  have bl03 : Below w.heap.size w W3 := HBW.out.trans ((B2.out.trans (bl3.mono B2.out.size)).mono HBW.out.size)
  have hW3b : W3.heap[w2.heap.size]? = some (.cells #[.slice ta ts.length ct, .int .i64 1, .slice (some ⟨W.heap.size, 0, none⟩) 288 288, .slice (some ⟨w1.heap.size, 0, none⟩) 32 32, .int .i64 0] 99 (0, 0)) := by rw [hW3]; exact heap_new w2 _
  have hr1 := (bl3.block _ (lt_of_block R12.out)).trans R12.out
  have hr2 := (bl3.block _ (lt_of_block R2.out)).trans R2.out
  have hI3 := HI.out.stay bl03
  have hbk : BkAt W3.heap.size W3 ta (some ⟨W.heap.size, 0, none⟩) (some ⟨w1.heap.size, 0, none⟩) ts iFix iFive := ⟨hI3.t, hI3.b, valA_ints hr1, valA_ints hr2⟩
  have hBK := fix_ok HI.out.ok HI.out.len
  have hM := measure_c W3 (HT.out.below bl03 h0) (Nat.lt_of_lt_of_le h0 bl03.size) ta (some ⟨W.heap.size, 0, none⟩) (some ⟨w1.heap.size, 0, none⟩) ct 288 32 1 tb 0 ts iFix iFive hBK hbk (HTL.out.below bl03)
  have hM' : Calls Tryz.prog 94 #[.agg #[.slice ta ts.length ct, .int .i64 1, .slice (some ⟨W.heap.size, 0, none⟩) 288 288, .slice (some ⟨w1.heap.size, 0, none⟩) 32 32, .int .i64 0], .pointer (some ⟨tb, 0, none⟩)] W3 (MsRet W3 1 iFix iFive ts) := by
    have e := hM
    unfold bA at e
    rw [HL1.out, HL2.out] at e
    exact e
  have HM := hide hM'
  have c0 := cells_of hW3b 0
  have c1 := cells_of hW3b 1
  have c2 := cells_of hW3b 2
  have c3 := cells_of hW3b 3
  have c4 := cells_of hW3b 4
  simp at c0 c1 c2 c3 c4
  have HE3 : Hid (w2.alloc (.cells #[.slice ta ts.length ct, .int .i64 1, .slice (some ⟨W.heap.size, 0, none⟩) 288 288, .slice (some ⟨w1.heap.size, 0, none⟩) 32 32, .int .i64 0] 99) = W3) := hW3.symm
  have HW3B := hide hW3b
  have HBK3 := hide hbk
  have HBL3 := hide bl03
  have hz2 : w.heap.size ≤ w2.heap.size := by have := B2.out.size; have := HBW.out.size; omega
  have hne : ¬ w2.heap.size = w.heap.size := by have := B2.out.size; have := lt_of_block HWB.out; omega
  have HWB3 := hide (((B2.out.trans (bl3.mono B2.out.size)).block _ (lt_of_block HWB.out)).trans HWB.out)
  have HIN := hide HI.out
  have HT1 := hide (valA_tight hr1 (lo := W.heap.size) (hi := w2.heap.size) (Nat.le_refl _) (lt_of_block R12.out))
  have HT2 := hide (valA_tight hr2 (lo := W.heap.size) (hi := w2.heap.size) (by have := B1.out.size; omega) (lt_of_block R2.out))
  have hWs : w.heap.size < W.heap.size := lt_of_block HWB.out
  have hz3 : w2.heap.size < W3.heap.size := lt_of_block HW3B.out
  rw [HE3.out]
  clear hM hM' hW3 bl3 bl03 hW3b hr1 hr2 hI3 hbk HE3 R1 R2 R12 B1 B2 HTL HT HI
  go_upto_region 3 with (go_at_call 94; refine HM.out.mono ?_; rintro e w4 ⟨H, hH, rfl, b4⟩; have HHD := hide hH; have B4 := hide b4; have hb4 := (b4.block _ (lt_of_block HW3B.out)).trans HW3B.out; have hz4 := (b4.block _ (lt_of_block HWB3.out)).trans HWB3.out; have HB4 := hide hb4; have HZ4 := hide hz4; have d4 := cells_of hb4 4; have g4 := free_of hb4 4; simp at d4; clear b4 hH hb4 hz4 HM)
  obtain ⟨SZ, hSZ⟩ : ∃ SZ, szB 1 H iFix iFive ts = SZ := ⟨_, rfl⟩
  rw [hSZ]
  have hb5 : (w4.setCell ⟨w2.heap.size, 4, none⟩ (.int .i64 SZ)).heap[w2.heap.size]? = some (.cells #[.slice ta ts.length ct, .int .i64 1, .slice (some ⟨W.heap.size, 0, none⟩) 288 288, .slice (some ⟨w1.heap.size, 0, none⟩) 32 32, .int .i64 SZ] 99 (0, 0)) := set_of HB4.out 4 (.int .i64 SZ)
  have hz5 : (w4.setCell ⟨w2.heap.size, 4, none⟩ (.int .i64 SZ)).heap[w.heap.size]? = some (.cells bZ 99 (0, 0)) := by rw [set_other (fun e => hne e.symm)]; exact HZ4.out
  have hk5 : Kept (fun i => i = w.heap.size ∨ i = w2.heap.size) W3 (w4.setCell ⟨w2.heap.size, 4, none⟩ (.int .i64 SZ)) := ((Kept.of_below B4.out).mono (fun i hi e => by omega)).setCell (fun _ => .inr rfl) _
  generalize w4.setCell ⟨w2.heap.size, 4, none⟩ (.int .i64 SZ) = w5 at hb5 hz5 hk5 ⊢
  have a0 := cells_of hb5 0
  have a1 := cells_of hb5 1
  have a2 := cells_of hb5 2
  have a3 := cells_of hb5 3
  have a4 := cells_of hb5 4
  have z0 := cells_of hz5 0
  have z1 := cells_of hz5 1
  have z2 := cells_of hz5 2
  have z3 := cells_of hz5 3
  have z4 := cells_of hz5 4
  have y0 := free_of hz5 0
  have y1 := free_of hz5 1
  have y2 := free_of hz5 2
  have y3 := free_of hz5 3
  have y4 := free_of hz5 4
  simp at a0 a1 a2 a3 a4 z0 z1 z2 z3 z4
  have HFIN : Hid (∀ wf, wf = setBk w5 w.heap.size (.slice ta ts.length ct) (.int .i64 1) (.slice (some ⟨W.heap.size, 0, none⟩) 288 288) (.slice (some ⟨w1.heap.size, 0, none⟩) 32 32) (.int .i64 SZ) → wf.heap[w.heap.size]? = some (.cells #[.slice ta ts.length ct, .int .i64 1, .slice (some ⟨W.heap.size, 0, none⟩) 288 288, .slice (some ⟨w1.heap.size, 0, none⟩) 32 32, .int .i64 SZ] 99 (0, 0)) ∧ BRet w ta ct ts 1 (.returned (.agg #[.slice ta ts.length ct, .int .i64 1, .slice (some ⟨W.heap.size, 0, none⟩) 288 288, .slice (some ⟨w1.heap.size, 0, none⟩) 32 32, .int .i64 SZ])) wf) := fun wf hwf => by
    have hkf : Kept (fun i => i = w.heap.size ∨ i = w2.heap.size) W3 wf := by rw [hwf]; exact setBk_kept hk5 (.inl rfl)
    have hbf : Below w.heap.size w wf := HBL3.out.trans (hkf.below HBL3.out.size (fun i hi e => by omega))
    refine ⟨by rw [hwf]; exact setBk_at hz5, some ⟨W.heap.size, 0, none⟩, 288, some ⟨w1.heap.size, 0, none⟩, 32, iFix, iFive, H, hBK, fun e => by omega, HHD.out, ?_, ⟨HIN.out.t.stay hbf, fun b off e => Nat.lt_of_lt_of_le (HIN.out.b b off e) hbf.size, ?_, ?_⟩, ⟨?_, ?_⟩, hbf⟩
    · unfold bA; rw [HL1.out, HL2.out, hSZ]; rfl
    · exact (HT1.out.kept hkf (fun b h1 h2 e => by omega)).wide (Nat.zero_le _) (by have := hkf.size; omega)
    · exact (HT2.out.kept hkf (fun b h1 h2 e => by omega)).wide (Nat.zero_le _) (by have := hkf.size; omega)
    · exact (HT1.out.kept hkf (fun b h1 h2 e => by omega)).wide (by omega) (by have := hkf.size; omega)
    · exact (HT2.out.kept hkf (fun b h1 h2 e => by omega)).wide (by omega) (by have := hkf.size; omega)
  clear hb5 hz5 hk5 hSZ HB4 HZ4 B4 d4 g4 c0 c1 c2 c3 c4
  go_wp2_with fail
  obtain ⟨hf1, hf2⟩ := HFIN.out _ rfl
  exact bodyPost_ret (results_cell_row rfl _ _ w.heap.size 99 _ (0, 0) _ (by rfl) hf1 Tryz.underlying99 rfl infoBk) rfl hf2
end Go.Proofs.YteknifnadbmfiaaGreatDoor

/- dynamicBlock: contract. -/
namespace Go.Proofs.YteknifnadbmfiaaGreatDoor
set_option maxRecDepth 100000
open Go Go.RowKit

theorem valA_pre {gl n lo hi : Nat} {F : List Int} {w : World} (h : w.heap[gl]? = some (.cells (valA F) 3 (0, 0))) (h1 : lo ≤ gl) (h2 : gl < hi) : Ints lo hi w (some ⟨gl, 0, none⟩) (F.take n) := by
  by_cases h0 : (F.take n).length = 0
  · exact .inl h0
  · refine .inr ⟨gl, 0, h1, h2, lt_of_block h, rfl, fun i hi => ?_⟩
    rw [List.length_take] at hi
    rw [Nat.zero_add, cells_of h, valA_at F (by omega)]
    have e : ln (F.take n) i = ln F i := by unfold ln; simp [List.getD, show i < n by omega]
    rw [e]
set_option maxHeartbeats 8000000 in
theorem dynamicBlock_c (w : World) (hT : Tab w) (h0 : 2 < w.heap.size) (ta : Option Addr) (ct tb : Nat) (ts : List M.Tk) (hI : TkIn w ta ts) (ht : TlOf w tb ts) :
    Calls Tryz.prog 71 #[.slice ta ts.length ct, .pointer (some ⟨tb, 0, none⟩)] w (BRet w ta ct ts 2) := by
  obtain ⟨g, hg⟩ : ∃ g, g = w.heap.size + 1 := ⟨_, rfl⟩
  obtain ⟨W, hWW⟩ : ∃ W, W = (w.alloc (.cells bZ 99)).alloc (.cells #[.slice ta ts.length ct, .int .i64 2, .slice none 0 0, .slice none 0 0, .int .i64 0] 99) := ⟨_, rfl⟩
  have blW : Below w.heap.size w W := by rw [hWW]; exact ((Below.refl _ _).alloc (Nat.le_refl _) _).alloc (by simp) _
  have hz : W.heap[w.heap.size]? = some (.cells bZ 99 (0, 0)) := by rw [hWW]; exact heap_new1 w _ _
  have hgb : W.heap[g]? = some (.cells #[.slice ta ts.length ct, .int .i64 2, .slice none 0 0, .slice none 0 0, .int .i64 0] 99 (0, 0)) := by rw [hWW, hg]; exact heap_new2 w _ _
  have hWz : W.heap.size = g + 1 := by rw [hWW, hg]; simp
  have hml := emk_len ts
  have hlen := hI.len
  have htb : tb < w.heap.size := lt_of_block ht.1
  have hb1 : ∀ (b : Bool) (n : Nat) (i : Nat), 0 ≤ ln (tly b n (emk ts)) i ∧ ln (tly b n (emk ts)) i ≤ 1000000000 := fun b n i => by have := tly_le b n (emk ts) i; omega
  have htW := ht.below blW
  have hBA : Calls Tryz.prog 96 #[.slice (some ⟨tb, 0, none⟩) 286 286] W fun e w' => ∃ gl F, e = .returned (.slice (some ⟨gl, 0, none⟩) 286 286) ∧ W.heap.size ≤ gl ∧ w'.heap[gl]? = some (.cells (valA F) 3 (0, 0)) ∧ L.LGoodR (tly false 286 (emk ts)) 15 F ∧ Below W.heap.size W w' := by
    have := best_c (tb + 1) (some ⟨tb, 0, none⟩) 286 (tly false 286 (emk ts)) W htW.a (by rw [tly_length]; decide) (hb1 false 286)
    rw [tly_length] at this
    exact this
  have HBB : Hid (∀ w3, TlOf w3 tb ts → Calls Tryz.prog 96 #[.slice (some ⟨tb, 286, none⟩) 30 30] w3 fun e w' => ∃ gl F, e = .returned (.slice (some ⟨gl, 0, none⟩) 30 30) ∧ w3.heap.size ≤ gl ∧ w'.heap[gl]? = some (.cells (valA F) 3 (0, 0)) ∧ L.LGoodR (tly true 30 (emk ts)) 15 F ∧ Below w3.heap.size w3 w') := fun w3 h3 => by
    have := best_c (tb + 1) (some ⟨tb, 286, none⟩) 30 (tly true 30 (emk ts)) w3 h3.b (by rw [tly_length]; decide) (hb1 true 30)
    rw [tly_length] at this
    exact this
  have HTR : Hid (∀ (n least gl : Nat) (F : List Int) (w2 : World), w2.heap[gl]? = some (.cells (valA F) 3 (0, 0)) → F.length = n → n ≤ 1000 → 1 ≤ least → least ≤ n → Calls Tryz.prog 95 #[.slice (some ⟨gl, 0, none⟩) n n, .int .i64 (least : Int)] w2 fun e w' => e = .returned (.slice (some ⟨gl, 0, none⟩) (trm F least n) n) ∧ w' = w2) := fun n least gl F w2 h hn h1 h2 h3 => by
    subst hn
    exact trim_c gl least F w2 h h1 ⟨h2, h3⟩
  have HBA := hide hBA
  have HE : Hid ((w.alloc (.cells bZ 99)).alloc (.cells #[.slice ta ts.length ct, .int .i64 2, .slice none 0 0, .slice none 0 0, .int .i64 0] 99) = W) := hWW.symm
  have HGE : Hid (w.heap.size + 1 = g) := hg.symm
  have HZ := hide hz
  have HG := hide hgb
  have HBW := hide blW
  have HTL := hide htW
  have HT := hide hT
  have HI := hide hI
  have HWZ := hide hWz
  have hne : ¬ g = w.heap.size := by omega
  have hgw : w.heap.size < g := by omega
  clear hWW blW hz hgb hT hI ht hml hlen hb1 htW hBA hWz
  go_enter Tryz.func71, Tryz.ntmps71
  go_upto_region 2 with fail
  rw [HE.out, HGE.out]
  clear hg
  go_upto_region 3 with (first
    | (go_at_call 96; refine HBA.out.mono ?_; rintro e w2 ⟨g1, F1, rfl, hg1, r1, gd1, b1⟩; have TR1 := hide (HTR.out 286 257 g1 F1 w2 r1 (by rw [gd1.len, tly_length]) (by decide) (by decide) (by decide)); have R1 := hide r1; have GD1 := hide gd1; have HG1 := hide hg1; have B1 := hide b1; have hgb2 := (b1.block g (by have := HWZ.out; omega)).trans HG.out; have x2 := cells_of hgb2 2; have y2 := free_of hgb2 2; have HG2 := hide hgb2; simp at x2; clear hg1 r1 gd1 b1 hgb2 HBA)
    | (go_at_call 95; refine TR1.out.mono ?_; rintro e w2b ⟨rfl, hw2b⟩; obtain rfl : w2 = w2b := hw2b.symm; clear TR1))
  obtain ⟨n1, hn1⟩ : ∃ n1, trm F1 257 286 = n1 := ⟨_, rfl⟩
  rw [hn1]
  have HN1 := hide hn1
  have hg1g : ¬ g1 = g := by have := HG1.out; have := HWZ.out; omega
  have hg3 : (w2.setCell ⟨g, 2, none⟩ (.slice (some ⟨g1, 0, none⟩) n1 286)).heap[g]? = some (.cells #[.slice ta ts.length ct, .int .i64 2, .slice (some ⟨g1, 0, none⟩) n1 286, .slice none 0 0, .int .i64 0] 99 (0, 0)) := set_of HG2.out 2 _
  have hr3 : (w2.setCell ⟨g, 2, none⟩ (.slice (some ⟨g1, 0, none⟩) n1 286)).heap[g1]? = some (.cells (valA F1) 3 (0, 0)) := by rw [set_other hg1g]; exact R1.out
  have hk3 : Kept (fun i => i = g) W (w2.setCell ⟨g, 2, none⟩ (.slice (some ⟨g1, 0, none⟩) n1 286)) := Kept.setCell (M := fun i => i = g) ((Kept.of_below B1.out).mono (fun i hi e => by omega)) (fun _ => rfl) _
  have ht3 : TlOf (w2.setCell ⟨g, 2, none⟩ (.slice (some ⟨g1, 0, none⟩) n1 286)) tb ts := ⟨hk3.heap HTL.out.1 (by omega), HTL.out.2⟩
  generalize w2.setCell ⟨g, 2, none⟩ (.slice (some ⟨g1, 0, none⟩) n1 286) = w3 at hg3 hr3 hk3 ht3 ⊢
  have HB2 := hide (HBB.out w3 ht3)
  have HG3 := hide hg3
  have HR3 := hide hr3
  have HK3 := hide hk3
  have hg3lt := lt_of_block hg3
  have hg1lt := lt_of_block hr3
  clear hn1 hg3 hr3 hk3 ht3 x2 y2 HG2 R1 B1 HBB HG
  go_upto_region 4 with (first
    | (go_at_call 96; refine HB2.out.mono ?_; rintro e w4 ⟨g2, F2, rfl, hg2, r2, gd2, b2⟩; have TR2 := hide (HTR.out 30 1 g2 F2 w4 r2 (by rw [gd2.len, tly_length]) (by decide) (by decide) (by decide)); have R2 := hide r2; have GD2 := hide gd2; have HGG2 := hide hg2; have B2 := hide b2; have hgb4 := (b2.block g hg3lt).trans HG3.out; have x3 := cells_of hgb4 3; have y3 := free_of hgb4 3; have HG4 := hide hgb4; simp at x3; clear hg2 r2 gd2 b2 hgb4 HB2)
    | (go_at_call 95; refine TR2.out.mono ?_; rintro e w4b ⟨rfl, hw4b⟩; obtain rfl : w4 = w4b := hw4b.symm; clear TR2))
  obtain ⟨n2, hn2⟩ : ∃ n2, trm F2 1 30 = n2 := ⟨_, rfl⟩
  rw [hn2]
  have hg2g : ¬ g2 = g := by have := HGG2.out; omega
  have hg5 : (w4.setCell ⟨g, 3, none⟩ (.slice (some ⟨g2, 0, none⟩) n2 30)).heap[g]? = some (.cells #[.slice ta ts.length ct, .int .i64 2, .slice (some ⟨g1, 0, none⟩) n1 286, .slice (some ⟨g2, 0, none⟩) n2 30, .int .i64 0] 99 (0, 0)) := set_of HG4.out 3 _
  have hr5 : (w4.setCell ⟨g, 3, none⟩ (.slice (some ⟨g2, 0, none⟩) n2 30)).heap[g1]? = some (.cells (valA F1) 3 (0, 0)) := by rw [set_other hg1g]; exact (B2.out.block _ hg1lt).trans HR3.out
  have hs5 : (w4.setCell ⟨g, 3, none⟩ (.slice (some ⟨g2, 0, none⟩) n2 30)).heap[g2]? = some (.cells (valA F2) 3 (0, 0)) := by rw [set_other hg2g]; exact R2.out
  have hk5 : Kept (fun i => i = g) W (w4.setCell ⟨g, 3, none⟩ (.slice (some ⟨g2, 0, none⟩) n2 30)) := Kept.setCell (M := fun i => i = g) (HK3.out.trans (Kept.of_below B2.out) (fun i hi e => by have := HK3.out.size; omega)) (fun _ => rfl) _
  generalize w4.setCell ⟨g, 3, none⟩ (.slice (some ⟨g2, 0, none⟩) n2 30) = w5 at hg5 hr5 hs5 hk5 ⊢
  have bl5 : Below w.heap.size w w5 := HBW.out.trans (hk5.below HBW.out.size (fun i hi e => by omega))
  have hz5 : w5.heap[w.heap.size]? = some (.cells bZ 99 (0, 0)) := hk5.heap HZ.out (by omega)
  have hdyn : DynOk ts (F1.take n1) (F2.take n2) := ⟨F1, F2, GD1.out, by rw [HN1.out], GD2.out, by rw [hn2]⟩
  have hbk := hdyn.ok HI.out.ok HI.out.len
  have hl1 : (F1.take n1).length = n1 := by have := (trm_ok F1 257 286).1; rw [HN1.out] at this; rw [List.length_take, GD1.out.len, tly_length]; omega
  have hl2 : (F2.take n2).length = n2 := by have := (trm_ok F2 1 30).1; rw [hn2] at this; rw [List.length_take, GD2.out.len, tly_length]; omega
  have hI5 := HI.out.stay bl5
  have hat : BkAt w5.heap.size w5 ta (some ⟨g1, 0, none⟩) (some ⟨g2, 0, none⟩) ts (F1.take n1) (F2.take n2) := ⟨hI5.t, hI5.b, valA_pre hr5 (Nat.zero_le _) (lt_of_block hr5), valA_pre hs5 (Nat.zero_le _) (lt_of_block hs5)⟩
  have hM := measure_c w5 (HT.out.below bl5 h0) (Nat.lt_of_lt_of_le h0 bl5.size) ta (some ⟨g1, 0, none⟩) (some ⟨g2, 0, none⟩) ct 286 30 2 tb 0 ts (F1.take n1) (F2.take n2) hbk hat ⟨hk5.heap HTL.out.1 (by omega), HTL.out.2⟩
  have hM' : Calls Tryz.prog 94 #[.agg #[.slice ta ts.length ct, .int .i64 2, .slice (some ⟨g1, 0, none⟩) n1 286, .slice (some ⟨g2, 0, none⟩) n2 30, .int .i64 0], .pointer (some ⟨tb, 0, none⟩)] w5 (MsRet w5 2 (F1.take n1) (F2.take n2) ts) := by
    have e := hM
    unfold bA at e
    rw [hl1, hl2] at e
    exact e
  have HM := hide hM'
  obtain ⟨S, hS⟩ : ∃ S, F1.take n1 = S := ⟨_, rfl⟩
  obtain ⟨D, hD⟩ : ∃ D, F2.take n2 = D := ⟨_, rfl⟩
  have hT1 := valA_pre (n := n1) hr5 (lo := g + 1) (hi := w5.heap.size) (by have := HG1.out; have := HWZ.out; omega) (lt_of_block hr5)
  have hT2 := valA_pre (n := n2) hs5 (lo := g + 1) (hi := w5.heap.size) (by have := HGG2.out; have := HK3.out.size; have := HWZ.out; omega) (lt_of_block hs5)
  rw [hS] at HM hl1 hbk hdyn hT1
  rw [hD] at HM hl2 hbk hdyn hT2
  have HL1 := hide hl1
  have HL2 := hide hl2
  have HBKO := hide hbk
  have HDY := hide hdyn
  have HT1 := hide hT1
  have HT2 := hide hT2
  have c0 := cells_of hg5 0
  have c1 := cells_of hg5 1
  have c2 := cells_of hg5 2
  have c3 := cells_of hg5 3
  have c4 := cells_of hg5 4
  simp at c0 c1 c2 c3 c4
  have HG5 := hide hg5
  have HZ5 := hide hz5
  have HBL5 := hide bl5
  have HIN := hide HI.out
  clear hn2 hM hM' hS hD hT1 hT2 hl1 hl2 hbk hdyn hat hI5 hg5 hr5 hs5 hk5 hz5 bl5 x3 y3 HG4 HR3 HK3 R2 B2 HN1 GD1 GD2 HTL HT HI HTR hg3lt hg1lt HG1 HGG2 HG3
  go_upto_region 5 with (go_at_call 94; refine HM.out.mono ?_; rintro e w6 ⟨H, hH, rfl, b6⟩; have HHD := hide hH; have B6 := hide b6; have hb6 := (b6.block _ (lt_of_block HG5.out)).trans HG5.out; have hz6 := (b6.block _ (lt_of_block HZ5.out)).trans HZ5.out; have HB6 := hide hb6; have HZ6 := hide hz6; have d4 := cells_of hb6 4; have g4 := free_of hb6 4; simp at d4; clear b6 hH hb6 hz6 HM)
  obtain ⟨SZ, hSZ⟩ : ∃ SZ, szB 2 H S D ts = SZ := ⟨_, rfl⟩
  rw [hSZ]
  have hb7 : (w6.setCell ⟨g, 4, none⟩ (.int .i64 SZ)).heap[g]? = some (.cells #[.slice ta ts.length ct, .int .i64 2, .slice (some ⟨g1, 0, none⟩) n1 286, .slice (some ⟨g2, 0, none⟩) n2 30, .int .i64 SZ] 99 (0, 0)) := set_of HB6.out 4 (.int .i64 SZ)
  have hz7 : (w6.setCell ⟨g, 4, none⟩ (.int .i64 SZ)).heap[w.heap.size]? = some (.cells bZ 99 (0, 0)) := by rw [set_other (fun e => hne e.symm)]; exact HZ6.out
  have hk7 : Kept (fun i => i = w.heap.size ∨ i = g) w5 (w6.setCell ⟨g, 4, none⟩ (.int .i64 SZ)) := ((Kept.of_below B6.out).mono (fun i hi e => by omega)).setCell (fun _ => .inr rfl) _
  generalize w6.setCell ⟨g, 4, none⟩ (.int .i64 SZ) = w7 at hb7 hz7 hk7 ⊢
  have a0 := cells_of hb7 0
  have a1 := cells_of hb7 1
  have a2 := cells_of hb7 2
  have a3 := cells_of hb7 3
  have a4 := cells_of hb7 4
  have z0 := cells_of hz7 0
  have z1 := cells_of hz7 1
  have z2 := cells_of hz7 2
  have z3 := cells_of hz7 3
  have z4 := cells_of hz7 4
  have y0 := free_of hz7 0
  have y1 := free_of hz7 1
  have y2 := free_of hz7 2
  have y3 := free_of hz7 3
  have y4 := free_of hz7 4
  simp at a0 a1 a2 a3 a4 z0 z1 z2 z3 z4
  have HFIN : Hid (∀ wf, wf = setBk w7 w.heap.size (.slice ta ts.length ct) (.int .i64 2) (.slice (some ⟨g1, 0, none⟩) n1 286) (.slice (some ⟨g2, 0, none⟩) n2 30) (.int .i64 SZ) → wf.heap[w.heap.size]? = some (.cells #[.slice ta ts.length ct, .int .i64 2, .slice (some ⟨g1, 0, none⟩) n1 286, .slice (some ⟨g2, 0, none⟩) n2 30, .int .i64 SZ] 99 (0, 0)) ∧ BRet w ta ct ts 2 (.returned (.agg #[.slice ta ts.length ct, .int .i64 2, .slice (some ⟨g1, 0, none⟩) n1 286, .slice (some ⟨g2, 0, none⟩) n2 30, .int .i64 SZ])) wf) := fun wf hwf => by
    have hkf : Kept (fun i => i = w.heap.size ∨ i = g) w5 wf := by rw [hwf]; exact setBk_kept hk7 (.inl rfl)
    have hbf : Below w.heap.size w wf := HBL5.out.trans (hkf.below HBL5.out.size (fun i hi e => by omega))
    refine ⟨by rw [hwf]; exact setBk_at hz7, some ⟨g1, 0, none⟩, 286, some ⟨g2, 0, none⟩, 30, S, D, H, HBKO.out, fun _ => HDY.out, HHD.out, ?_, ⟨HIN.out.t.stay hbf, fun b off e => Nat.lt_of_lt_of_le (HIN.out.b b off e) hbf.size, ?_, ?_⟩, ⟨?_, ?_⟩, hbf⟩
    · unfold bA; rw [HL1.out, HL2.out, hSZ]; rfl
    · exact (HT1.out.kept hkf (fun b h1 h2 e => by omega)).wide (Nat.zero_le _) hkf.size
    · exact (HT2.out.kept hkf (fun b h1 h2 e => by omega)).wide (Nat.zero_le _) hkf.size
    · exact (HT1.out.kept hkf (fun b h1 h2 e => by omega)).wide (by omega) hkf.size
    · exact (HT2.out.kept hkf (fun b h1 h2 e => by omega)).wide (by omega) hkf.size
  clear hb7 hz7 hk7 hSZ HB6 HZ6 B6 d4 g4 c0 c1 c2 c3 c4
  go_wp2_with fail
  obtain ⟨hf1, hf2⟩ := HFIN.out _ rfl
  exact bodyPost_ret (results_cell_row rfl _ _ w.heap.size 99 _ (0, 0) _ (by rfl) hf1 Tryz.underlying99 rfl infoBk) rfl hf2
end Go.Proofs.YteknifnadbmfiaaGreatDoor
