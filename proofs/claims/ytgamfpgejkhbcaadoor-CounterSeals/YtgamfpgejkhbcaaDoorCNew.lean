/- The program's New: contracts. -/
import Derived.Test.YtgamfpgejkhbcaaDoorCSpr
namespace Go.Proofs.YtgamfpgejkhbcaaDoor.K
set_option maxRecDepth 100000
open Go Go.RowKit

/-- Round keys by number: those of a key's spread words. -/
def kK (key : List Nat) (n r i : Nat) : Nat := kby key n (16 * r + i)
theorem kK_by {key : List Nat} (hk : By key) {n : Nat} (hn : 1 ≤ n) (r : Nat) : By16 (kK key n r) := fun _ _ => kby_lt hk hn _
/-- The cells of a Key: t bytes of its round keys are laid. -/
def yA (g : Nat → Nat) (t R : Nat) : Array Value := ((fA .u8 240 g t).toList ++ [Value.int .i64 (R : Int)]).toArray
theorem yA_size (g : Nat → Nat) (t R : Nat) : (yA g t R).size = 241 := by simp [yA, fA_size]
theorem yA_at (g : Nat → Nat) {t R i : Nat} (h : i < 240) (hi : i < t) : (yA g t R)[i]? = some (.int .u8 (g i : Nat)) := by
  rw [yA, List.getElem?_toArray, List.getElem?_append_left (by rw [Array.length_toList, fA_size]; exact h), Array.getElem?_toList]
  exact fA_at .u8 g h hi
theorem yA_last (g : Nat → Nat) (t R : Nat) : (yA g t R)[240]? = some (.int .i64 (R : Int)) := by
  rw [yA, List.getElem?_toArray, List.getElem?_append_right (by rw [Array.length_toList, fA_size]; omega), Array.length_toList, fA_size]
  rfl
theorem yA_list (g : Nat → Nat) (t R : Nat) : (yA g t R).toList = (fA .u8 240 g t).toList ++ [Value.int .i64 (R : Int)] := rfl
theorem fA_splice (g : Nat → Nat) {t : Nat} (ht : t + 4 ≤ 240) : splice (fA .u8 240 g t).toList t (four g t) = (fA .u8 240 g (t + 4)).toList := by
  apply List.ext_getElem?
  intro j
  unfold splice
  have hl : (fA .u8 240 g t).toList.length = 240 := by rw [Array.length_toList, fA_size]
  have h4 : (four g t).length = 4 := rfl
  by_cases h1 : j < t
  · rw [List.getElem?_append_left (by rw [List.length_take, hl]; omega), List.getElem?_take_of_lt h1, Array.getElem?_toList, Array.getElem?_toList, fA_at .u8 g (by omega) h1, fA_at .u8 g (by omega) (by omega)]
  · rw [List.getElem?_append_right (by rw [List.length_take, hl]; omega), List.length_take, hl, show min t 240 = t by omega]
    by_cases h2 : j < t + 4
    · rw [List.getElem?_append_left (by rw [h4]; omega), show (fA .u8 240 g (t + 4)).toList[j]? = (fA .u8 240 g (t + 4))[j]? from Array.getElem?_toList .., fA_at .u8 g (by omega) h2]
      rcases (show j = t ∨ j = t + 1 ∨ j = t + 2 ∨ j = t + 3 by omega) with rfl | rfl | rfl | rfl
      · rw [Nat.sub_self]; rfl
      · rw [show t + 1 - t = 1 by omega]; rfl
      · rw [show t + 2 - t = 2 by omega]; rfl
      · rw [show t + 3 - t = 3 by omega]; rfl
    · rw [List.getElem?_append_right (by rw [h4]; omega), h4, List.getElem?_drop, show t + 4 + (j - t - 4) = j by omega, Array.getElem?_toList, Array.getElem?_toList]
      by_cases h3 : j < 240
      · rw [fA_get .u8 g h3, fA_get .u8 g h3, if_neg h1, if_neg h2]
      · rw [Array.getElem?_eq_none (by rw [fA_size]; omega), Array.getElem?_eq_none (by rw [fA_size]; omega)]
theorem yA_splice (g : Nat → Nat) (R : Nat) {t : Nat} (ht : t + 4 ≤ 240) : (splice (yA g t R).toList t (four g t)).toArray = yA g (t + 4) R := by
  have hl : (fA .u8 240 g t).toList.length = 240 := by rw [Array.length_toList, fA_size]
  show (splice (yA g t R).toList t (four g t)).toArray = ((fA .u8 240 g (t + 4)).toList ++ [Value.int .i64 (R : Int)]).toArray
  rw [← fA_splice g ht, yA_list]
  unfold splice
  have h4 : (four g t).length = 4 := rfl
  rw [List.take_append_of_le_length (by omega), h4, List.drop_append_of_le_length (by omega), List.append_assoc, List.append_assoc]
theorem zeroKey (g : Nat → Nat) : (∀ w, (zeroValue 66).run Tryd.prog w = .ok (.agg (yA g 0 0)) w) ∧ (Tryd.prog.info? 66).map (·.size) = some 241 := by
  rw [yA, fA_zero]
  exact zero_of_info (by kernel_rfl)
theorem key_at {w : World} {b : Nat} {key : List Nat} {n : Nat} (h : w.heap[b]? = some (.cells (yA (kby key n) (16 * (n + 7)) (n + 6)) 66 (0, 0))) (hn : n ≤ 8) : KeyAt w b (n + 6) (kK key n) :=
  ⟨lt_of_block h, (cells_of h 240).trans (yA_last _ _ _), fun r hr i hi => (cells_of h (16 * r + i)).trans (yA_at _ (by omega) (by omega))⟩
theorem new_no (a : Option Addr) (len cap : Nat) (w : World) (hn : len ≠ 16 ∧ len ≠ 24 ∧ len ≠ 32) :
    Calls Tryd.prog 17 #[.slice a len cap] w fun e w' => e = .returned (.tuple #[.pointer none, .int .i64 120]) ∧ w' = w := by
  have h1 : ¬ (len : Int) = 16 := by omega
  have h2 : ¬ (len : Int) = 24 := by omega
  have h3 : ¬ (len : Int) = 32 := by omega
  go_enter Tryd.func17, Tryd.ntmps17
  go_wp2_with fail
  go_ret2
  exact ⟨rfl, rfl⟩
theorem wpList_build {P : Program} {ops : Array Oper} {rest : List Oper} {op : Oper} {a : Act} {w : World} {Q : Exit → Act → World → Prop} (hgd : op.guard = none) (t : TypeId) (parts : Array (Nat × Operand)) (ho : op.op = .build t parts)
    (ps : List (Nat × Value)) (cells : Array Value) (hc : P.built t ps = some cells) (hps : (parts.map fun (i, x) => (i, a.eval x)).toList = ps) (h : wpList P ops Q rest (a.put op.dst (.agg cells)) w) : wpList P ops Q (op :: rest) a w :=
  wpList_plain hgd fun _ hK => by
    unfold Oper.wp execOp
    subst hps
    simp only [ho, Sem.run_bind, run_build w t _ cells hc, Result.andThen_ok]
    exact hK _ _ h
theorem built_key (g : Nat → Nat) (R : Nat) : Tryd.prog.built 66 [(1, .int .i64 (R : Int))] = some (yA g 0 R) := by
  rw [yA, fA_zero]
  kernel_rfl
/-- What stands in memory meanwhile: the words, and the round keys of which t bytes are laid. -/
structure NS (w : World) (g : Nat → Nat) (T wb kb R t : Nat) (wx : World) : Prop where
  wrd : wx.heap[wb]? = some (.cells (sA g T) 61 (0, 0))
  ky : wx.heap[kb]? = some (.cells (yA g t R) 66 (0, 0))
  bel : Below w.heap.size w wx
set_option maxHeartbeats 8000000 in
theorem new_c (a : Addr) (cap n : Nat) (key : List Nat) (w : World) (hn : n = 4 ∨ n = 6 ∨ n = 8) (hkl : key.length = 4 * n) (hk : By key) (hkt : TextAt w (some a) key) (hcap : 4 * n ≤ cap) (hT : Tab w) :
    Calls Tryd.prog 17 #[.slice (some a) (4 * n : Nat) cap] w fun e w' => ∃ kb, w.heap.size ≤ kb ∧ e = .returned (.tuple #[.pointer (some ⟨kb, 0, none⟩), .int .i64 0]) ∧ KeyAt w' kb (n + 6) (kK key n) ∧ Below w.heap.size w w' := by
  have HN := hide hn
  have HSP := hide (spread_c a cap n key w hn hkl hk hkt hcap hT)
  have n1 : 4 ≤ n ∧ n ≤ 8 := by omega
  have q4 : ((4 * n : Nat) : Int) / 4 = (n : Int) := by omega
  clear hn hkl hk hkt hT
  go_enter Tryd.func17, Tryd.ntmps17
  have q4' : 4 * (n : Int) / 4 = (n : Int) := by omega
  have r6 : (n : Int) + 7 - 1 = ((n + 6 : Nat) : Int) := by omega
  have HBK := hide (built_key (kby key n) (n + 6))
  have hz60 : ∀ w, (zeroValue 61).run Tryd.prog w = .ok (.agg (sA (kby key n) 0)) w := (zero60 _).1
  have HI6 := hide (info60 (kby key n) (16 * (n + 7)))
  have HS6 := hide (show (sA (kby key n) 0).size = (sA (kby key n) (16 * (n + 7))).size by rw [sA_size, sA_size])
  have HO6 := hide (show (sA (kby key n) (16 * (n + 7))).all (·.oneCell') = true from fA_one _ _ _ _)
  go_upto_block 0 with fail
  go_cut [] (fun wx => w = wx)
  case first =>
    rcases HN.out with rfl | rfl | rfl
    all_goals go_wp2_with fail
    all_goals go_meet
    all_goals exact rfl
  case rest =>
    subst hcut
    obtain ⟨R, hR⟩ : ∃ R, R = n + 6 := ⟨_, rfl⟩
    obtain ⟨T, hT⟩ : ∃ T, T = 16 * (n + 7) := ⟨_, rfl⟩
    rw [← hT] at HSP HI6 HS6 HO6
    rw [← hR] at HBK r6
    have HR := hide hR
    have HTT := hide hT
    clear hR hT
    obtain ⟨g, hg⟩ : ∃ g, g = kby key n := ⟨_, rfl⟩
    have HG := hide hg
    rw [← hg] at HSP HBK HI6 HS6 HO6 hz60
    clear hg
    go_upto_region 8 with (first
      | (go_at_call 32; refine HSP.out.mono ?_; rintro e w1 ⟨rfl, b1⟩; have B1 := hide b1; clear b1)
      | (refine wpList_store_row rfl 61 (.tmp 5) (.tmp 20) rfl w1.heap.size (sA g T) (by rfl) (by rfl) (sA g 0) 61 (heap_new w1 _) HI6.out HS6.out HO6.out ?_; intro w2 X2 K2))
    have hs1 := B1.out.size
    have B2 := hide ((B1.out.alloc hs1 (.cells (sA g 0) 61)).trans (K2.out.below (by simp; omega) (fun i hi e => by omega)))
    obtain ⟨wb, hwb⟩ : ∃ wb, wb = w1.heap.size := ⟨_, rfl⟩
    rw [← hwb] at X2 hs1 ⊢
    clear hwb K2 B1 HSP
    simp only [Act.put]
    go_upto_region 9 with (refine wpList_build rfl 66 _ rfl _ _ HBK.out (by simp [Act.eval]) ?_)
    have hwb2 := lt_of_block X2.out
    have N0 : Hid (NS w g T wb w2.heap.size R (16 * 0) (w2.alloc (.cells (yA g 0 R) 66))) := ⟨heap_old X2.out, heap_new w2 _, B2.out.alloc B2.out.size _⟩
    have HKB := hide (And.intro B2.out.size hwb2)
    obtain ⟨kb, hkb⟩ : ∃ kb, kb = w2.heap.size := ⟨_, rfl⟩
    rw [← hkb] at N0 HKB ⊢
    have HWB := hide hs1
    clear hkb hwb2 X2 B2 HBK HI6 HS6 HO6 hz60
    generalize w2.alloc _ = w3 at N0 ⊢
    have cl := (cells_of N0.out.ky 240).trans (yA_last g (16 * 0) R)
    have r14 : (R : Int) ≤ 14 := by have := HR.out; omega
    have rr0 : (0 : Int) ≤ (R : Int) := by omega
    go_wp2_with fail
    go_loopg [31] (R + 1) (fun gk u31 wx => ∃ r : Nat, r + gk = R + 1 ∧ u31 = .int .i64 r ∧ Hid (NS w g T wb kb R (16 * r) wx))
    case atStart => exact ⟨0, by omega, rfl, N0⟩
    case round =>
      obtain ⟨r, hrg, rfl, NR⟩ := hrel
      clear N0
      cases gk with
      | zero =>
        have hge : ¬ (r : Int) < (R : Int) + 1 := by omega
        have HFN := hide (show 16 * r = 16 * (n + 7) by have := HR.out; omega)
        go_wp2_with fail
        go_ret2
        refine ⟨kb, HKB.out.1, rfl, ?_, NR.out.bel⟩
        have h := NR.out.ky
        rw [HFN.out, HG.out, HR.out] at h
        exact key_at h n1.2
      | succ g1 =>
        have hlt : (r : Int) < (R : Int) + 1 := by omega
        have M0 : Hid (NS w g T wb kb R (16 * r + 4 * 0) wr) := NR
        clear NR
        go_wp2_with fail
        go_loopg [34] 4 (fun gk u34 wx => ∃ c : Nat, c + gk = 4 ∧ u34 = .int .i64 c ∧ Hid (NS w g T wb kb R (16 * r + 4 * c) wx))
        case atStart => exact ⟨0, by omega, rfl, M0⟩
        case round =>
          obtain ⟨c, hcg, rfl, NC⟩ := hrel
          clear M0
          cases gk with
          | zero =>
            obtain rfl : c = 4 := by omega
            have hge4 : ¬ ((4 : Nat) : Int) < 4 := by omega
            go_wp2_with fail
            go_roundg g1
            case measure => omega
            case rel => exact ⟨r + 1, by omega, by go_num, by rw [show 16 * (r + 1) = 16 * r + 4 * 4 by omega]; exact NC⟩
          | succ g2 =>
            have hlt4 : (c : Int) < 4 := by omega
            obtain ⟨c4, hc4⟩ : ∃ c4, c4 = 4 * c := ⟨_, rfl⟩
            obtain ⟨r4, hr4⟩ : ∃ r4, r4 = 4 * r := ⟨_, rfl⟩
            obtain ⟨m, hm⟩ : ∃ m, m = r4 + c := ⟨_, rfl⟩
            have v1 : (4 : Int) * (c : Int) = (c4 : Int) := by omega
            have v2 : (4 : Int) * (r : Int) = (r4 : Int) := by omega
            have v3 : (r4 : Int) + (c : Int) = (m : Int) := by omega
            have w1' : IntKind.i64.wrap (4 * (c : Int)) = (c4 : Int) := by rw [IntKind.wrap_i64]; omega
            have w2' : IntKind.i64.wrap (4 * (r : Int)) = (r4 : Int) := by rw [IntKind.wrap_i64]; omega
            have w3' : IntKind.i64.wrap ((r4 : Int) + (c : Int)) = (m : Int) := by rw [IntKind.wrap_i64]; omega
            have w4' : IntKind.i64.wrap (c4 : Int) = (c4 : Int) := by rw [IntKind.wrap_i64]; omega
            have w5' : IntKind.i64.wrap (r4 : Int) = (r4 : Int) := by rw [IntKind.wrap_i64]; omega
            have w6' : IntKind.i64.wrap (m : Int) = (m : Int) := by rw [IntKind.wrap_i64]; omega
            have hs1' := fun W => sliceBlk_l .i64 W kb (r * 16) c4 (by omega)
            have hs2' := fun W => sliceWord W wb (m * 4)
            have m0 : (0 : Int) ≤ (m : Int) := by omega
            have m1 : (m : Int) < 60 := by omega
            have r0 : (0 : Int) ≤ (r : Int) := by omega
            have r15 : (r : Int) < 15 := by omega
            have Y2 := hide (show ∀ j v, (four g (16 * r + 4 * c))[j]? = some v → wr.drew.cell? ((⟨wb, m * 4, none⟩ : Addr).add j) = some v from fun j v hv => by
              have hj : j < 4 := (List.getElem?_eq_some_iff.1 hv).1
              have hT := HTT.out
              have hR := HR.out
              rw [addr_plain, cells_of (show wr.drew.heap[wb]? = _ from NC.out.wrd) (m * 4 + j), sA, fA_at .u8 g (by omega) (by omega), show m * 4 + j = 16 * r + 4 * c + j by omega, ← hv]
              rcases (show j = 0 ∨ j = 1 ∨ j = 2 ∨ j = 3 by omega) with rfl | rfl | rfl | rfl <;> rfl)
            have HSP := hide (yA_splice g R (t := 16 * r + 4 * c) (by omega))
            have HMN := hide (show (four g (16 * r + 4 * c)).length = Nat.min 4 (16 - c4) from (Nat.min_eq_left (show 4 ≤ 16 - c4 by omega)).symm)
            have HF1 := hide (four_one g (16 * r + 4 * c))
            have HL4 := hide (show (four g (16 * r + 4 * c)).length = 4 from rfl)
            have HTN := hide (show 16 * r + 4 * (c + 1) = 16 * r + 4 * c + 4 by omega)
            have HOF := hide (show r * 16 + c4 = 16 * r + 4 * c by omega)
            have HT240 := hide (show 16 * r + 4 * c + 4 ≤ 241 by omega)
            obtain ⟨L, hL⟩ : ∃ L, L = (yA g (16 * r + 4 * c) R).toList := ⟨_, rfl⟩
            have HLL := hide (show L.length = 241 by rw [hL, Array.length_toList, yA_size])
            have Y3 : Hid (wr.drew.heap[kb]? = some (.cells L.toArray 66 (0, 0))) := by rw [hL, Array.toArray_toList]; exact NC.out.ky
            rw [← hL] at HSP
            have YD : Hid (Below w.heap.size w wr.drew) := NC.out.bel.trans ((below_drew wr).mono NC.out.bel.size)
            have YW : Hid (wr.drew.heap[wb]? = some (.cells (sA g T) 61 (0, 0))) := NC.out.wrd
            generalize four g (16 * r + 4 * c) = G4 at Y2 HSP HMN HF1 HL4
            obtain ⟨t, ht⟩ : ∃ t, t = 16 * r + 4 * c := ⟨_, rfl⟩
            rw [← ht] at HSP HTN HOF HT240
            clear hL NC hc4 hr4 hm ht
            go_upto_region 15 with fail
            refine wp_region_held_drew (S := fun _ => True) (by kernel_rfl) trivial ?_
            intro hS0
            generalize wr.drew = W0 at Y2 Y3 YD YW ⊢
            refine wpAnyH_take (i := 0) (v := .pointer (some ⟨kb, 0, none⟩)) rfl (by kernel_rfl) (by kernel_rfl) (by kernel_rfl) (fun _ _ _ h => h) (Or.inl ⟨by rfl, fun _ _ => by go_simp⟩) hS0 ?_
            simp only [Act.put, List.getElem_toArray, List.getElem_cons_zero, List.setIfInBounds_toArray, List.set_cons_zero, List.set_cons_succ]
            refine wpAnyH_take (i := 1) (v := .int .i64 (r : Int)) rfl (by kernel_rfl) (by kernel_rfl) (by kernel_rfl) (fun _ _ _ h => h) (Or.inl ⟨by rfl, fun _ _ => by go_simp⟩) hS0 ?_
            simp only [Act.put, List.getElem_toArray, List.getElem_cons_zero, List.getElem_cons_succ, List.setIfInBounds_toArray, List.set_cons_zero, List.set_cons_succ]
            refine wpAnyH_take (i := 2) (v := .pointer (some ⟨kb, 0, none⟩)) rfl (by kernel_rfl) (by kernel_rfl) (by kernel_rfl) (fun _ _ _ h => h) (Or.inl ⟨by rfl, fun _ _ => by go_simp⟩) hS0 ?_
            simp only [Act.put, List.getElem_toArray, List.getElem_cons_zero, List.getElem_cons_succ, List.setIfInBounds_toArray, List.set_cons_zero, List.set_cons_succ]
            refine wpAnyH_take (i := 3) (v := .pointer (some ⟨kb, 0, none⟩)) rfl (by kernel_rfl) (by kernel_rfl) (by kernel_rfl) (fun _ _ _ h => h) (Or.inl ⟨by rfl, fun _ _ => by go_simp⟩) hS0 ?_
            simp only [Act.put, List.getElem_toArray, List.getElem_cons_zero, List.getElem_cons_succ, List.setIfInBounds_toArray, List.set_cons_zero, List.set_cons_succ]
            refine wpAnyH_take (i := 4) (v := .pointer (some ⟨kb, r * 16, none⟩)) rfl (by kernel_rfl) (by kernel_rfl) (by kernel_rfl) (fun _ _ _ h => h) (Or.inl ⟨by rfl, fun _ _ => by go_simp⟩) hS0 ?_
            simp only [Act.put, List.getElem_toArray, List.getElem_cons_zero, List.getElem_cons_succ, List.setIfInBounds_toArray, List.set_cons_zero, List.set_cons_succ]
            refine wpAnyH_take (i := 5) (v := .int .i64 (c : Int)) rfl (by kernel_rfl) (by kernel_rfl) (by kernel_rfl) (fun _ _ _ h => h) (Or.inl ⟨by rfl, fun _ _ => by go_simp⟩) hS0 ?_
            simp only [Act.put, List.getElem_toArray, List.getElem_cons_zero, List.getElem_cons_succ, List.setIfInBounds_toArray, List.set_cons_zero, List.set_cons_succ]
            refine wpAnyH_take (i := 6) (v := .int .i64 (c4 : Int)) rfl (by kernel_rfl) (by kernel_rfl) (by kernel_rfl) (fun _ _ _ h => h) (Or.inl ⟨by rfl, fun _ _ => by go_simp⟩) hS0 ?_
            simp only [Act.put, List.getElem_toArray, List.getElem_cons_zero, List.getElem_cons_succ, List.setIfInBounds_toArray, List.set_cons_zero, List.set_cons_succ]
            refine wpAnyH_take (i := 7) (v := .slice (some ⟨kb, r * 16 + c4, none⟩) (16 - c4) (16 - c4)) rfl (by kernel_rfl) (by kernel_rfl) (by kernel_rfl) (fun _ _ _ h => h) (Or.inl ⟨by rfl, fun _ _ => by go_simp⟩) hS0 ?_
            simp only [Act.put, List.getElem_toArray, List.getElem_cons_zero, List.getElem_cons_succ, List.setIfInBounds_toArray, List.set_cons_zero, List.set_cons_succ]
            refine wpAnyH_take (i := 8) (v := .int .i64 (r : Int)) rfl (by kernel_rfl) (by kernel_rfl) (by kernel_rfl) (fun _ _ _ h => h) (Or.inl ⟨by rfl, fun _ _ => by go_simp⟩) hS0 ?_
            simp only [Act.put, List.getElem_toArray, List.getElem_cons_zero, List.getElem_cons_succ, List.setIfInBounds_toArray, List.set_cons_zero, List.set_cons_succ]
            refine wpAnyH_take (i := 9) (v := .int .i64 (r4 : Int)) rfl (by kernel_rfl) (by kernel_rfl) (by kernel_rfl) (fun _ _ _ h => h) (Or.inl ⟨by rfl, fun _ _ => by go_simp⟩) hS0 ?_
            simp only [Act.put, List.getElem_toArray, List.getElem_cons_zero, List.getElem_cons_succ, List.setIfInBounds_toArray, List.set_cons_zero, List.set_cons_succ]
            refine wpAnyH_take (i := 10) (v := .int .i64 (c : Int)) rfl (by kernel_rfl) (by kernel_rfl) (by kernel_rfl) (fun _ _ _ h => h) (Or.inl ⟨by rfl, fun _ _ => by go_simp⟩) hS0 ?_
            simp only [Act.put, List.getElem_toArray, List.getElem_cons_zero, List.getElem_cons_succ, List.setIfInBounds_toArray, List.set_cons_zero, List.set_cons_succ]
            refine wpAnyH_take (i := 11) (v := .int .i64 (m : Int)) rfl (by kernel_rfl) (by kernel_rfl) (by kernel_rfl) (fun _ _ _ h => h) (Or.inl ⟨by rfl, fun _ _ => by go_simp⟩) hS0 ?_
            simp only [Act.put, List.getElem_toArray, List.getElem_cons_zero, List.getElem_cons_succ, List.setIfInBounds_toArray, List.set_cons_zero, List.set_cons_succ]
            refine wpAnyH_take (i := 12) (v := .pointer (some ⟨wb, m * 4, none⟩)) rfl (by kernel_rfl) (by kernel_rfl) (by kernel_rfl) (fun _ _ _ h => h) (Or.inl ⟨by rfl, fun _ _ => by go_simp⟩) hS0 ?_
            simp only [Act.put, List.getElem_toArray, List.getElem_cons_zero, List.getElem_cons_succ, List.setIfInBounds_toArray, List.set_cons_zero, List.set_cons_succ]
            refine wpAnyH_take (i := 13) (v := .slice (some ⟨wb, m * 4, none⟩) 4 4) rfl (by kernel_rfl) (by kernel_rfl) (by kernel_rfl) (fun _ _ _ h => h) (Or.inl ⟨by rfl, fun _ _ => by go_simp⟩) hS0 ?_
            simp only [Act.put, List.getElem_toArray, List.getElem_cons_zero, List.getElem_cons_succ, List.setIfInBounds_toArray, List.set_cons_zero, List.set_cons_succ]
            rw [HOF.out]
            refine wpAnyH_ready (rs := [14]) (by kernel_rfl) (by simp) ?_
            refine AllReadyH.cons rfl (fun KK hK => ?_) AllReadyH.nil
            refine step_copy_kept rfl (.tmp 44) (.tmp 50) rfl _ _ _ _ _ kb t (by rfl) (by rfl) L 66 Y3.out G4 HMN.out Y2.out (by rw [HL4.out, HLL.out]; exact HT240.out) HF1.out ?_
            intro w4 X4 K4
            refine hK.out _ _ trivial (fun _ => ?_)
            have N4 : Hid (NS w g T wb kb R (t + 4) w4) := ⟨K4.out.heap YW.out (by have := HKB.out.2; omega), by rw [← HSP.out]; exact X4.out, YD.out.trans (K4.out.below YD.out.size (fun i hi e => by have := HKB.out.1; omega))⟩
            clear hK KK X4 K4 YD YW Y3 Y2 hS0
            refine wpAnyH_done (by kernel_rfl) ?_ _
            go_wp2_with fail
            go_roundg g2
            case measure => omega
            case rel => exact ⟨c + 1, by omega, by go_num, by rw [HTN.out]; exact N4⟩
end Go.Proofs.YtgamfpgejkhbcaaDoor.K
