/- The program's Project: contract. -/
import Derived.Test.YtlfffpgokemjbaaVCop
namespace Go.Proofs.Ytlfffpgokemjbaa.U
set_option maxRecDepth 100000
open Go Go.RowKit
set_option linter.unusedVariables false
/-- A row of which the first ones are what the format keeps. -/
def half (f : Int) (es : List En) (i : Nat) : List En := prj f (es.take i) ++ es.drop i
theorem half_at {f : Int} {es : List En} {i : Nat} {m : En} (hm : es[i]? = some m) : (half f es i)[i]? = some m := by
  have hi := (List.getElem?_eq_some_iff.1 hm).1
  unfold half
  rw [List.getElem?_append_right (by simp [prj]; omega)]
  simp only [prj, List.length_map, List.length_take, List.getElem?_drop]
  rw [show i + (i - min i es.length) = i by omega]
  exact hm
theorem half_set {f : Int} {es : List En} {i : Nat} {m : En} (hm : es[i]? = some m) : (half f es i).set i (keep1 f m) = half f es (i + 1) := by
  have hi := (List.getElem?_eq_some_iff.1 hm).1
  have hl : (prj f (es.take i)).length = i := by simp [prj]; omega
  unfold half
  rw [List.set_append_right _ _ (by omega), hl, Nat.sub_self, prj_succ hm, List.append_assoc]
  congr 1
  rw [List.drop_eq_getElem_cons hi, List.set_cons_zero]
  rfl
theorem half_zero (f : Int) (es : List En) : half f es 0 = es := by simp [half, prj]
theorem half_all (f : Int) (es : List En) : half f es es.length = prj f es := by simp [half]
set_option maxHeartbeats 4000000 in
theorem project_c (a : Option Addr) (cap : Nat) (f : Int) (es : List En) (w : World) (h : EntsIn w a es) (hl : es.length ≤ 1000000000) (hT : ∀ m ∈ es, -9223372036854775808 ≤ m.time ∧ m.time ≤ 9223372036854775807) : Calls Try.prog 22 #[.slice a es.length cap, .int .i64 f] w (PjOk f es w) := by
  have hlen : (prj f es).length = es.length := by simp [prj]
  have HP : Hid (∀ g w', w.heap.size ≤ g → Er g (prj f es) w' → Below w.heap.size w w' → PjOk f es w (.returned (.slice (some ⟨g, 0, none⟩) es.length es.length)) w') := hide fun g w' q1 q2 q3 => ⟨g, q1, by rw [hlen], q2, q3⟩
  have HC := hide (copied_c a cap es w h hl)
  clear hlen
  obtain ⟨n, hnn⟩ : ∃ n, n = es.length := ⟨_, rfl⟩
  have HN := hide hnn
  rw [← hnn] at hl HP HC ⊢
  have HL := hide hl
  have HTT := hide hT
  clear h hnn hl hT
  by_cases hf : f = 1
  · subst hf
    go_enter Try.func22, Try.ntmps22
    go_wp2_with (go_at_call 28; refine HC.out.mono ?_; rintro e w1 ⟨g, hgw, rfl, he, hb⟩; have E1 := hide he; have B1 := hide hb; have GW := hide hgw; clear he hb hgw HC)
    rw [← HN.out]
    go_loopg [13] n (fun gk u13 wx => ∃ i : Nat, i + gk = n ∧ u13 = .int .i64 (i : Int) ∧ Hid (Er g (half 1 es i) wx) ∧ Hid (Below w.heap.size w wx))
    case atStart => exact ⟨0, by omega, rfl, hide (by rw [half_zero]; exact E1.out), B1⟩
    case round =>
      obtain ⟨i, hig, rfl, EX, BX⟩ := hrel
      clear E1
      cases gk with
      | zero =>
        obtain rfl : i = n := by omega
        have hge : ¬ (i : Int) < (i : Int) := by omega
        have e : half 1 es i = prj 1 es := by rw [HN.out]; exact half_all 1 es
        rw [e] at EX
        clear e
        go_wp2_with fail
        go_ret
        exact HP.out _ _ GW.out EX.out BX.out
      | succ g1 =>
        have hlt : (i : Int) < (n : Int) := by omega
        have hnI : (n : Int) ≤ 1000000000 := by have := HL.out; omega
        have hi : i < es.length := by have := HN.out; omega
        obtain ⟨m, hm⟩ : ∃ m, es[i]? = some m := ⟨_, List.getElem?_eq_getElem hi⟩
        have c4 : wr.cell? ⟨g, i * 6 + 4, none⟩ = some (.int .i64 m.time) := EX.out.cell (half_at hm) (j := 4) rfl
        have f4 := EX.out.free (i * 6 + 4)
        have hmt := HTT.out m (List.mem_of_getElem? hm)
        have HFL := fun W => hide (T.tfloor_c m.time 100 W hmt.1 hmt.2 (by omega))
        have ES : Hid (∀ v : Int, v = T.flo m.time 100 → Er g (half 1 es (i + 1)) (wr.setCell ⟨g, i * 6 + 4, none⟩ (.int .i64 v))) := hide fun v hv => by
          rw [← half_set hm]
          exact EX.out.set (half_at hm) (j := 4) (by omega) (by rw [show keep1 1 m = { m with time := T.flo m.time 100 } from if_pos rfl, hv]; rfl)
        have BS : Hid (∀ v, Below w.heap.size w (wr.setCell ⟨g, i * 6 + 4, none⟩ v)) := hide fun v => BX.out.trans (((Kept.refl (fun k => k = g) wr).setCell (p := ⟨g, i * 6 + 4, none⟩) (fun _ => rfl) v).below BX.out.size (fun k hk hkg => by have := GW.out; omega))
        have IG := hide hig
        clear hig hi hm hmt
        generalize hft : T.flo m.time 100 = ft at *
        have FT := hide hft.symm
        clear hft
        generalize m.time = tm at *
        go_wp2_with (go_at_call 37; refine (HFL _).out.mono ?_; rintro e w2 ⟨rfl, hw⟩; obtain rfl := hw.symm; clear HFL)
        go_roundg g1
        case measure => omega
        case rel => exact ⟨i + 1, by have := IG.out; omega, by go_num, hide (ES.out _ rfl), hide (BS.out _)⟩
  · have e : prj f es = es := by
      unfold prj
      exact (List.map_congr_left (g := id) (fun m _ => by unfold keep1; rw [if_neg hf]; rfl)).trans (List.map_id _)
    rw [e] at HP
    clear e
    go_enter Try.func22, Try.ntmps22
    go_wp2_with (go_at_call 28; refine HC.out.mono ?_; rintro e w1 ⟨g, hgw, rfl, he, hb⟩; have E1 := hide he; have B1 := hide hb; have GW := hide hgw; clear he hb hgw HC)
    rw [← HN.out]
    go_ret
    exact HP.out _ _ GW.out E1.out B1.out
end Go.Proofs.Ytlfffpgokemjbaa.U
