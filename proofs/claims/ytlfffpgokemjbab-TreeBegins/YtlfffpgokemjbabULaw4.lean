/- The law on how a tree begins: walk. -/
import Derived.Test.YtlfffpgokemjbabULaw1
namespace Go.Proofs.Ytlfffpgokemjbab.U
set_option maxRecDepth 100000
open Go Go.RowKit
set_option linter.unusedVariables false
/-- In a tree each entry is the first one of its path. -/
theorem fnd_own {es : List En} (h : Chk es 0) {i : Nat} {m : En} (hm : es[i]? = some m) : fnd m.path es = some m := by
  have hcl : ∀ (j : Nat) p, es[j]? = some p → Clean1 es j p := by
    rcases h with ⟨_, h⟩ | ⟨_, ⟨_, h⟩ | ⟨j, p, _, _, ht⟩⟩
    · cases h
    · exact h
    · exact absurd rfl ht.not.2
  have hi := (List.getElem?_eq_some_iff.1 hm).1
  have hr := rise_of (es := es) (n := es.length) (fun j p _ hj => hcl j p hj)
  rw [List.take_length] at hr
  refine fnd_some hm rfl (fun q hq e => ?_)
  obtain ⟨j, hj⟩ := List.getElem?_of_mem hq
  rw [List.getElem?_take] at hj
  split at hj
  · have := hr j i q m (by omega) hj hm
    rw [e, bl_irr] at this
    cases this
  · cases hj
theorem Chk.ex1 (es : List En) : Chk es 0 ∨ ∃ c, c ≠ 0 ∧ Chk es c := by
  obtain ⟨c, hc⟩ := Chk.ex es
  by_cases h : c = 0
  · subst h; exact .inl hc
  · exact .inr ⟨c, h, hc⟩
theorem six_heap {V : World} {g : Nat} {t : TypeId} {m : En} (h : V.heap[g]? = some (.cells m.cells t (0, 0))) : V.cell? ⟨g, 0, none⟩ = some (.int .i64 m.kind) ∧ V.cell? ⟨g, 1, none⟩ = some (.string m.path) ∧ V.cell? ⟨g, 2, none⟩ = some (.string m.target) ∧ V.cell? ⟨g, 3, none⟩ = some (.int .i64 m.mode) ∧ V.cell? ⟨g, 4, none⟩ = some (.int .i64 m.time) ∧ V.cell? ⟨g, 5, none⟩ = some (.string m.data) :=
  ⟨cells_of h 0, cells_of h 1, cells_of h 2, cells_of h 3, cells_of h 4, cells_of h 5⟩
set_option maxHeartbeats 8000000 in
theorem treeBegins_walk (a : Option Addr) (cap : Nat) (es : List En) (x : Int) (W : World) (hE : EntsIn W a es) (hcap : es.length ≤ cap) (hS : ∀ m ∈ es, m.path.size ≤ 140737488351232 ∧ m.target.size ≤ 140737488351232 ∧ m.data.size ≤ 140737488351232) : Calls Try.prog 3 #[.slice a es.length cap, .int .i64 x] W (Yes W) := by
  have HA := fun V => hide (alive_c V)
  have hS' : ∀ m ∈ es, m.path.size ≤ 140737488355000 ∧ m.target.size ≤ 140737488355000 ∧ m.data.size ≤ 140737488355000 := fun m hm => by have := hS m hm; omega
  by_cases hl : 200 < es.length
  · have hlI : (200 : Int) < (es.length : Int) := by omega
    clear hl hE hcap hS hS'
    generalize es.length = n at *
    go_enter Try.func3, Try.ntmps3
    go_wp2_with (go_at_call 5; refine (HA _).out.mono ?_; rintro e w2 ⟨rfl, hw⟩; have B1 := hide hw; clear hw HA)
    go_ret
    exact ⟨rfl, B1.out⟩
  have hlI : ¬ (200 : Int) < (es.length : Int) := by omega
  rcases Chk.ex1 es with hc | ⟨c, hc0, hc⟩
  · have H1 := hide (check_v a cap es 0 W hE hcap hS' hc)
    by_cases hx : 0 ≤ x ∧ x ≤ es.length
    · obtain ⟨k, rfl⟩ : ∃ k : Nat, x = (k : Int) := ⟨x.toNat, by omega⟩
      have hk : k ≤ es.length := by omega
      have hkl : (es.take k).length = k := by simp; omega
      have H2 := hide (fun V (hV : Below W.heap.size W V) (m : En) (i : Nat) (hm : es[i]? = some m) => by
        have := find_c a cap es m.path V (hE.stay hV) (by omega)
        unfold FnOk at this
        rw [fnd_own hc hm] at this
        exact (show Calls Try.prog 6 #[.slice a es.length cap, .string m.path] V fun e w' => e = .returned (.tuple #[.agg #[.int .i64 m.kind, .string m.path, .string m.target, .int .i64 m.mode, .int .i64 m.time, .string m.data], .bool true]) ∧ Below V.heap.size V w' from this))
      have H3 := hide (fun V (hV : Below W.heap.size W V) => by
        have := check_v a cap (es.take k) 0 V (by
          rcases hE.stay hV with h | ⟨b, off, hb, ha, hcc⟩
          · exact .inl (by simp; omega)
          · refine .inr ⟨b, off, hb, ha, fun i m hm j u hu => hcc i m ?_ j u hu⟩
            rw [List.getElem?_take] at hm
            split at hm
            · exact hm
            · cases hm) (by rw [hkl]; omega) (fun m hm => hS' m (List.mem_of_mem_take hm)) (chk_take k hc)
        rw [hkl] at this
        exact this)
      have HE := hide hE
      obtain ⟨n, hn⟩ : ∃ n, n = es.length := ⟨_, rfl⟩
      have HN := hide hn
      rw [← hn] at H1 H2 hlI hk hcap ⊢
      have hkI : (k : Int) ≤ (n : Int) := by omega
      have hk0 : (0 : Int) ≤ (k : Int) := by omega
      have hk1 : ¬ (k : Int) < 0 := by omega
      have hk2 : ¬ (n : Int) < (k : Int) := by omega
      have hkd : decide ((k : Int) < 0) = false := by simp
      have hkn : decide (n < k) = false := by simp; omega
      have hnI : (n : Int) ≤ 200 := by omega
      clear hE hS hS' hl hc hx hn hkl
      go_enter Try.func3, Try.ntmps3
      go_wp2_with (go_at_call 4; refine H1.out.mono ?_; rintro e w1 ⟨rfl, hw⟩; have B1 := hide hw; clear hw H1)
      go_loopg [30] n (fun gk u wx => ∃ j : Nat, j + gk = n ∧ u = .int .i64 (j : Int) ∧ Hid (Below W.heap.size W wx))
      case atStart => exact ⟨0, by omega, rfl, B1⟩
      case round =>
        clear B1
        obtain ⟨j, hjg, rfl, BX⟩ := hrel
        cases gk with
        | zero =>
          obtain rfl : j = n := by omega
          go_wp2_with (first
            | (go_at_call 5; refine (HA _).out.mono ?_; rintro e w7 ⟨rfl, hw⟩; have B7 := hide (BX.out.trans (hw.mono BX.out.size)); clear hw HA)
            | (go_at_call 4; refine (H3.out _ B7.out).mono ?_; rintro e w8 ⟨rfl, hw⟩; have B8 := hide (B7.out.trans (hw.mono B7.out.size)); clear hw H3))
          go_ret
          exact ⟨by simp, B8.out⟩
        | succ gk =>
          have hjn : (j : Int) < (n : Int) := by omega
          have hj : j < es.length := by have := HN.out; omega
          obtain ⟨m, hm⟩ : ∃ m, es[j]? = some m := ⟨_, List.getElem?_eq_getElem hj⟩
          obtain ⟨b1, o1, hb, rfl, a0, a1, a2, a3, a4, a5⟩ := (HE.out.stay BX.out).six hm
          have HF := hide (fun V hV => H2.out V hV m j hm)
          have JG := hide hjg
          have BA := hide (BX.out.alloc BX.out.size (.cells #[.int .i64 m.kind, .string m.path, .string m.target, .int .i64 m.mode, .int .i64 m.time, .string m.data] 27))
          have RA := hide (heap_new wr (.cells #[.int .i64 m.kind, .string m.path, .string m.target, .int .i64 m.mode, .int .i64 m.time, .string m.data] 27))
          clear hm hjg hj hb
          obtain ⟨mk, mp, mt, mm, mi, md⟩ := m
          simp only at a0 a1 a2 a3 a4 a5
          go_upto_region 6 with fail
          have z1 : (wr.alloc (.cells #[.int .i64 mk, .string mp, .string mt, .int .i64 mm, .int .i64 mi, .string md] 27)).cell? ⟨wr.heap.size, 1, none⟩ = some (.string mp) := by rw [cells_of RA.out]; rfl
          have LB := hide BX.out.size
          generalize (wr.alloc (.cells #[.int .i64 mk, .string mp, .string mt, .int .i64 mm, .int .i64 mi, .string md] 27)) = wA at *
          generalize wr.heap.size = b6 at *
          go_upto_region 7 with (go_at_call 6; refine (HF.out _ BA.out).mono ?_; rintro e w5 ⟨rfl, hw⟩; have B5 := hide (BA.out.trans (hw.mono BA.out.size)); have R5 := hide ((hw.block _ (lt_of_block RA.out)).trans RA.out); clear hw HF)
          have BZ := hide (B5.out.alloc B5.out.size (.cells #[.int .i64 mk, .string mp, .string mt, .int .i64 mm, .int .i64 mi, .string md] 27))
          have RZ := hide (heap_new w5 (.cells #[.int .i64 mk, .string mp, .string mt, .int .i64 mm, .int .i64 mi, .string md] 27))
          have RY : Hid ((w5.alloc (.cells #[.int .i64 mk, .string mp, .string mt, .int .i64 mm, .int .i64 mi, .string md] 27)).heap[b6]? = _) := hide ((Below.heap_alloc _ _ _ (lt_of_block R5.out)).trans R5.out)
          clear z1 RA BA
          generalize (w5.alloc (.cells #[.int .i64 mk, .string mp, .string mt, .int .i64 mm, .int .i64 mi, .string md] 27)) = wB at *
          generalize w5.heap.size = b7 at *
          obtain ⟨x0, x1, x2, x3, x4, x5⟩ := six_heap (m := ⟨mk, mp, mt, mm, mi, md⟩) RZ.out
          obtain ⟨y0, y1, y2, y3, y4, y5⟩ := six_heap (m := ⟨mk, mp, mt, mm, mi, md⟩) RY.out
          simp only at x0 x1 x2 x3 x4 x5 y0 y1 y2 y3 y4 y5
          clear B5 R5 RZ RY
          go_wp2_with fail
          go_roundg gk
          case measure => omega
          case rel => exact ⟨j + 1, by have := JG.out; omega, by go_num, BZ⟩
    · obtain ⟨n, hn⟩ : ∃ n, n = es.length := ⟨_, rfl⟩
      rw [← hn] at H1 hlI hx ⊢
      clear hE hS hS' hl hc hcap hn
      by_cases hx0 : x < 0
      · have hx1 : ¬ 0 ≤ x := by omega
        clear hx
        go_enter Try.func3, Try.ntmps3
        go_wp2_with (first
          | (go_at_call 4; refine H1.out.mono ?_; rintro e w1 ⟨rfl, hw⟩; have B1 := hide hw; clear hw H1)
          | (go_at_call 5; refine (HA _).out.mono ?_; rintro e w7 ⟨rfl, hw⟩; have B7 := hide (B1.out.trans (hw.mono B1.out.size)); clear hw HA))
        go_ret
        exact ⟨rfl, B7.out⟩
      · have hx2 : (n : Int) < x := by omega
        have hx1 : 0 ≤ x := by omega
        clear hx
        go_enter Try.func3, Try.ntmps3
        go_wp2_with (first
          | (go_at_call 4; refine H1.out.mono ?_; rintro e w1 ⟨rfl, hw⟩; have B1 := hide hw; clear hw H1)
          | (go_at_call 5; refine (HA _).out.mono ?_; rintro e w7 ⟨rfl, hw⟩; have B7 := hide (B1.out.trans (hw.mono B1.out.size)); clear hw HA))
        go_ret
        exact ⟨rfl, B7.out⟩
  · have H1 := hide (check_v a cap es c W hE hcap hS' hc)
    generalize es.length = n at *
    clear hE hS hS' hl hc hcap
    go_enter Try.func3, Try.ntmps3
    go_wp2_with (first
      | (go_at_call 4; refine H1.out.mono ?_; rintro e w1 ⟨rfl, hw⟩; have B1 := hide hw; clear hw H1)
      | (go_at_call 5; refine (HA _).out.mono ?_; rintro e w7 ⟨rfl, hw⟩; have B7 := hide (B1.out.trans (hw.mono B1.out.size)); clear hw HA))
    go_ret
    exact ⟨rfl, B7.out⟩
end Go.Proofs.Ytlfffpgokemjbab.U
