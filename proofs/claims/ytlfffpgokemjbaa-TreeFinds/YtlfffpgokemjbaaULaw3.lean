/- The law on Find, Size, Same: walk. -/
import Derived.Test.YtlfffpgokemjbaaULaw1
namespace Go.Proofs.Ytlfffpgokemjbaa.U
set_option maxRecDepth 100000
open Go Go.RowKit
set_option linter.unusedVariables false
theorem fnd_drop {p : ByteArray} {es : List En} {k : Nat} {m : En} (hm : es[k]? = some m) : fnd p (es.drop k) = if m.path = p then some m else fnd p (es.drop (k + 1)) := by
  have hk := List.getElem?_eq_some_iff.1 hm
  rw [List.drop_eq_getElem_cons hk.1, hk.2]
  unfold fnd
  by_cases h : m.path = p <;> simp [h]
theorem heap_old6 {w : World} {o : Obj} {b : Nat} {p : Obj} (h : w.heap[b]? = some p) : (w.alloc o).heap[b]? = some p := by
  rw [Below.heap_alloc _ _ _ (lt_of_block h)]; exact h
theorem six_heap {V : World} {g : Nat} {t : TypeId} {m : En} (h : V.heap[g]? = some (.cells m.cells t (0, 0))) : V.cell? ⟨g, 0, none⟩ = some (.int .i64 m.kind) ∧ V.cell? ⟨g, 1, none⟩ = some (.string m.path) ∧ V.cell? ⟨g, 2, none⟩ = some (.string m.target) ∧ V.cell? ⟨g, 3, none⟩ = some (.int .i64 m.mode) ∧ V.cell? ⟨g, 4, none⟩ = some (.int .i64 m.time) ∧ V.cell? ⟨g, 5, none⟩ = some (.string m.data) :=
  ⟨cells_of h 0, cells_of h 1, cells_of h 2, cells_of h 3, cells_of h 4, cells_of h 5⟩
set_option maxHeartbeats 8000000 in
theorem treeFinds_walk (a b : Option Addr) (ca cb : Nat) (es fs : List En) (p : ByteArray) (W : World) (hE : EntsIn W a es) (hF : EntsIn W b fs) : Calls Try.prog 5 #[.slice a es.length ca, .slice b fs.length cb, .string p] W (Yes W) := by
  have HA := fun V => hide (alive_c V)
  by_cases hl : 1000 < es.length ∨ 1000 < fs.length
  · have hlI : (1000 : Int) < (es.length : Int) ∨ (¬ (1000 : Int) < (es.length : Int) ∧ (1000 : Int) < (fs.length : Int)) := by omega
    clear hl hE hF
    generalize es.length = n at *
    generalize fs.length = k at *
    rcases hlI with h1 | ⟨h1, h2⟩
    · go_enter Try.func5, Try.ntmps5
      go_wp2_with (go_at_call 10; refine (HA _).out.mono ?_; rintro e w2 ⟨rfl, hw⟩; have B1 := hide hw; clear hw HA)
      go_ret
      exact ⟨rfl, B1.out⟩
    · go_enter Try.func5, Try.ntmps5
      go_wp2_with (go_at_call 10; refine (HA _).out.mono ?_; rintro e w2 ⟨rfl, hw⟩; have B1 := hide hw; clear hw HA)
      go_ret
      exact ⟨rfl, B1.out⟩
  · obtain ⟨t, ht⟩ := bool_of (es = fs)
    have H1 := hide (find_c a ca es p W hE (by omega))
    have H2 := hide (fun V (hV : Below W.heap.size W V) => size_c a ca es V (hE.stay hV) (by omega))
    have H3 := hide (fun V (hV : Below W.heap.size W V) => rsize_c a ca es V (hE.stay hV) (by omega))
    have H4 := hide (fun V (hV : Below W.heap.size W V) => same_v a b ca cb es fs t V (hE.stay hV) (hF.stay hV) (by omega) ht)
    have H5 := hide (fun V (hV : Below W.heap.size W V) => rsame_v a b ca cb es fs t V (hE.stay hV) (hF.stay hV) (by omega) ht)
    have H6 := hide (fun V (hV : Below W.heap.size W V) => same_v a a ca ca es es true V (hE.stay hV) (hE.stay hV) (by omega) ⟨fun _ => rfl, fun _ => rfl⟩)
    have HE := hide hE
    have h1 : ¬ (1000 : Int) < (es.length : Int) := by omega
    have h2 : ¬ (1000 : Int) < (fs.length : Int) := by omega
    unfold FnOk at H1
    obtain ⟨X, hX⟩ : ∃ X, X = (fnd p es).getD E0 := ⟨_, rfl⟩
    obtain ⟨I, hI⟩ : ∃ I, I = (fnd p es).isSome := ⟨_, rfl⟩
    rw [← hX, ← hI] at H1
    have HX := hide hX
    have HI := hide hI
    obtain ⟨n, hn⟩ : ∃ n, n = es.length := ⟨_, rfl⟩
    have HN := hide hn
    obtain ⟨k, hk⟩ : ∃ k, k = fs.length := ⟨_, rfl⟩
    rw [← hn] at H1 H2 H3 H4 H5 H6 h1 ⊢
    rw [← hk] at H4 H5 h2 ⊢
    have HL := hide (show n ≤ 1000 by omega)
    clear hl hE hF ht hX hI hn hk
    obtain ⟨xk, xp, xt, xm, xi, xd⟩ := X
    unfold En.cells at H1
    simp only at H1
    go_enter Try.func5, Try.ntmps5
    go_upto_region 4 with (go_at_call 16; refine H1.out.mono ?_; rintro e w1 ⟨rfl, hw⟩; have B1 := hide hw; clear hw H1)
    clear h1 h2
    have R7 := hide (heap_new w1 (.cells #[.int .i64 xk, .string xp, .string xt, .int .i64 xm, .int .i64 xi, .string xd] 30))
    have L7 := hide (show w1.heap.size < (w1.alloc (.cells #[.int .i64 xk, .string xp, .string xt, .int .i64 xm, .int .i64 xi, .string xd] 30)).heap.size by simp)
    have B3 := hide (B1.out.alloc B1.out.size (.cells #[.int .i64 xk, .string xp, .string xt, .int .i64 xm, .int .i64 xi, .string xd] 30))
    have G7 := hide B1.out.size
    generalize w1.alloc (.cells #[.int .i64 xk, .string xp, .string xt, .int .i64 xm, .int .i64 xi, .string xd] 30) = W3 at *
    generalize w1.heap.size = b7 at *
    clear B1
    have R9 := hide (heap_new W3 (.cells #[.int .i64 0, .string ⟨#[]⟩, .string ⟨#[]⟩, .int .i64 0, .int .i64 0, .string ⟨#[]⟩] 30))
    have R74 := hide (heap_old6 (o := .cells #[.int .i64 0, .string ⟨#[]⟩, .string ⟨#[]⟩, .int .i64 0, .int .i64 0, .string ⟨#[]⟩] 30) R7.out)
    have B4 := hide (B3.out.alloc B3.out.size (.cells #[.int .i64 0, .string ⟨#[]⟩, .string ⟨#[]⟩, .int .i64 0, .int .i64 0, .string ⟨#[]⟩] 30))
    have hnI : (n : Int) ≤ 1000 := by have := HL.out; omega
    go_wp2_with fail
    go_loopg [10, 11] n (fun gk u10 u11 wx => ∃ (j : Int) (q : En) (f : Bool), u11 = .int .i64 j ∧ j + 1 = (gk : Int) ∧ u10 = .bool f ∧ gk ≤ n ∧ Hid (f = (fnd p (es.drop gk)).isSome ∧ q = (fnd p (es.drop gk)).getD E0) ∧ Hid (wx.heap[b7]? = some (.cells #[.int .i64 xk, .string xp, .string xt, .int .i64 xm, .int .i64 xi, .string xd] 30 (0, 0))) ∧ Hid (wx.heap[W3.heap.size]? = some (.cells q.cells 30 (0, 0))) ∧ Hid (Below W.heap.size W wx))
    case atStart => exact ⟨(n : Int) - 1, E0, false, by go_num, by omega, rfl, Nat.le_refl _, hide (by rw [HN.out, List.drop_length]; exact ⟨rfl, rfl⟩), R74, R9, B4⟩
    case round =>
      obtain ⟨j, q, f, rfl, hj, rfl, hgn, HQ, S7, S9, BX⟩ := hrel
      cases gk with
      | zero =>
        obtain rfl : j = -1 := by omega
        obtain rfl : f = I := by rw [HQ.out.1, HI.out]; rfl
        obtain rfl : q = ⟨xk, xp, xt, xm, xi, xd⟩ := by rw [HQ.out.2, HX.out]; rfl
        have TX := hide (fun V (hV : Below wr.heap.size wr V) => six_heap (m := ⟨xk, xp, xt, xm, xi, xd⟩) ((hV.block _ (lt_of_block S7.out)).trans S7.out))
        have TY := hide (fun V (hV : Below wr.heap.size wr V) => six_heap ((hV.block _ (lt_of_block S9.out)).trans S9.out))
        clear HQ HI HX
        go_wp2_with (first
          | (go_at_call 10; refine (HA _).out.mono ?_; rintro e w2 ⟨rfl, hw⟩; obtain ⟨x0, x1, x2, x3, x4, x5⟩ := TX.out _ hw; obtain ⟨y0, y1, y2, y3, y4, y5⟩ := TY.out _ hw; have C1 := hide (BX.out.trans (hw.mono BX.out.size)); clear hw HA)
          | (go_at_call 17; refine (H2.out _ C1.out).mono ?_; rintro e w3 ⟨rfl, hw⟩; have C2 := hide (C1.out.trans (hw.mono C1.out.size)); clear hw H2)
          | (go_at_call 18; refine (H3.out _ C2.out).mono ?_; rintro e w4 ⟨rfl, hw⟩; obtain rfl := hw.symm; clear H3)
          | (go_at_call 19; refine (H4.out _ C2.out).mono ?_; rintro e w5 ⟨rfl, hw⟩; have C3 := hide (C2.out.trans (hw.mono C2.out.size)); clear hw H4)
          | (go_at_call 14; refine (H5.out _ C3.out).mono ?_; rintro e w6 ⟨rfl, hw⟩; have C4 := hide (C3.out.trans (hw.mono C3.out.size)); clear hw H5)
          | (go_at_call 19; refine (H6.out _ C4.out).mono ?_; rintro e w7 ⟨rfl, hw⟩; have C5 := hide (C4.out.trans (hw.mono C4.out.size)); clear hw H6))
        go_ret
        exact ⟨rfl, C5.out⟩
      | succ k =>
        obtain rfl : j = (k : Int) := by omega
        have hi : k < es.length := by have := HN.out; omega
        obtain ⟨m, hm⟩ : ∃ m, es[k]? = some m := ⟨_, List.getElem?_eq_getElem hi⟩
        obtain ⟨b1, o1, hb, rfl, a0, a1, a2, a3, a4, a5⟩ := (HE.out.stay BX.out).six hm
        have HD := hide (fnd_drop (p := p) hm)
        have hkn : (k : Int) < (n : Int) := by omega
        clear hi hm hb hj
        have KN := hide hgn
        clear hgn
        by_cases he : m.path.toList = p.toList
        · have heb : (m.path.toList == p.toList) = true := by rw [he]; exact beq_self_eq_true _
          have HPE := hide (bytes_ext he)
          obtain ⟨c0, c1, c2, c3, c4, c5⟩ := six_heap S9.out
          have fr := free_of S9.out
          have f0 := fr 0
          have f1 := fr 1
          have f2 := fr 2
          have f3 := fr 3
          have f4 := fr 4
          have f5 := fr 5
          clear fr he
          obtain ⟨r1, r2⟩ := set6 (t := 30) (old := q.cells.toList) (by have := S9.out; simpa using this) rfl (.int .i64 m.kind) (.string m.path) (.string m.target) (.int .i64 m.mode) (.int .i64 m.time) (.string m.data)
          have R1 := hide r1
          have R2 := hide r2
          clear r1 r2
          go_wp2_with fail
          go_roundg k
          case measure => omega
          case rel => exact ⟨(k : Int) - 1, m, true, by go_num, by omega, rfl, by have := KN.out; omega, hide (by rw [HD.out, if_pos HPE.out]; exact ⟨rfl, rfl⟩), hide ((R2.out.block _ (lt_of_block S7.out) (by have := L7.out; omega)).trans S7.out), R1, hide (BX.out.trans (R2.out.below BX.out.size (fun i hi hig => by have := G7.out; have := L7.out; omega)))⟩
        · have heb : (m.path.toList == p.toList) = false := by simpa using he
          have HPE : Hid (¬ m.path = p) := hide (fun e => he (by rw [e]))
          clear he
          go_wp2_with fail
          go_roundg k
          case measure => omega
          case rel => exact ⟨(k : Int) - 1, q, f, by go_num, by omega, rfl, by have := KN.out; omega, hide (by rw [HD.out, if_neg HPE.out]; exact HQ.out), S7, S9, BX⟩
end Go.Proofs.Ytlfffpgokemjbaa.U
