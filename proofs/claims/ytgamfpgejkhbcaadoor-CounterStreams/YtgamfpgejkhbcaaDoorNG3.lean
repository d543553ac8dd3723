/- How an argument Case is opened. The law that what was sealed is opened as it was: walked. -/
import Derived.Test.YtgamfpgejkhbcaaDoorHOpen
import Derived.Lib.SmallJoins
import Derived.Test.YtgamfpgejkhbcaaDoorNLaw1
namespace Go.Proofs.YtgamfpgejkhbcaaDoor.S
set_option maxRecDepth 100000
open Go.ChangeShapes Go.WideShapes Go.ChangeAt Go.RowKit Go.Joins

theorem cellsI : Tryd.prog.cellsOf 3 = 1 := by kernel_rfl
theorem cellsB : Tryd.prog.cellsOf 22 = 1 := by kernel_rfl
theorem cellsCase : Tryd.prog.cellsOf 29 = 4 := by kernel_rfl
/-- A Case that came in: its strength, and three rows of bytes. -/
structure CaseIn (W : World) (cs : Array Value) (s : Int) (a1 : Option Addr) (c1 : Nat) (y1 : List Nat) (a2 : Option Addr) (c2 : Nat) (y2 : List Nat) (a3 : Option Addr) (c3 : Nat) (y3 : List Nat) : Prop where
  is : cs = #[.int .i64 s, .slice a1 y1.length c1, .slice a2 y2.length c2, .slice a3 y3.length c3]
  b1 : BIn W a1 c1 y1
  b2 : BIn W a2 c2 y2
  b3 : BIn W a3 c3 y3
  l1 : y1.length ≤ 140737488351232
  l2 : y2.length ≤ 140737488351232
  l3 : y3.length ≤ 140737488351232
theorem open_case {H : Type} {enc : TypeId × Value → H} {W : World} {ts : List TypeId} {ds : List (DataW H)} {j : Nat} {cs : Array Value} {d : DataW H} {p : List MemPlace} (hsz : (DataW.weightsEach Tryd.prog ts ds).all (· ≤ reachBytes) = true) (ht : ts[j]? = some 29) (hd : ds[j]? = some d)
    (h : DataW.Trod enc Tryd.prog W 0 (fun _ => true) true 29 (.agg cs) d p) : ∃ s a1 c1 y1 a2 c2 y2 a3 c3 y3, CaseIn W cs s a1 c1 y1 a2 c2 y2 a3 c3 y3 := by
  obtain ⟨fuel, hf⟩ := h
  obtain ⟨x0, x1, x2, x3, n, hx, hl, h0, h1, h2, h3⟩ := trod_struct4 Tryd.underlying29 hf
  simp only [Value.cells] at hl h0 h1 h2 h3
  rw [cellsCase] at hl
  simp only [cellsI, cellsB] at h0 h1 h2 h3
  have hd1 : d = .agg [x0.1, x1.1, x2.1, x3.1] := congrArg Prod.fst hx
  subst hd1
  have hin : (DataW.weightsEach Tryd.prog [3, 22, 22, 22] [x0.1, x1.1, x2.1, x3.1]).all (· ≤ reachBytes) = true := by
    refine List.all_eq_true.2 fun z hz => List.all_eq_true.1 hsz z (DataW.weights_mem_each ht hd z ?_)
    simp only [DataW.weights, Tryd.underlying29]
    exact hz
  have len : ∀ (k : Nat) (x : DataW H × List MemPlace) (ys : List Nat), ([3, 22, 22, 22] : List TypeId)[k]? = some 22 → ([x0.1, x1.1, x2.1, x3.1] : List (DataW H))[k]? = some x.1 → ((x.1 = .nil ∧ ys.length = 0) ∨ ∃ els sp, x.1 = .slice els sp ∧ els.length = ys.length) → ys.length ≤ 140737488351232 := by
    intro k x ys hk1 hk2 hx
    rcases hx with ⟨_, h0⟩ | ⟨els, sp, hx, hl⟩
    · omega
    · rw [hx] at hk2
      have := sized_slice hin hk1 hk2 Tryd.underlying22
      rw [bytesU8] at this
      simp only [reachBytes] at this
      omega
  obtain ⟨v, e0, _, _⟩ := DataW.trod_int Tryd.underlying3 h0
  obtain ⟨a1, c1, y1, e1, b1, z1⟩ := trod_bys h1
  obtain ⟨a2, c2, y2, e2, b2, z2⟩ := trod_bys h2
  obtain ⟨a3, c3, y3, e3, b3, z3⟩ := trod_bys h3
  obtain ⟨l⟩ := cs
  match l, hl with
  | [k0, k1, k2, k3], _ =>
    simp at e0 e1 e2 e3
    subst e0 e1 e2 e3
    exact ⟨v, a1, c1, y1, a2, c2, y2, a3, c3, y3, ⟨rfl, b1, b2, b3, len 1 x1 y1 rfl rfl z1, len 2 x2 y2 rfl rfl z2, len 3 x3 y3 rfl rfl z3⟩⟩
end Go.Proofs.YtgamfpgejkhbcaaDoor.S
namespace Go.Proofs.YtgamfpgejkhbcaaDoor.S
set_option maxRecDepth 100000
open Go Go.RowKit

theorem sealL_long (ks salt : List Nat) (n : Nat) (data : List Nat) : 10 ≤ (sealL ks salt n data).length := by
  simp only [sealL, List.length_append, tagL_length]
  omega
theorem own_at {w : World} {base : Nat} {v : Value} {zs : List Nat} (h : OwnsB w base v zs) (h1 : 1 ≤ zs.length) : ∃ b o c, v = .slice (some ⟨b, o, none⟩) zs.length c ∧ b < w.heap.size ∧ Bs w b o zs ∧ zs.length ≤ c ∧ c ≤ 9223372036854775807 := by
  obtain ⟨x, c, rfl, hc, hm, hn⟩ := h.form
  rcases OwnsB.text h with h0 | ⟨b, o, rfl, hb, hs⟩
  · omega
  · exact ⟨b, o, c, rfl, hb, hs, hc, by unfold maxLen at hm; omega⟩

set_option maxHeartbeats 4000000 in
theorem counterBack_walk (cs : Array Value) (s : Int) (a1 : Option Addr) (c1 : Nat) (y1 : List Nat) (a2 : Option Addr) (c2 : Nat) (y2 : List Nat) (a3 : Option Addr) (c3 : Nat) (y3 : List Nat) (w : World) (h : CaseIn w cs s a1 c1 y1 a2 c2 y2 a3 c3 y3) (hT : K.Tab w) :
    Calls Tryd.prog 6 #[.agg cs] w (Yes w) := by
  obtain ⟨rfl, t1, t2, t3, l1, l2, l3⟩ := h
  have BA := hide ((Below.refl _ w).alloc (Nat.le_refl _) (.cells #[.int .i64 s, .slice a1 y1.length c1, .slice a2 y2.length c2, .slice a3 y3.length c3] 29) : Below w.heap.size w _)
  have R0 := heap_new w (.cells #[.int .i64 s, .slice a1 y1.length c1, .slice a2 y2.length c2, .slice a3 y3.length c3] 29)
  have q0 := cells_of R0 0
  have q1 := cells_of R0 1
  have q2 := cells_of R0 2
  have q3 := cells_of R0 3
  simp only [List.getElem?_toArray, List.getElem?_cons_zero, List.getElem?_cons_succ] at q0 q1 q2 q3
  have hT0 := hT.stay BA.out
  have T1 := t1.below BA.out
  have T2 := t2.below BA.out
  have T3 := t3.below BA.out
  have hlt : w.heap.size < (w.alloc (.cells #[.int .i64 s, .slice a1 y1.length c1, .slice a2 y2.length c2, .slice a3 y3.length c3] 29)).heap.size := by simp
  by_cases hk : kbs s = 0 ∨ 2 * y2.length ≠ kbs s
  · have HS := hide (seal_no s a1 a2 a3 y1.length c1 y2.length c2 y3.length c3 (w.alloc (.cells #[.int .i64 s, .slice a1 y1.length c1, .slice a2 y2.length c2, .slice a3 y3.length c3] 29)) hk)
    have HT0 := hide hT0
    generalize y1.length = N1 at *
    generalize y2.length = N2 at *
    generalize y3.length = N3 at *
    clear hk hT hT0 R0 T1 T2 T3 t1 t2 t3 l1 l2 l3
    go_enter Tryd.func6, Tryd.ntmps6
    go_wp2_with (first
      | (go_at_call 13; refine HS.out.mono ?_; rintro e w1 ⟨rfl, hw⟩; obtain rfl := hw.symm; clear HS)
      | (go_at_call 10; refine (alive_c _ HT0.out).mono ?_; rintro e w3 ⟨rfl, b3⟩; have B3 := hide (BA.out.trans (b3.mono BA.out.size)); clear b3))
    go_ret
    exact ⟨rfl, B3.out⟩
  · obtain ⟨n, hn, hkn⟩ : ∃ n, (n = 4 ∨ n = 6 ∨ n = 8) ∧ kbs s = 4 * n := by
      rcases kbs_cases s with h0 | h0
      · exact absurd (.inl h0) hk
      · exact h0
    have hsl : y2.length = 2 * n := by omega
    have HS := hide (seal_c s n a1 a2 a3 c1 c2 c3 y1 y2 y3 (w.alloc (.cells #[.int .i64 s, .slice a1 y1.length c1, .slice a2 y2.length c2, .slice a3 y3.length c3] 29)) hn hkn T1.by_ T1.text T1.cap_ T1.most (by omega) T2.by_ T2.text T2.nil hsl T3.by_ T3.text (by omega) hT0)
    have HO : Hid (∀ (W : World) b o c, Below (w.alloc (.cells #[.int .i64 s, .slice a1 y1.length c1, .slice a2 y2.length c2, .slice a3 y3.length c3] 29)).heap.size (w.alloc (.cells #[.int .i64 s, .slice a1 y1.length c1, .slice a2 y2.length c2, .slice a3 y3.length c3] 29)) W → b < W.heap.size → Bs W b o (sealL (kyL y1 y2 (4 * n)) y2 n y3) → (sealL (kyL y1 y2 (4 * n)) y2 n y3).length ≤ c → c ≤ 9223372036854775807 → Calls Tryd.prog 15 #[.int .i64 s, .slice a1 y1.length c1, .slice (some ⟨b, o, none⟩) (sealL (kyL y1 y2 (4 * n)) y2 n y3).length c] W (SealOk y3 W)) := fun W b o c hbw hb hbs hc hcm =>
      back_c s n a1 c1 b o c y1 y2 y3 W hn hkn T1.by_ (T1.text.below hbw) T1.cap_ T1.most (by omega) T2.by_ T3.by_ hb hbs hsl (by omega) hc hcm (hT0.stay hbw)
    have HZ := hide (sealL_long (kyL y1 y2 (4 * n)) y2 n y3)
    have HT0 := hide hT0
    have HD := hide T3.text
    generalize sealL (kyL y1 y2 (4 * n)) y2 n y3 = zs at HS HO HZ
    obtain ⟨N3, hN3⟩ : ∃ N, N = y3.length := ⟨_, rfl⟩
    have HN3 := hide hN3
    rw [← hN3] at HS HO HT0 HD BA hlt q0 q1 q2 q3 ⊢
    generalize y1.length = N1 at *
    generalize y2.length = N2 at *
    clear hk hT hT0 R0 T1 T2 T3 t1 t2 t3 l1 l2 l3 hn hkn hsl hN3
    go_enter Tryd.func6, Tryd.ntmps6
    go_upto_region 2 with (go_at_call 13; refine HS.out.mono ?_; rintro e w1 ⟨v, rfl, o1, b1⟩; have O1 := hide o1; have B1 := hide b1; clear b1 o1)
    obtain ⟨b, o, c, rfl, hb, hbs, hc, hcm⟩ := own_at O1.out (Nat.le_trans (by decide) HZ.out)
    have HO1 := hide (HO.out w1 b o c B1.out hb hbs hc hcm)
    have d0 := (B1.out.cell (p := ⟨w.heap.size, 0, none⟩) hlt).trans q0
    have d1 := (B1.out.cell (p := ⟨w.heap.size, 1, none⟩) hlt).trans q1
    have d3 := (B1.out.cell (p := ⟨w.heap.size, 3, none⟩) hlt).trans q3
    have hlt1 : w.heap.size < w1.heap.size := Nat.lt_of_lt_of_le hlt B1.out.size
    have HD1 := hide (HD.out.below B1.out)
    have HT1 := hide (HT0.out.stay B1.out)
    have BB1 := hide (BA.out.trans (B1.out.mono BA.out.size))
    generalize zs.length = Z at HO1 ⊢
    clear HS HO O1 hbs HZ q0 q1 q2 q3 HD HT0 BA B1 hc hcm hb
    go_upto_region 5 with (go_at_call 15; refine HO1.out.mono ?_; rintro e w2 ⟨v2, rfl, o2, b2⟩; have O2 := hide o2; have B2 := hide b2; clear b2 o2)
    obtain ⟨x2, k2, rfl, _, _, _⟩ := (show OwnsB w2 w1.heap.size v2 y3 from O2.out).form
    have T2 := OwnsB.text O2.out
    have HV1 := fun W (k : Below w2.heap.size w2 W) => hide (conv_at (cap := k2) (T2.below k))
    have HV2 := fun W (k : Below w2.heap.size w2 W) => hide (conv_at (cap := c3) ((HD1.out.below B2.out).below k))
    have HD3 := fun W (k : Below w2.heap.size w2 W) => hide ((k.cell (p := ⟨w.heap.size, 3, none⟩) (Nat.lt_of_lt_of_le hlt1 B2.out.size)).trans ((B2.out.cell (p := ⟨w.heap.size, 3, none⟩) hlt1).trans d3))
    rw [← HN3.out] at HV1 HV2 ⊢
    generalize strOfNums (y3.map fun (x : Nat) => (x : Int)) = S at HV1 HV2
    have HT2 := hide (HT1.out.stay B2.out)
    have BB2 := hide (BB1.out.trans (B2.out.mono BB1.out.size))
    clear HO1 O2 T2 HD1 HT1 HN3 B2 BB1 d0 d1 d3
    go_wp2_with (go_at_call 10; refine (alive_c _ HT2.out).mono ?_; rintro e w3 ⟨rfl, b3⟩; have B3 := hide (BB2.out.trans (b3.mono BB2.out.size)); have hv1 := (HV1 w3 b3).out; have hv2 := (HV2 w3 b3).out; have d3 := (HD3 w3 b3).out; clear b3)
    go_ret
    exact ⟨rfl, B3.out⟩
end Go.Proofs.YtgamfpgejkhbcaaDoor.S
