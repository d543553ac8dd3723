/- The law on what Sort and Project keep: walk. -/
import Derived.Test.YtlfffpgokemjbaaULaw2
import Derived.Test.YtlfffpgokemjbaaVSto
import Derived.Laws.OwnMore
namespace Go.Proofs.Ytlfffpgokemjbaa.U
set_option maxRecDepth 100000
open Go Go.RowKit
set_option linter.unusedVariables false
theorem run_append_none0 {P : Program} {w : World} (base : Nat) (t ty e : TypeId) (i : TypeInfo) (size : Nat) (ht : P.underlying t = some (.slice e)) (hi : P.info? e = some i)
    (v : Value) (n c : Nat) (xs : List Value) (hown : w.ownsRow base e size v n xs) :
    (Builtin.append_ #[t, t] ty #[v, .slice none 0 c]).run P w = .ok v w := by
  rcases hown.2 with ⟨rfl, rfl⟩ | ⟨g, cap, cur, rfl, _, _, hnc, _⟩
  · simp [Builtin.append_, run_underlying ht, sizeOf, typeInfo, hi, Builtin.lenOf, Builtin.firstCells]
  · simp [Builtin.append_, run_underlying ht, sizeOf, typeInfo, hi, Builtin.lenOf, Builtin.firstCells, hnc, storeCells]
theorem wpList_append_none0 {P : Program} {w : World} {ops : Array Oper} {rest : List Oper} {o : Oper} {a : Act} {Q : Exit → Act → World → Prop} (hgd : o.guard = none) (s x : Operand) (t : TypeId)
    (ho : o.op = .call { callee := .builtin .append, args := #[s, x], argTypes := #[t, t] })
    (base : Nat) (e : TypeId) (i : TypeInfo) (size : Nat) (ht : P.underlying t = some (.slice e)) (hi : P.info? e = some i)
    (v : Value) (n c : Nat) (xs : List Value) (hs : a.eval s = v) (hown : w.ownsRow base e size v n xs) (hx : a.eval x = .slice none 0 c)
    (h : wpList P ops Q rest (a.put o.dst v) w) : wpList P ops Q (o :: rest) a w := by
  refine wpList_plain hgd fun K hK => ?_
  have hrun := run_append_none0 (P := P) (w := w) base t o.type e i size ht hi v n c xs hown
  unfold Oper.wp
  simp [execOp, ho, resolve, invoke, builtin, hs, hx, hrun, Result.andThen]
  exact hK _ _ h
theorem addr_at (b off i : Nat) : ((⟨b, off, none⟩ : Addr).add i) = ⟨b, off + i, none⟩ := by unfold Addr.add; split <;> simp_all
/-- Entries appended, all those of a slice. -/
theorem wpList_appE {ops : Array Oper} {rest : List Oper} {o : Oper} {act : Act} {Q : Exit → Act → World → Prop} (w : World) (hgd : o.guard = none) (s x : Operand)
    (ho : o.op = .call { callee := .builtin .append, args := #[s, x], argTypes := #[22, 22] })
    (base : Nat) (v : Value) (X : List En) (hs : act.eval s = v) (hown : OwnsEn w base v X) (es : List En) (a : Option Addr) (n cap : Nat) (hx : act.eval x = .slice a n cap) (hn : es.length = n)
    (hin : EntsIn w a es) (hb : X.length + es.length ≤ 1000000000) (hbase : base ≤ w.heap.size)
    (h : ∀ v' w', OwnsEn w' base v' (X ++ es) → w.grownBy w' v.ownBlock → wpList Try.prog ops Q rest (act.put o.dst v') w') : wpList Try.prog ops Q (o :: rest) act w := by
  subst hn
  obtain ⟨i, hi, hz, hsz, hby⟩ := info_parts infoE
  have main : ∀ ad : Addr, a = some ad → (∀ j u, (enL es)[j]? = some u → w.cell? (ad.add j) = some u) → wpList Try.prog ops Q (o :: rest) act w := by
    rintro ad rfl hc
    refine wpList_append_own w hgd s x 22 ho base 30 i _ 6 _ Try.underlying22 hi hz hsz hby rfl (by decide) v X.length (enL X) hs hown ad es.length cap (enL es) hx (enL_len es) hc (fun u hu => enL_one hu) (by unfold maxLen; omega) (by omega) hbase ?_
    intro v' w' h1 h2 _
    refine h v' w' ?_ h2
    unfold OwnsEn
    rw [enL_app, List.length_append]
    exact h1
  rcases hin with h0 | ⟨b, off, hbw, rfl, hc⟩
  · have he : es = [] := List.eq_nil_of_length_eq_zero h0
    subst he
    cases a with
    | none =>
      refine wpList_append_none0 hgd s x 22 ho base 30 i 6 Try.underlying22 hi v X.length cap (enL X) hs hown hx ?_
      exact h v w (by rw [List.append_nil]; exact hown) (World.grownBy.refl _ _)
    | some ad => exact main ad rfl (fun j u hu => by simp [enL] at hu)
  · refine main _ rfl (fun j u hu => ?_)
    have hj : j < es.length * 6 := by rw [← enL_len]; exact (List.getElem?_eq_some_iff.1 hu).1
    have e : j = j / 6 * 6 + j % 6 := by omega
    rw [e, enL_at es _ _ (by omega), Option.bind_eq_some_iff] at hu
    obtain ⟨m, hm, hu⟩ := hu
    have := hc _ _ hm _ _ hu
    rw [addr_at, e]
    rw [Nat.add_assoc] at this
    exact this
/-- An entry of Kind 9. -/
def E9 : En := ⟨9, .empty, .empty, 0, 0, .empty⟩
/-- On the way: what is below w2 is as it was; two rows of n, and a row of the two slices. -/
def Kp (w2 : World) (g1 g2 b n : Nat) (wx : World) : Prop := Below w2.heap.size w2 wx ∧ (∃ L, L.length = n ∧ Er g1 L wx) ∧ (∃ L, L.length = n ∧ Er g2 L wx) ∧ wx.heap[b]? = some (.cells #[.slice (some ⟨g1, 0, none⟩) n n, .slice (some ⟨g2, 0, none⟩) n n] 22 (0, 0))
theorem Kp.row {w2 wx : World} {g1 g2 b n g : Nat} (h : Kp w2 g1 g2 b n wx) (hg : g = g1 ∨ g = g2) : ∃ L, L.length = n ∧ Er g L wx := by
  rcases hg with rfl | rfl
  · exact h.2.1
  · exact h.2.2.1
theorem Kp.put {w2 wx : World} {g1 g2 b n g j : Nat} (h : Kp w2 g1 g2 b n wx) (hg : g = g1 ∨ g = g2) (hj : j < n) (h1 : w2.heap.size ≤ g1) (h2 : g1 < g2) (h3 : g2 < b) : Kp w2 g1 g2 b n (wx.setCells g (j * 6) E9.cells.toList) := by
  obtain ⟨L, hL, hE⟩ := h.row hg
  obtain ⟨r, k⟩ := hE.put (i := j) (by omega) E9
  have old : ∀ x L, L.length = n → x ≠ g → Er x L wx → Er x L (wx.setCells g (j * 6) E9.cells.toList) := fun x L _ hx he => he.kept k hx
  refine ⟨h.1.trans (k.below h.1.size (fun i hi hig => by omega)), ?_, ?_, k.heap h.2.2.2 (by omega)⟩
  · by_cases e : g1 = g
    · subst e; exact ⟨_, by simp [hL], r⟩
    · obtain ⟨L1, l1, e1⟩ := h.2.1
      exact ⟨L1, l1, old _ _ l1 e e1⟩
  · by_cases e : g2 = g
    · subst e; exact ⟨_, by simp [hL], r⟩
    · obtain ⟨L1, l1, e1⟩ := h.2.2.1
      exact ⟨L1, l1, old _ _ l1 e e1⟩
set_option maxHeartbeats 8000000 in
theorem treeKeeps_walk (a : Option Addr) (cap : Nat) (es : List En) (f : Int) (W : World) (hE : EntsIn W a es) (hT : Tm es) : Calls Try.prog 8 #[.slice a es.length cap, .int .i64 f] W (Yes W) := by
  have HA := fun V => hide (alive_c V)
  by_cases hl : 200 < es.length
  · have hlI : (200 : Int) < (es.length : Int) := by omega
    clear hl hE hT
    generalize es.length = n at *
    go_enter Try.func8, Try.ntmps8
    go_wp2_with (go_at_call 10; refine (HA _).out.mono ?_; rintro e w2 ⟨rfl, hw⟩; have B1 := hide hw; clear hw HA)
    go_ret
    exact ⟨rfl, B1.out⟩
  · have hlI : ¬ (200 : Int) < (es.length : Int) := by omega
    have H1 := hide (fun V (hV : Below W.heap.size W V) => sort_c a cap es V (hE.stay hV) (by omega))
    have H2 := hide (fun V (hV : Below W.heap.size W V) => project_c a cap f es V (hE.stay hV) (by omega) hT)
    have H3 := hide (fun V y cy (hV : Below W.heap.size W V) (hy : EntsIn V y es) => rsame_v a y cap cy es es true V (hE.stay hV) hy (by omega) ⟨fun _ => rfl, fun _ => rfl⟩)
    have HE := hide hE
    unfold PjOk at H2
    unfold CpOk at H1 H2
    have HL1 := hide (srt_length es)
    have HL2 : Hid ((prj f es).length = es.length) := hide (by simp [prj])
    rw [HL1.out] at H1
    rw [HL2.out] at H2
    obtain ⟨n, hn⟩ : ∃ n, n = es.length := ⟨_, rfl⟩
    have HN := hide hn
    rw [← hn] at H1 H2 H3 HL1 HL2 hlI ⊢
    have HLn := hide (show n ≤ 200 by omega)
    clear hE hT hl hn
    go_enter Try.func8, Try.ntmps8
    go_upto_region 4 with (refine wpList_appE _ rfl (.tmp 13) (.tmp 14) rfl W.heap.size _ [] (by rfl) ⟨rfl, .inr ⟨W.heap.size, 0, #[], rfl, Nat.le_refl _, heap_new _ _, Nat.le_refl _, by unfold maxLen; omega, rfl, rfl⟩⟩ es a n cap (by rfl) HN.out.symm (HE.out.stay ((Below.refl _ W).alloc (Nat.le_refl _) _)) (by have := HLn.out; have := HN.out; simp; omega) (by simp) ?_; intro v2 w2 h2 k2; have O2 := hide h2; have B2 := hide (growE (w0 := W) (base := W.heap.size) (v := .slice (some ⟨W.heap.size, 0, none⟩) 0 0) (xs := []) ⟨rfl, .inr ⟨W.heap.size, 0, #[], rfl, Nat.le_refl _, heap_new _ _, Nat.le_refl _, by unfold maxLen; omega, rfl, rfl⟩⟩ (Nat.le_refl _) ((Below.refl _ W).alloc (Nat.le_refl _) _) k2); clear h2 k2)
    obtain ⟨a5, c5, hv5, hi5⟩ := own_slice O2.out (show ([] ++ es : List En).length = n by rw [List.nil_append]; exact HN.out.symm)
    subst hv5
    have I5 : Hid (EntsIn w2 a5 es) := hide hi5
    clear hi5 O2
    go_wp2_with (first
      | (go_at_call 13; refine (H1.out _ B2.out).mono ?_; rintro e w3 ⟨g1, hg1, rfl, hr1, hw⟩; have G1 := hide hg1; have R1 := hide hr1; have B3 := hide hw; clear hw hr1 hg1 H1)
      | (go_at_call 22; refine (H2.out _ (B2.out.trans (B3.out.mono B2.out.size))).mono ?_; rintro e w4 ⟨g2, hg2, rfl, hr2, hw⟩; have G2 := hide hg2; have R2 := hide hr2; have B4 := hide hw; clear hw hr2 hg2 H2))
    have G3 : Hid (g1 < g2) := hide (by have := R1.out.lt; have := G2.out; omega)
    have G4 : Hid (g2 < w4.heap.size) := hide R2.out.lt
    have K0 : Hid (Kp w2 g1 g2 w4.heap.size n (w4.alloc (.cells #[.slice (some ⟨g1, 0, none⟩) n n, .slice (some ⟨g2, 0, none⟩) n n] 22))) := hide (by
      have b3 := B3.out
      have s3 := b3.size
      refine ⟨(b3.trans (B4.out.mono b3.size)).alloc (by have := B4.out.size; omega) _, ⟨_, HL1.out, ?_⟩, ⟨_, HL2.out, ?_⟩, heap_new _ _⟩
      · have e := R1.out.stay B4.out
        unfold Er at *
        rw [Below.heap_alloc _ _ _ (lt_of_block e)]; exact e
      · have e := R2.out
        unfold Er at *
        rw [Below.heap_alloc _ _ _ (lt_of_block e)]; exact e)
    have GZ := hide G1.out
    clear R1 R2 B3 B4 G1 G2 HL1 HL2
    generalize (w4.alloc (.cells #[.slice (some ⟨g1, 0, none⟩) n n, .slice (some ⟨g2, 0, none⟩) n n] 22)) = W5 at *
    generalize w4.heap.size = b at *
    go_loopg [23] 2 (fun gk u wx => ∃ i : Nat, i + gk = 2 ∧ u = .int .i64 (i : Int) ∧ Hid (Kp w2 g1 g2 b n wx))
    case atStart => exact ⟨0, rfl, rfl, K0⟩
    case round =>
      clear K0
      obtain ⟨i, hig, rfl, KX⟩ := hrel
      cases gk with
      | zero =>
        obtain rfl : i = 2 := by omega
        have I6 := hide (I5.out.stay KX.out.1)
        have B6 := hide (B2.out.trans (KX.out.1.mono B2.out.size))
        go_wp2_with (first
          | (go_at_call 10; refine (HA _).out.mono ?_; rintro e w7 ⟨rfl, hw⟩; have I7 := hide (I6.out.stay hw); have B7 := hide (B6.out.trans (hw.mono B6.out.size)); clear hw HA)
          | (go_at_call 14; refine (H3.out _ _ _ B7.out I7.out).mono ?_; rintro e w8 ⟨rfl, hw⟩; have B8 := hide (B7.out.trans (hw.mono B7.out.size)); clear hw H3))
        go_ret
        exact ⟨by simp, B8.out⟩
      | succ gO =>
        obtain ⟨g, hg, hc⟩ : ∃ g, (g = g1 ∨ g = g2) ∧ wr.cell? ⟨b, i, none⟩ = some (.slice (some ⟨g, 0, none⟩) n n) := by
          have hb := KX.out.2.2.2
          by_cases e : i = 0
          · subst e; exact ⟨g1, .inl rfl, by rw [cells_of hb]; rfl⟩
          · obtain rfl : i = 1 := by omega
            exact ⟨g2, .inr rfl, by rw [cells_of hb]; rfl⟩
        have HG := hide hg
        have hi2 : (i : Int) < 2 := by omega
        have IG := hide hig
        clear hg hig
        have hnI : (n : Int) ≤ 200 := by have := HLn.out; omega
        go_wp2_with fail
        clear hc
        go_loopg [29] n (fun g3 u wx => ∃ j : Nat, j + g3 = n ∧ u = .int .i64 (j : Int) ∧ Hid (Kp w2 g1 g2 b n wx))
        case atStart => exact ⟨0, by omega, rfl, KX⟩
        case round =>
          clear KX
          obtain ⟨j, hjg, rfl, KY⟩ := hrel
          cases gk with
          | zero =>
            obtain rfl : j = n := by omega
            go_wp2_with fail
            go_roundg gO
            case measure => omega
            case rel => exact ⟨i + 1, by have := IG.out; omega, by go_num, KY⟩
          | succ g3 =>
            have hjn : (j : Int) < (n : Int) := by omega
            obtain ⟨L, hL, hER⟩ := KY.out.row HG.out
            obtain ⟨m, hm⟩ : ∃ m, L[j]? = some m := ⟨_, List.getElem?_eq_getElem (by omega)⟩
            have hp := hide (KY.out.put HG.out (j := j) (by omega) GZ.out G3.out G4.out)
            have x0 : wr.cell? ⟨g, j * 6, none⟩ = some (.int .i64 m.kind) := hER.cell hm (j := 0) rfl
            have x1 : wr.cell? ⟨g, j * 6 + 1, none⟩ = some (.string m.path) := hER.cell hm (j := 1) rfl
            have x2 : wr.cell? ⟨g, j * 6 + 2, none⟩ = some (.string m.target) := hER.cell hm (j := 2) rfl
            have x3 : wr.cell? ⟨g, j * 6 + 3, none⟩ = some (.int .i64 m.mode) := hER.cell hm (j := 3) rfl
            have x4 : wr.cell? ⟨g, j * 6 + 4, none⟩ = some (.int .i64 m.time) := hER.cell hm (j := 4) rfl
            have x5 : wr.cell? ⟨g, j * 6 + 5, none⟩ = some (.string m.data) := hER.cell hm (j := 5) rfl
            have f0 := hER.free (j * 6)
            have f1 := hER.free (j * 6 + 1)
            have f2 := hER.free (j * 6 + 2)
            have f3 := hER.free (j * 6 + 3)
            have f4 := hER.free (j * 6 + 4)
            have f5 := hER.free (j * 6 + 5)
            have JG := hide hjg
            clear hER hm hL hjg KY
            go_wp2_with fail
            go_roundg g3
            case measure => omega
            case rel => exact ⟨j + 1, by have := JG.out; omega, by go_num, hide hp.out⟩
end Go.Proofs.Ytlfffpgokemjbaa.U
