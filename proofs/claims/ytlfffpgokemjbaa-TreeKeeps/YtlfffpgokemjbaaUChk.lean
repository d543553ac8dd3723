/- The reference's Check: contract. -/
import Derived.Test.YtlfffpgokemjbaaURgt
import Derived.Test.YtlfffpgokemjbaaUSrt
namespace Go.Proofs.Ytlfffpgokemjbaa.U
set_option maxRecDepth 100000
open Go Go.RowKit
set_option linter.unusedVariables false
/-- The Path is the one of the entry ahead; is below it; lies below an entry that is no Folder. -/
def Twice (es : List En) (i : Nat) (m : En) : Prop := ∃ p, 0 < i ∧ es[i - 1]? = some p ∧ p.path.toList = m.path.toList
def Falls (es : List En) (i : Nat) (m : En) : Prop := ∃ p, 0 < i ∧ es[i - 1]? = some p ∧ gtB p.path m.path = true
def Under (es : List En) (i : Nat) (m : En) : Prop := ∃ k p, k < i ∧ es[k]? = some p ∧ p.path.data.toList ∈ E.prs m.path.data.toList m.path.data.toList.length ∧ p.kind ≠ 2
def Clean1 (es : List En) (i : Nat) (m : En) : Prop := Right m ∧ m.data.size ≤ 1048576 ∧ ¬ Twice es i m ∧ ¬ Falls es i m ∧ ¬ Under es i m
/-- What is told of the first entry with which something is amiss. -/
def Tells (es : List En) (i : Nat) (m : En) (c : Int) : Prop := (¬ Right m ∧ c = 160) ∨ (Right m ∧ 1048576 < m.data.size ∧ c = 162) ∨ (Right m ∧ m.data.size ≤ 1048576 ∧ Twice es i m ∧ c = 161) ∨ (Right m ∧ m.data.size ≤ 1048576 ∧ ¬ Twice es i m ∧ (Falls es i m ∨ Under es i m) ∧ c = 160)
def Chk (es : List En) (c : Int) : Prop := (1000 < es.length ∧ c = 162) ∨ (es.length ≤ 1000 ∧ ((c = 0 ∧ ∀ (i : Nat) m, es[i]? = some m → Clean1 es i m) ∨ ∃ (i : Nat) (m : En), es[i]? = some m ∧ (∀ (j : Nat) p, j < i → es[j]? = some p → Clean1 es j p) ∧ Tells es i m c))
def CkOk (es : List En) (w : World) (e : Ending) (w' : World) : Prop := ∃ c : Int, e = .returned (.int .i64 c) ∧ Chk es c ∧ Below w.heap.size w w'
theorem Tells.not {es : List En} {i : Nat} {m : En} {c : Int} (h : Tells es i m c) : ¬ Clean1 es i m ∧ c ≠ 0 := by
  rcases h with h | h | h | h
  · exact ⟨fun q => h.1 q.1, by omega⟩
  · exact ⟨fun q => by have := q.2.1; omega, by omega⟩
  · exact ⟨fun q => q.2.2.1 h.2.2.1, by omega⟩
  · exact ⟨fun q => by rcases h.2.2.2.1 with g | g; exact q.2.2.2.1 g; exact q.2.2.2.2 g, by omega⟩
theorem Tells.one {es : List En} {i : Nat} {m : En} {c d : Int} (h : Tells es i m c) (k : Tells es i m d) : c = d := by
  rcases h with h | h | h | h <;> rcases k with k | k | k | k <;> first
    | omega
    | (exfalso; first | exact h.1 k.1 | exact k.1 h.1 | exact h.2.2.1 k.2.2.1 | exact k.2.2.1 h.2.2.1 | (have := h.2.1; have := k.2.1; omega))
/-- Check has one answer. -/
theorem Chk.one {es : List En} {c d : Int} (h : Chk es c) (k : Chk es d) : c = d := by
  rcases h with ⟨h0, h⟩ | ⟨h0, h⟩ <;> rcases k with ⟨k0, k⟩ | ⟨k0, k⟩
  · omega
  · omega
  · omega
  · rcases h with ⟨h, ha⟩ | ⟨i, m, hm, ha, ht⟩ <;> rcases k with ⟨k, ka⟩ | ⟨j, p, kp, ka, kt⟩
    · omega
    · exact absurd (ha j p kp) kt.not.1
    · exact absurd (ka i m hm) ht.not.1
    · rcases Nat.lt_trichotomy i j with q | q | q
      · exact absurd (ka i m q hm) ht.not.1
      · subst q
        obtain rfl : m = p := Option.some.inj (hm.symm.trans kp)
        exact ht.one kt
      · exact absurd (ha j p q kp) kt.not.1
theorem six_at {W : World} {b off : Nat} {es : List En} (h : EntsIn W (some ⟨b, off, none⟩) es) {i : Nat} {m : En} (hm : es[i]? = some m) {V : World} (hV : Below W.heap.size W V) :
    V.cell? ⟨b, off + i * 6, none⟩ = some (.int .i64 m.kind) ∧ V.cell? ⟨b, off + i * 6 + 1, none⟩ = some (.string m.path) ∧ V.cell? ⟨b, off + i * 6 + 2, none⟩ = some (.string m.target) ∧ V.cell? ⟨b, off + i * 6 + 3, none⟩ = some (.int .i64 m.mode) ∧ V.cell? ⟨b, off + i * 6 + 4, none⟩ = some (.int .i64 m.time) ∧ V.cell? ⟨b, off + i * 6 + 5, none⟩ = some (.string m.data) := by
  obtain ⟨b', o', hb, e, h⟩ := (h.stay hV).six hm
  simp only [Option.some.injEq, Addr.mk.injEq] at e
  obtain ⟨rfl, rfl, _⟩ := e
  exact h
theorem rright_yes (m : En) (w : World) (hp : m.path.size ≤ 2000000) (hr : Right m) : Calls Try.prog 26 #[.agg m.cells] w fun e w' => e = .returned (.bool true) ∧ Below w.heap.size w w' :=
  (rright_c m w hp).mono fun e w' ⟨b, he, hb, hw⟩ => by rw [hb.2 hr] at he; exact ⟨he, hw⟩
theorem rright_no (m : En) (w : World) (hp : m.path.size ≤ 2000000) (hr : ¬ Right m) : Calls Try.prog 26 #[.agg m.cells] w fun e w' => e = .returned (.bool false) ∧ Below w.heap.size w w' :=
  (rright_c m w hp).mono fun e w' ⟨b, he, hb, hw⟩ => by
    cases b
    · exact ⟨he, hw⟩
    · exact absurd (hb.1 rfl) hr
set_option maxHeartbeats 8000000 in
theorem rcheck_c (a : Option Addr) (cap : Nat) (es : List En) (w : World) (h : EntsIn w a es) (hp : ∀ m ∈ es, m.path.size ≤ 2000000) (hd : ∀ m ∈ es, m.data.size ≤ 1000000000000) : Calls Try.prog 12 #[.slice a es.length cap] w (CkOk es w) := by
  by_cases hl : 1000 < es.length
  · have Q : Hid (CkOk es w (.returned (.int .i64 162)) w) := hide ⟨162, rfl, .inl ⟨hl, rfl⟩, Below.refl _ _⟩
    have hlI : (1000 : Int) < (es.length : Int) := by omega
    clear hl
    generalize es.length = n at *
    go_enter Try.func12, Try.ntmps12
    go_wp2_with fail
    go_ret
    exact Q.out
  · have HA : Hid (∀ (i : Nat) (m : En) (c : Int) w', es[i]? = some m → (∀ (j : Nat) p, j < i → es[j]? = some p → Clean1 es j p) → Tells es i m c → Below w.heap.size w w' → CkOk es w (.returned (.int .i64 c)) w') := hide fun i m c w' q1 q2 q3 q4 => ⟨c, rfl, .inr ⟨by omega, .inr ⟨i, m, q1, q2, q3⟩⟩, q4⟩
    have HZ : Hid (∀ w', (∀ (i : Nat) m, es[i]? = some m → Clean1 es i m) → Below w.heap.size w w' → CkOk es w (.returned (.int .i64 0)) w') := hide fun w' q1 q2 => ⟨0, rfl, .inr ⟨by omega, .inl ⟨rfl, q1⟩⟩, q2⟩
    obtain ⟨n, hnn⟩ : ∃ n, n = es.length := ⟨_, rfl⟩
    have HN := hide hnn
    rw [← hnn] at hl ⊢
    have HE := hide h
    have HPS := hide hp
    have HDS := hide hd
    have hlI : (n : Int) ≤ 1000 := by omega
    clear h hl hnn hp hd
    go_enter Try.func12, Try.ntmps12
    go_wp2_with fail
    go_loopg [3] n (fun gk u3 wx => ∃ i : Nat, i + gk = n ∧ u3 = .int .i64 (i : Int) ∧ Hid (∀ (j : Nat) p, j < i → es[j]? = some p → Clean1 es j p) ∧ Hid (Below w.heap.size w wx))
    case atStart => exact ⟨0, by omega, rfl, hide fun j p q => by omega, hide (Below.refl _ _)⟩
    case round =>
      obtain ⟨i, hig, rfl, CL, BX⟩ := hrel
      cases gk with
      | zero =>
        obtain rfl : i = n := by omega
        have hge : ¬ (i : Int) < (i : Int) := by omega
        have Q := hide (HZ.out wr (fun j p hj => CL.out j p (by have := (List.getElem?_eq_some_iff.1 hj).1; have := HN.out; omega) hj) BX.out)
        clear HA HZ
        go_wp2_with fail
        go_ret
        exact Q.out
      | succ g1 =>
        have hlt : (i : Int) < (n : Int) := by omega
        have hi : i < es.length := by have := HN.out; omega
        obtain ⟨m, hm⟩ : ∃ m, es[i]? = some m := ⟨_, List.getElem?_eq_getElem hi⟩
        have hmm := List.mem_of_getElem? hm
        obtain ⟨b1, o1, hb, rfl, a0, a1, a2, a3, a4, a5⟩ := (HE.out.stay BX.out).six hm
        have TM := fun V (hV : Below w.heap.size w V) => hide (six_at HE.out hm hV)
        have HAI := hide (fun c w' (q3 : Tells es i m c) q4 => HA.out i m c w' hm CL.out q3 q4)
        have IG := hide (And.intro hig (And.intro hi hm))
        clear hig hi hm
        by_cases hr : Right m
        · have HR := fun W => hide (rright_yes m W (HPS.out m hmm) hr)
          have HRR := hide hr
          have hdI : (m.data.size : Int) ≤ 1000000000000 := by have := HDS.out m hmm; omega
          clear hr hmm
          by_cases hs : (1048576 : Int) < (m.data.size : Int)
          · have Q := hide (fun w' => HAI.out 162 w' (.inr (.inl ⟨HRR.out, by omega, rfl⟩)))
            clear HAI HA HZ
            go_wp2_with (go_at_call 26; refine (HR _).out.mono ?_; rintro e w1 ⟨rfl, hw⟩; have B1 := hide (BX.out.trans (hw.mono BX.out.size)); obtain ⟨x0, x1, x2, x3, x4, x5⟩ := (TM _ B1.out).out; clear hw HR)
            go_ret
            exact Q.out _ B1.out
          · have HSZ := hide (show m.data.size ≤ 1048576 by omega)
            rcases Nat.eq_zero_or_pos i with h0 | h0
            · have NU : Hid (¬ Twice es i m ∧ ¬ Falls es i m) := hide ⟨fun q => by obtain ⟨p, q0, _⟩ := q; omega, fun q => by obtain ⟨p, q0, _⟩ := q; omega⟩
              have hi0 : ¬ (0 : Int) < (i : Int) := by omega
              have hd0 : decide (0 < i) = false := decide_eq_false (by omega)
              have hd1 : decide ((0 : Int) < (i : Int)) = false := decide_eq_false hi0
              clear h0
              go_upto_region 10 with (go_at_call 26; refine (HR _).out.mono ?_; rintro e w1 ⟨rfl, hw⟩; have B1 := hide (BX.out.trans (hw.mono BX.out.size)); obtain ⟨x0, x1, x2, x3, x4, x5⟩ := (TM _ B1.out).out; clear hw HR)
              clear hs x0 x1 x2 x3 x4 x5
              refine wp_region_below (by kernel_rfl) (by kernel_rfl) ?_
              repeat (refine WQ.step (fun K hK => ?_); go_simp; first | (refine hK _ ?_; clear hK K))
              refine WQ.nil ?_
              rintro w3 ⟨⟨_, hw⟩, rfl⟩
              have B3 := hide (B1.out.trans (hw.mono B1.out.size))
              clear hw
              go_upto_region 12 with fail
              refine wp_region_below (by kernel_rfl) (by kernel_rfl) ?_
              repeat (refine WQ.step (fun K hK => ?_); go_simp; first | (refine hK _ ?_; clear hK K))
              refine WQ.nil ?_
              rintro w4 ⟨⟨_, hw⟩, rfl⟩
              have B4 := hide (B3.out.trans (hw.mono B3.out.size))
              clear hw
              clear hd0 hd1 hi0
              have HPR := fun W => hide (E.rparents_c m.path (by have := HPS.out m (List.mem_of_getElem? IG.out.2.2); omega) W)
              obtain ⟨x0, x1, x2, x3, x4, x5⟩ := (TM _ B4.out).out
              go_upto_region 15 with (go_at_call 27; refine (HPR _).out.mono ?_; rintro e w5 ⟨lv, rfl, ho, hw⟩; have OL := hide ho; have B5 := hide (B4.out.trans (hw.mono B4.out.size)); clear hw ho HPR)
              clear x0 x1 x2 x3 x4 x5
              have UD : Hid ((∀ (k : Nat) p, k < i → es[k]? = some p → p.path.data.toList ∈ E.prs m.path.data.toList m.path.data.toList.length → p.kind = 2) → Clean1 es i m) := hide fun g => ⟨HRR.out, HSZ.out, NU.out.1, NU.out.2, fun u => by obtain ⟨k, p, hk, hkp, hin, hne⟩ := u; exact hne (g k p hk hkp hin)⟩
              have UB : Hid (∀ (k : Nat) p w', k < i → es[k]? = some p → p.path.data.toList ∈ E.prs m.path.data.toList m.path.data.toList.length → p.kind ≠ 2 → Below w.heap.size w w' → CkOk es w (.returned (.int .i64 160)) w') := hide fun k p w' hk hkp hin hne hb => HAI.out 160 w' (.inr (.inr (.inr ⟨HRR.out, HSZ.out, NU.out.1, .inr ⟨k, p, hk, hkp, hin, hne⟩, rfl⟩))) hb
              clear HAI
              generalize E.prs m.path.data.toList m.path.data.toList.length = L at *
              obtain ⟨la, lc, hv, hlc, hlm, hln⟩ := OL.out.form
              subst hv
              have LC := hide OL.out.cells
              obtain ⟨N, hN2⟩ : ∃ N, N = L.length := ⟨_, rfl⟩
              have HNL := hide hN2
              have hNI : (N : Int) ≤ 9223372036854775807 := by have := hlm; unfold maxLen at this; omega
              rw [← hN2]
              clear hN2 hlc hlm hln OL
              go_wp2_with fail
              go_loopg [5, 6] i (fun gk u5 u6 wx => ∃ k : Nat, k + gk = i ∧ u5 = .int .i64 (k : Int) ∧ Hid (∀ (k' : Nat) p, k' < k → es[k']? = some p → p.path.data.toList ∈ L → p.kind = 2) ∧ Hid (Below w5.heap.size w5 wx))
              case atStart => exact ⟨0, by omega, rfl, hide fun k p q => by omega, hide (Below.refl _ _)⟩
              case round =>
                obtain ⟨k, hkg, rfl, KD, KX⟩ := hrel
                cases gk with
                | zero =>
                  obtain rfl : k = i := by omega
                  have hge : ¬ (k : Int) < (k : Int) := by omega
                  have C1 := hide (UD.out KD.out)
                  clear UD UB
                  go_wp2_with fail
                  go_roundg g1
                  case measure => omega
                  case rel => exact ⟨k + 1, by have := IG.out.1; omega, by go_num, hide fun j p hj hjp => by
                      rcases Nat.lt_or_ge j k with g | g
                      · exact CL.out j p g hjp
                      · obtain rfl : j = k := by omega
                        obtain rfl : m = p := Option.some.inj (IG.out.2.2.symm.trans hjp)
                        exact C1.out, hide (B5.out.trans (KX.out.mono B5.out.size))⟩
                | succ g2 =>
                  have hki : (k : Int) < (i : Int) := by omega
                  have hkn : (k : Int) < (n : Int) := by omega
                  have hkN : k < i := by omega
                  obtain ⟨pk, hpk⟩ : ∃ p, es[k]? = some p := ⟨_, List.getElem?_eq_getElem (by have := IG.out.2.1; omega)⟩
                  have TK := fun V (hV : Below w.heap.size w V) => hide (six_at HE.out hpk hV)
                  have KG := hide (And.intro hkg (And.intro hpk hkN))
                  have UK := hide (fun w' (hin : pk.path.data.toList ∈ L) (hne : pk.kind ≠ 2) hb => UB.out k pk w' hkN hpk hin hne hb)
                  obtain ⟨W6, hW6⟩ : ∃ W, W = wr := ⟨wr, rfl⟩
                  subst hW6
                  clear hkg hpk hkN
                  go_wp2_with fail
                  go_loopg [6] N (fun gk u6 wx => ∃ j : Nat, j + gk = N ∧ u6 = .int .i64 (j : Int) ∧ Hid (∀ (j' : Nat) q, j' < j → L[j']? = some q → q = pk.path.data.toList → pk.kind = 2) ∧ Hid (Below W6.heap.size W6 wx))
                  case atStart => exact ⟨0, by omega, rfl, hide fun j q g => by omega, hide (Below.refl _ _)⟩
                  case round =>
                    obtain ⟨j, hjg, rfl, JD, JX⟩ := hrel
                    cases gk with
                    | zero =>
                      obtain rfl : j = N := by omega
                      have hge : ¬ (j : Int) < (j : Int) := by omega
                      go_wp2_with fail
                      go_roundg g2
                      case measure => omega
                      case rel => exact ⟨k + 1, by have := KG.out.1; omega, by go_num, hide fun k' p hk' hkp hin => by
                          rcases Nat.lt_or_ge k' k with g | g
                          · exact KD.out k' p g hkp hin
                          · obtain rfl : k' = k := by omega
                            obtain rfl : pk = p := Option.some.inj (KG.out.2.1.symm.trans hkp)
                            obtain ⟨j', hj', e⟩ := List.getElem_of_mem hin
                            exact JD.out j' _ (by have := HNL.out; omega) (by rw [List.getElem?_eq_getElem hj', e]) rfl, hide (KX.out.trans (JX.out.mono KX.out.size))⟩
                    | succ g3 =>
                      have hjN : (j : Int) < (N : Int) := by omega
                      have hjl : j < L.length := by have := HNL.out; omega
                      obtain ⟨q, hq⟩ : ∃ q, L[j]? = some q := ⟨_, List.getElem?_eq_getElem hjl⟩
                      have BK := hide ((B5.out.trans (KX.out.mono B5.out.size)).trans (JX.out.mono (Nat.le_trans B5.out.size KX.out.size)))
                      obtain ⟨z0, z1, z2, z3, z4, z5⟩ := (TK _ BK.out).out
                      rcases LC.out with hl0 | ⟨gb, hla, hgb0, hgb, hcell⟩
                      · exact absurd hl0 (by omega)
                      · subst hla
                        have c1 : wr.cell? ⟨gb, j, none⟩ = some (.string (E.tx q)) := by
                          have e := hcell j hjl
                          rw [show L[j] = q from Option.some.inj ((List.getElem?_eq_getElem hjl).symm.trans hq)] at e
                          exact ((KX.out.trans (JX.out.mono KX.out.size)).cell (p := ⟨gb, j, none⟩) hgb).trans e
                        have hinq : q ∈ L := List.mem_of_getElem? hq
                        have JG := hide (And.intro hjg hq)
                        have k0 := by_cell z0
                        have k1 := by_cell z1
                        have k2 := by_cell c1
                        clear z0 z1 z2 z3 z4 z5 c1 hcell hgb hgb0 hjl hjg hq
                        by_cases heq : q = pk.path.data.toList
                        · have heb : ((E.tx q).toList == pk.path.toList) = true := by rw [heq, tx_list]; exact beq_self_eq_true _
                          by_cases hk2 : pk.kind = 2
                          · have hkb : (pk.kind != 2) = false := by simp [hk2]
                            have JD2 := hide (show ∀ (j' : Nat) q', j' < j + 1 → L[j']? = some q' → q' = pk.path.data.toList → pk.kind = 2 from fun _ _ _ _ _ => hk2)
                            clear hinq heq hk2
                            go_upto_region 21 with fail
                            refine wp_region_below (by kernel_rfl) (by kernel_rfl) ?_
                            repeat (refine WQ.step (fun K hK => ?_); go_simp; first | (refine hK _ ?_; clear hK K))
                            refine WQ.nil ?_
                            rintro w7 ⟨⟨_, hw⟩, rfl⟩
                            have J7 := hide (JX.out.trans (hw.mono JX.out.size))
                            have B7 := hide (BK.out.trans (hw.mono BK.out.size))
                            clear hw k0 k1 k2
                            go_wp2_with fail
                            go_roundg g3
                            case measure => omega
                            case rel => exact ⟨j + 1, by have := JG.out.1; omega, by go_num, JD2, J7⟩
                          · have hkb : (pk.kind != 2) = true := by simpa using hk2
                            have Q := hide (fun w' => UK.out w' (heq ▸ hinq) hk2)
                            clear hinq heq hk2 UD UB UK
                            go_upto_region 21 with fail
                            refine wp_region_below (by kernel_rfl) (by kernel_rfl) ?_
                            repeat (refine WQ.step (fun K hK => ?_); go_simp; first | (refine hK _ ?_; clear hK K))
                            refine WQ.nil ?_
                            rintro w7 ⟨⟨_, hw⟩, rfl⟩
                            have J7 := hide (JX.out.trans (hw.mono JX.out.size))
                            have B7 := hide (BK.out.trans (hw.mono BK.out.size))
                            clear hw k0 k1 k2
                            go_wp2_with fail
                            go_ret
                            exact Q.out _ B7.out
                        · have heb : ((E.tx q).toList == pk.path.toList) = false := by
                            rw [ByteArray.toList_eq, ByteArray.toList_eq]
                            simpa [E.tx] using heq
                          have JD2 := hide (show ∀ (j' : Nat) q', j' < j + 1 → L[j']? = some q' → q' = pk.path.data.toList → pk.kind = 2 from fun j' q' hj hq' e => by
                            rcases Nat.lt_or_ge j' j with g | g
                            · exact JD.out j' q' g hq' e
                            · obtain rfl : j' = j := by omega
                              obtain rfl : q = q' := Option.some.inj (JG.out.2.symm.trans hq')
                              exact absurd e heq)
                          clear hinq heq
                          go_upto_region 21 with fail
                          refine wp_region_below (by kernel_rfl) (by kernel_rfl) ?_
                          repeat (refine WQ.step (fun K hK => ?_); go_simp; first | (refine hK _ ?_; clear hK K))
                          refine WQ.nil ?_
                          rintro w7 ⟨⟨_, hw⟩, rfl⟩
                          have J7 := hide (JX.out.trans (hw.mono JX.out.size))
                          have B7 := hide (BK.out.trans (hw.mono BK.out.size))
                          clear hw k0 k1 k2
                          go_wp2_with fail
                          go_roundg g3
                          case measure => omega
                          case rel => exact ⟨j + 1, by have := JG.out.1; omega, by go_num, JD2, J7⟩
            · obtain ⟨q, hq⟩ : ∃ q : Nat, i = q + 1 := ⟨i - 1, by omega⟩
              obtain ⟨p, hpq⟩ : ∃ p, es[q]? = some p := ⟨_, List.getElem?_eq_getElem (by have := IG.out.2.1; omega)⟩
              have TP := fun V (hV : Below w.heap.size w V) => hide (six_at HE.out hpq hV)
              have PQ : Hid (es[i - 1]? = some p ∧ 0 < i) := hide ⟨by rw [hq]; exact hpq, h0⟩
              have hi0 : (0 : Int) < (i : Int) := by omega
              have hd0 : decide (0 < i) = true := decide_eq_true h0
              have hd1 : decide ((0 : Int) < (i : Int)) = true := decide_eq_true hi0
              have hiw : IntKind.i64.wrap ((i : Int) - 1) = (q : Int) := by rw [iw (by omega) (by omega)]; omega
              have hql : (q : Int) < (n : Int) := by omega
              have QI := hide hq
              clear h0 hq hpq
              by_cases he : p.path.toList = m.path.toList
              · have Q := hide (fun w' => HAI.out 161 w' (.inr (.inr (.inl ⟨HRR.out, HSZ.out, ⟨p, PQ.out.2, PQ.out.1, he⟩, rfl⟩))))
                have heb : (p.path.toList == m.path.toList) = true := by rw [he]; exact beq_self_eq_true _
                clear HAI HA HZ he
                go_upto_region 10 with (go_at_call 26; refine (HR _).out.mono ?_; rintro e w1 ⟨rfl, hw⟩; have B1 := hide (BX.out.trans (hw.mono BX.out.size)); obtain ⟨x0, x1, x2, x3, x4, x5⟩ := (TM _ B1.out).out; clear hw HR)
                obtain ⟨y0, y1, y2, y3, y4, y5⟩ := (TP _ B1.out).out
                have k1 := by_cell x1
                have l1 := by_cell y1
                clear hs x0 x1 x2 x3 x4 x5 y0 y1 y2 y3 y4 y5
                refine wp_region_below (by kernel_rfl) (by kernel_rfl) ?_
                repeat (refine WQ.step (fun K hK => ?_); go_simp; first | (refine hK _ ?_; clear hK K))
                refine WQ.nil ?_
                rintro w3 ⟨⟨_, hw⟩, rfl⟩
                have B3 := hide (B1.out.trans (hw.mono B1.out.size))
                clear hw
                go_wp2_with fail
                go_ret
                exact Q.out _ B3.out
              · have heb : (p.path.toList == m.path.toList) = false := by simpa using he
                have NT := hide he
                clear he
                go_upto_region 10 with (go_at_call 26; refine (HR _).out.mono ?_; rintro e w1 ⟨rfl, hw⟩; have B1 := hide (BX.out.trans (hw.mono BX.out.size)); obtain ⟨x0, x1, x2, x3, x4, x5⟩ := (TM _ B1.out).out; clear hw HR)
                obtain ⟨y0, y1, y2, y3, y4, y5⟩ := (TP _ B1.out).out
                have k1 := by_cell x1
                have l1 := by_cell y1
                clear hs x0 x1 x2 x3 x4 x5 y0 y1 y2 y3 y4 y5
                refine wp_region_below (by kernel_rfl) (by kernel_rfl) ?_
                repeat (refine WQ.step (fun K hK => ?_); go_simp; first | (refine hK _ ?_; clear hK K))
                refine WQ.nil ?_
                rintro w3 ⟨⟨_, hw⟩, rfl⟩
                have B3 := hide (B1.out.trans (hw.mono B1.out.size))
                clear hw heb k1 l1
                go_upto_region 12 with fail
                have hgt := gtr_c 9 p.path m.path
                have k1 := by_cell (TM _ B3.out).out.2.1
                have l1 := by_cell (TP _ B3.out).out.2.1
                refine wp_region_below (by kernel_rfl) (by kernel_rfl) ?_
                repeat (refine WQ.step (fun K hK => ?_); go_simp; first | (refine hK _ ?_; clear hK K))
                refine WQ.nil ?_
                rintro w4 ⟨⟨_, hw⟩, rfl⟩
                have B4 := hide (B3.out.trans (hw.mono B3.out.size))
                clear hw hgt k1 l1
                by_cases hg : gtB p.path m.path = true
                · have Q := hide (fun w' => HAI.out 160 w' (.inr (.inr (.inr ⟨HRR.out, HSZ.out, fun g => by obtain ⟨p2, g0, g1, g2⟩ := g; obtain rfl : p = p2 := Option.some.inj (PQ.out.1.symm.trans g1); exact NT.out g2, .inl ⟨p, PQ.out.2, PQ.out.1, hg⟩, rfl⟩))))
                  rw [hg]
                  clear hg HAI HA HZ
                  go_wp2_with fail
                  go_ret
                  exact Q.out _ B4.out
                · have NU : Hid (¬ Twice es i m ∧ ¬ Falls es i m) := hide ⟨fun g => by obtain ⟨p2, g0, g1, g2⟩ := g; obtain rfl : p = p2 := Option.some.inj (PQ.out.1.symm.trans g1); exact NT.out g2, fun g => by obtain ⟨p2, g0, g1, g2⟩ := g; obtain rfl : p = p2 := Option.some.inj (PQ.out.1.symm.trans g1); exact hg g2⟩
                  rw [Bool.not_eq_true] at hg
                  rw [hg]
                  clear hg hd0 hd1 hi0 hiw hql
                  have HPR := fun W => hide (E.rparents_c m.path (by have := HPS.out m (List.mem_of_getElem? IG.out.2.2); omega) W)
                  obtain ⟨x0, x1, x2, x3, x4, x5⟩ := (TM _ B4.out).out
                  go_upto_region 15 with (go_at_call 27; refine (HPR _).out.mono ?_; rintro e w5 ⟨lv, rfl, ho, hw⟩; have OL := hide ho; have B5 := hide (B4.out.trans (hw.mono B4.out.size)); clear hw ho HPR)
                  clear x0 x1 x2 x3 x4 x5
                  have UD : Hid ((∀ (k : Nat) p, k < i → es[k]? = some p → p.path.data.toList ∈ E.prs m.path.data.toList m.path.data.toList.length → p.kind = 2) → Clean1 es i m) := hide fun g => ⟨HRR.out, HSZ.out, NU.out.1, NU.out.2, fun u => by obtain ⟨k, p, hk, hkp, hin, hne⟩ := u; exact hne (g k p hk hkp hin)⟩
                  have UB : Hid (∀ (k : Nat) p w', k < i → es[k]? = some p → p.path.data.toList ∈ E.prs m.path.data.toList m.path.data.toList.length → p.kind ≠ 2 → Below w.heap.size w w' → CkOk es w (.returned (.int .i64 160)) w') := hide fun k p w' hk hkp hin hne hb => HAI.out 160 w' (.inr (.inr (.inr ⟨HRR.out, HSZ.out, NU.out.1, .inr ⟨k, p, hk, hkp, hin, hne⟩, rfl⟩))) hb
                  clear HAI
                  generalize E.prs m.path.data.toList m.path.data.toList.length = L at *
                  obtain ⟨la, lc, hv, hlc, hlm, hln⟩ := OL.out.form
                  subst hv
                  have LC := hide OL.out.cells
                  obtain ⟨N, hN2⟩ : ∃ N, N = L.length := ⟨_, rfl⟩
                  have HNL := hide hN2
                  have hNI : (N : Int) ≤ 9223372036854775807 := by have := hlm; unfold maxLen at this; omega
                  rw [← hN2]
                  clear hN2 hlc hlm hln OL
                  go_wp2_with fail
                  go_loopg [5, 6] i (fun gk u5 u6 wx => ∃ k : Nat, k + gk = i ∧ u5 = .int .i64 (k : Int) ∧ Hid (∀ (k' : Nat) p, k' < k → es[k']? = some p → p.path.data.toList ∈ L → p.kind = 2) ∧ Hid (Below w5.heap.size w5 wx))
                  case atStart => exact ⟨0, by omega, rfl, hide fun k p q => by omega, hide (Below.refl _ _)⟩
                  case round =>
                    obtain ⟨k, hkg, rfl, KD, KX⟩ := hrel
                    cases gk with
                    | zero =>
                      obtain rfl : k = i := by omega
                      have hge : ¬ (k : Int) < (k : Int) := by omega
                      have C1 := hide (UD.out KD.out)
                      clear UD UB
                      go_wp2_with fail
                      go_roundg g1
                      case measure => omega
                      case rel => exact ⟨k + 1, by have := IG.out.1; omega, by go_num, hide fun j p hj hjp => by
                          rcases Nat.lt_or_ge j k with g | g
                          · exact CL.out j p g hjp
                          · obtain rfl : j = k := by omega
                            obtain rfl : m = p := Option.some.inj (IG.out.2.2.symm.trans hjp)
                            exact C1.out, hide (B5.out.trans (KX.out.mono B5.out.size))⟩
                    | succ g2 =>
                      have hki : (k : Int) < (i : Int) := by omega
                      have hkn : (k : Int) < (n : Int) := by omega
                      have hkN : k < i := by omega
                      obtain ⟨pk, hpk⟩ : ∃ p, es[k]? = some p := ⟨_, List.getElem?_eq_getElem (by have := IG.out.2.1; omega)⟩
                      have TK := fun V (hV : Below w.heap.size w V) => hide (six_at HE.out hpk hV)
                      have KG := hide (And.intro hkg (And.intro hpk hkN))
                      have UK := hide (fun w' (hin : pk.path.data.toList ∈ L) (hne : pk.kind ≠ 2) hb => UB.out k pk w' hkN hpk hin hne hb)
                      obtain ⟨W6, hW6⟩ : ∃ W, W = wr := ⟨wr, rfl⟩
                      subst hW6
                      clear hkg hpk hkN
                      go_wp2_with fail
                      go_loopg [6] N (fun gk u6 wx => ∃ j : Nat, j + gk = N ∧ u6 = .int .i64 (j : Int) ∧ Hid (∀ (j' : Nat) q, j' < j → L[j']? = some q → q = pk.path.data.toList → pk.kind = 2) ∧ Hid (Below W6.heap.size W6 wx))
                      case atStart => exact ⟨0, by omega, rfl, hide fun j q g => by omega, hide (Below.refl _ _)⟩
                      case round =>
                        obtain ⟨j, hjg, rfl, JD, JX⟩ := hrel
                        cases gk with
                        | zero =>
                          obtain rfl : j = N := by omega
                          have hge : ¬ (j : Int) < (j : Int) := by omega
                          go_wp2_with fail
                          go_roundg g2
                          case measure => omega
                          case rel => exact ⟨k + 1, by have := KG.out.1; omega, by go_num, hide fun k' p hk' hkp hin => by
                              rcases Nat.lt_or_ge k' k with g | g
                              · exact KD.out k' p g hkp hin
                              · obtain rfl : k' = k := by omega
                                obtain rfl : pk = p := Option.some.inj (KG.out.2.1.symm.trans hkp)
                                obtain ⟨j', hj', e⟩ := List.getElem_of_mem hin
                                exact JD.out j' _ (by have := HNL.out; omega) (by rw [List.getElem?_eq_getElem hj', e]) rfl, hide (KX.out.trans (JX.out.mono KX.out.size))⟩
                        | succ g3 =>
                          have hjN : (j : Int) < (N : Int) := by omega
                          have hjl : j < L.length := by have := HNL.out; omega
                          obtain ⟨q, hq⟩ : ∃ q, L[j]? = some q := ⟨_, List.getElem?_eq_getElem hjl⟩
                          have BK := hide ((B5.out.trans (KX.out.mono B5.out.size)).trans (JX.out.mono (Nat.le_trans B5.out.size KX.out.size)))
                          obtain ⟨z0, z1, z2, z3, z4, z5⟩ := (TK _ BK.out).out
                          rcases LC.out with hl0 | ⟨gb, hla, hgb0, hgb, hcell⟩
                          · exact absurd hl0 (by omega)
                          · subst hla
                            have c1 : wr.cell? ⟨gb, j, none⟩ = some (.string (E.tx q)) := by
                              have e := hcell j hjl
                              rw [show L[j] = q from Option.some.inj ((List.getElem?_eq_getElem hjl).symm.trans hq)] at e
                              exact ((KX.out.trans (JX.out.mono KX.out.size)).cell (p := ⟨gb, j, none⟩) hgb).trans e
                            have hinq : q ∈ L := List.mem_of_getElem? hq
                            have JG := hide (And.intro hjg hq)
                            have k0 := by_cell z0
                            have k1 := by_cell z1
                            have k2 := by_cell c1
                            clear z0 z1 z2 z3 z4 z5 c1 hcell hgb hgb0 hjl hjg hq
                            by_cases heq : q = pk.path.data.toList
                            · have heb : ((E.tx q).toList == pk.path.toList) = true := by rw [heq, tx_list]; exact beq_self_eq_true _
                              by_cases hk2 : pk.kind = 2
                              · have hkb : (pk.kind != 2) = false := by simp [hk2]
                                have JD2 := hide (show ∀ (j' : Nat) q', j' < j + 1 → L[j']? = some q' → q' = pk.path.data.toList → pk.kind = 2 from fun _ _ _ _ _ => hk2)
                                clear hinq heq hk2
                                go_upto_region 21 with fail
                                refine wp_region_below (by kernel_rfl) (by kernel_rfl) ?_
                                repeat (refine WQ.step (fun K hK => ?_); go_simp; first | (refine hK _ ?_; clear hK K))
                                refine WQ.nil ?_
                                rintro w7 ⟨⟨_, hw⟩, rfl⟩
                                have J7 := hide (JX.out.trans (hw.mono JX.out.size))
                                have B7 := hide (BK.out.trans (hw.mono BK.out.size))
                                clear hw k0 k1 k2
                                go_wp2_with fail
                                go_roundg g3
                                case measure => omega
                                case rel => exact ⟨j + 1, by have := JG.out.1; omega, by go_num, JD2, J7⟩
                              · have hkb : (pk.kind != 2) = true := by simpa using hk2
                                have Q := hide (fun w' => UK.out w' (heq ▸ hinq) hk2)
                                clear hinq heq hk2 UD UB UK
                                go_upto_region 21 with fail
                                refine wp_region_below (by kernel_rfl) (by kernel_rfl) ?_
                                repeat (refine WQ.step (fun K hK => ?_); go_simp; first | (refine hK _ ?_; clear hK K))
                                refine WQ.nil ?_
                                rintro w7 ⟨⟨_, hw⟩, rfl⟩
                                have J7 := hide (JX.out.trans (hw.mono JX.out.size))
                                have B7 := hide (BK.out.trans (hw.mono BK.out.size))
                                clear hw k0 k1 k2
                                go_wp2_with fail
                                go_ret
                                exact Q.out _ B7.out
                            · have heb : ((E.tx q).toList == pk.path.toList) = false := by
                                rw [ByteArray.toList_eq, ByteArray.toList_eq]
                                simpa [E.tx] using heq
                              have JD2 := hide (show ∀ (j' : Nat) q', j' < j + 1 → L[j']? = some q' → q' = pk.path.data.toList → pk.kind = 2 from fun j' q' hj hq' e => by
                                rcases Nat.lt_or_ge j' j with g | g
                                · exact JD.out j' q' g hq' e
                                · obtain rfl : j' = j := by omega
                                  obtain rfl : q = q' := Option.some.inj (JG.out.2.symm.trans hq')
                                  exact absurd e heq)
                              clear hinq heq
                              go_upto_region 21 with fail
                              refine wp_region_below (by kernel_rfl) (by kernel_rfl) ?_
                              repeat (refine WQ.step (fun K hK => ?_); go_simp; first | (refine hK _ ?_; clear hK K))
                              refine WQ.nil ?_
                              rintro w7 ⟨⟨_, hw⟩, rfl⟩
                              have J7 := hide (JX.out.trans (hw.mono JX.out.size))
                              have B7 := hide (BK.out.trans (hw.mono BK.out.size))
                              clear hw k0 k1 k2
                              go_wp2_with fail
                              go_roundg g3
                              case measure => omega
                              case rel => exact ⟨j + 1, by have := JG.out.1; omega, by go_num, JD2, J7⟩
        · have HR := fun W => hide (rright_no m W (HPS.out m hmm) hr)
          have Q := hide (fun w' => HAI.out 160 w' (.inl ⟨hr, rfl⟩))
          clear hr hmm HAI HA HZ
          go_wp2_with (go_at_call 26; refine (HR _).out.mono ?_; rintro e w1 ⟨rfl, hw⟩; have B1 := hide (BX.out.trans (hw.mono BX.out.size)); obtain ⟨x0, x1, x2, x3, x4, x5⟩ := (TM _ B1.out).out; clear hw HR)
          go_ret
          exact Q.out _ B1.out
end Go.Proofs.Ytlfffpgokemjbaa.U
