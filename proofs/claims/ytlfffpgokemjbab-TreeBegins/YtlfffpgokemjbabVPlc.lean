/- The program's checkPlace: contract. -/
import Derived.Test.YtlfffpgokemjbabVBar
import Derived.Test.YtlfffpgokemjbabUChk
import Derived.Test.YtlfffpgokemjbabEPar
namespace Go.Proofs.Ytlfffpgokemjbab.U
set_option maxRecDepth 100000
open Go Go.RowKit
set_option linter.unusedVariables false
/-- One of the parents of a path is an entry that is no Folder. -/
def Undr (es : List En) (p : ByteArray) : Prop := ∃ m ∈ es, m.path.data.toList ∈ E.prs p.data.toList p.data.toList.length ∧ m.kind ≠ 2
def PlTells (es : List En) (p : ByteArray) (c : Int) : Prop := (es = [] ∧ c = 0) ∨ ∃ m, es[es.length - 1]? = some m ∧ ((m.path = p ∧ c = 161) ∨ (m.path ≠ p ∧ (gtB m.path p = true ∨ Undr es p) ∧ c = 160) ∨ (m.path ≠ p ∧ ¬ gtB m.path p = true ∧ ¬ Undr es p ∧ c = 0))
def PlOk (es : List En) (p : ByteArray) (w : World) (e : Ending) (w' : World) : Prop := ∃ c : Int, e = .returned (.int .i64 c) ∧ PlTells es p c ∧ Below w.heap.size w w'
theorem lss_gt {a b : ByteArray} : Op.bytesLess b.toList a.toList = gtB a b := by
  cases h : gtB a b
  · rw [← Bool.not_eq_true, gt_iff] at h
    simpa using h
  · exact gt_iff.1 h
set_option maxHeartbeats 8000000 in
theorem checkPlace_c (a : Option Addr) (cap : Nat) (es : List En) (p : ByteArray) (w : World) (h : EntsIn w a es) (hl : es.length ≤ 100000) (hr : Rise es) (hp : p.size ≤ 8000000000000) : Calls Try.prog 8 #[.slice a es.length cap, .string p] w (PlOk es p w) := by
  have HQ : Hid (∀ c w', PlTells es p c → Below w.heap.size w w' → PlOk es p w (.returned (.int .i64 c)) w') := hide fun c w' q r => ⟨c, rfl, q, r⟩
  by_cases h0 : es = []
  · subst h0
    have Q := hide (HQ.out 0 w (.inl ⟨rfl, rfl⟩) (Below.refl _ _))
    clear HQ
    go_enter Try.func8, Try.ntmps8
    go_wp2_with fail
    go_ret
    exact Q.out
  · have hpos : 0 < es.length := List.length_pos_iff.2 h0
    obtain ⟨m, hm⟩ : ∃ m, es[es.length - 1]? = some m := ⟨_, List.getElem?_eq_getElem (by omega)⟩
    have HBY := fun (q : ByteArray) W (hW : Below w.heap.size w W) hu => hide (isBarred_yes a cap es q W (h.stay hW) hl hr hu)
    have HBN := fun (q : ByteArray) W (hW : Below w.heap.size w W) hu => hide (isBarred_no a cap es q W (h.stay hW) hl hr hu)
    obtain ⟨b, off, hb, rfl, a0, a1, a2, a3, a4, a5⟩ := h.six hm
    have HP1 : Hid (m.path = p → ∀ w', Below w.heap.size w w' → PlOk es p w (.returned (.int .i64 161)) w') := hide fun e w' r => HQ.out 161 w' (.inr ⟨m, hm, .inl ⟨e, rfl⟩⟩) r
    have HP2 : Hid (m.path ≠ p → (gtB m.path p = true ∨ Undr es p) → ∀ w', Below w.heap.size w w' → PlOk es p w (.returned (.int .i64 160)) w') := hide fun e g w' r => HQ.out 160 w' (.inr ⟨m, hm, .inr (.inl ⟨e, g, rfl⟩)⟩) r
    have HP3 : Hid (m.path ≠ p → ¬ gtB m.path p = true → ¬ Undr es p → ∀ w', Below w.heap.size w w' → PlOk es p w (.returned (.int .i64 0)) w') := hide fun e g g2 w' r => HQ.out 0 w' (.inr ⟨m, hm, .inr (.inr ⟨e, g, g2, rfl⟩)⟩) r
    have HR := hide hr
    have BR := hide (Below.refl w.heap.size w)
    obtain ⟨k, hk⟩ : ∃ k, es.length = k + 1 := ⟨es.length - 1, by omega⟩
    rw [hk] at hl
    rw [hk, Nat.add_sub_cancel] at a1
    have HK := hide hk
    simp only [hk] at HBY HBN
    rw [hk]
    have hkI : (k : Int) ≤ 100000 := by omega
    have HL := hide hl
    clear h h0 hpos hm hb a0 a2 a3 a4 a5 hr hk hl HQ
    by_cases he : m.path.toList = p.toList
    · have heb : (p.toList == m.path.toList) = true := by rw [he]; exact beq_self_eq_true _
      have Q := hide (HP1.out (bytes_ext he))
      clear HP1 HP2 HP3 he HBY HBN
      go_enter Try.func8, Try.ntmps8
      go_wp2_with fail
      go_ret
      exact Q.out _ BR.out
    · have hne : m.path ≠ p := fun e => he (by rw [e])
      have heb : (p.toList == m.path.toList) = false := by simpa using (fun e : p.toList = m.path.toList => he e.symm)
      have hls : Op.bytesLess p.toList m.path.toList = gtB m.path p := lss_gt
      cases hg : gtB m.path p
      · rw [hg] at hls
        have HP2' := hide (fun u => HP2.out hne (.inr u))
        have HP3' := hide (HP3.out hne (by rw [hg]; exact Bool.false_ne_true))
        have HPA := fun W => hide (E.parents_c p hp W)
        have HDE : Hid (Undr es p ↔ ∃ m ∈ es, m.path.data.toList ∈ E.prs p.data.toList p.data.toList.length ∧ m.kind ≠ 2) := hide Iff.rfl
        unfold E.ParOk at HPA
        clear HP1 HP2 HP3 he hne hg
        generalize E.prs p.data.toList p.data.toList.length = L at *
        go_enter Try.func8, Try.ntmps8
        obtain ⟨N, hN2⟩ : ∃ N, N = L.length := ⟨_, rfl⟩
        have HNL := hide hN2
        clear hN2
        go_wp2_with (go_at_call 14; refine (HPA _).out.mono ?_; rintro e w1 ⟨lv, rfl, ho, hw⟩; have OL := hide ho; have B1 := hide hw; clear hw ho HPA; obtain ⟨la, lc, hv, hlc, hlm, hln⟩ := OL.out.form; subst hv; have LC := hide OL.out.cells; have hNI : (N : Int) ≤ 9223372036854775807 := (by have := hlm; have := HNL.out; unfold maxLen at *; omega); rw [← HNL.out]; clear hlc hlm hln OL)
        go_loopg [27] N (fun gk u27 wx => ∃ j : Nat, j + gk = N ∧ u27 = .int .i64 (j : Int) ∧ Hid (∀ (j' : Nat) q, j' < j → L[j']? = some q → ∀ m ∈ es, m.path.data.toList = q → m.kind = 2) ∧ Hid (Below w1.heap.size w1 wx))
        case atStart => exact ⟨0, by omega, rfl, hide fun j q g => by omega, hide (Below.refl _ _)⟩
        case round =>
          obtain ⟨j, hjg, rfl, JD, JX⟩ := hrel
          have BX := hide (B1.out.trans (JX.out.mono B1.out.size))
          cases gk with
          | zero =>
            obtain rfl : j = N := by omega
            have hge : ¬ (j : Int) < (j : Int) := by omega
            have Q := hide (HP3'.out (fun u => by
              obtain ⟨m, hm, hin, hne⟩ := HDE.out.1 u
              obtain ⟨j', hj', e⟩ := List.getElem_of_mem hin
              exact hne (JD.out j' _ (by have := HNL.out; omega) (by rw [List.getElem?_eq_getElem hj', e]) m hm rfl)))
            clear HP2' HP3'
            go_wp2_with fail
            go_ret
            exact Q.out _ BX.out
          | succ g3 =>
            have hjN : (j : Int) < (N : Int) := by omega
            have hjl : j < L.length := by have := HNL.out; omega
            obtain ⟨q, hq⟩ : ∃ q, L[j]? = some q := ⟨_, List.getElem?_eq_getElem hjl⟩
            rcases LC.out with hl0 | ⟨gb, hla, hgb0, hgb, hcell⟩
            · exact absurd hl0 (by omega)
            · subst hla
              have c1 : wr.cell? ⟨gb, j, none⟩ = some (.string (E.tx q)) := by
                have e := hcell j hjl
                rw [show L[j] = q from Option.some.inj ((List.getElem?_eq_getElem hjl).symm.trans hq)] at e
                exact (JX.out.cell (p := ⟨gb, j, none⟩) hgb).trans e
              have JG := hide (And.intro hjg hq)
              have HPF := hide (fun (u : ∃ m ∈ es, m.path = E.tx q ∧ m.kind ≠ 2) => HP2'.out (HDE.out.2 (by
                obtain ⟨m, hm, hmp, hk⟩ := u
                exact ⟨m, hm, by rw [hmp, show (E.tx q).data.toList = q from by simp [E.tx]]; exact List.mem_of_getElem? hq, hk⟩)))
              clear hcell hgb hgb0 hjl hjg hq HP2'
              by_cases hu : ∃ m ∈ es, m.path = E.tx q ∧ m.kind ≠ 2
              · have HBB := HBY (E.tx q) wr BX.out hu
                have Q := hide (HPF.out hu)
                clear hu HBY HBN HPF
                go_wp2_with (go_at_call 15; refine HBB.out.mono ?_; rintro e w2 ⟨rfl, hw⟩; have B2 := hide (BX.out.trans (hw.mono BX.out.size)); clear hw HBB)
                go_ret
                exact Q.out _ B2.out
              · have HBB := HBN (E.tx q) wr BX.out hu
                have JD2 := hide (show ∀ (j' : Nat) q', j' < j + 1 → L[j']? = some q' → ∀ m ∈ es, m.path.data.toList = q' → m.kind = 2 from fun j' q' hj hq' m hm e => by
                  rcases Nat.lt_or_ge j' j with g | g
                  · exact JD.out j' q' g hq' m hm e
                  · obtain rfl : j' = j := by omega
                    obtain rfl : q = q' := Option.some.inj (JG.out.2.symm.trans hq')
                    apply Classical.byContradiction
                    intro hk
                    exact hu ⟨m, hm, by rw [← e, tx_list], hk⟩)
                clear hu HPF
                go_wp2_with (go_at_call 15; refine HBB.out.mono ?_; rintro e w2 ⟨rfl, hw⟩; have J2 := hide (JX.out.trans (hw.mono JX.out.size)); clear hw HBB)
                go_roundg g3
                case measure => omega
                case rel => exact ⟨j + 1, by have := JG.out.1; omega, by go_num, JD2, J2⟩
      · rw [hg] at hls
        have Q := hide (HP2.out hne (.inl hg))
        clear HP1 HP2 HP3 he hne hg HBY HBN
        go_enter Try.func8, Try.ntmps8
        go_wp2_with fail
        go_ret
        exact Q.out _ BR.out
end Go.Proofs.Ytlfffpgokemjbab.U
