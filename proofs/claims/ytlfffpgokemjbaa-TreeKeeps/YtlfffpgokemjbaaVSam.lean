/- slices.Equal of entries, and the program's Same: contracts. -/
import Derived.Test.YtlfffpgokemjbaaURef
namespace Go.Proofs.Ytlfffpgokemjbaa.U
set_option maxRecDepth 100000
open Go Go.RowKit
set_option linter.unusedVariables false
theorem equal_len (a b : Option Addr) (ca cb : Nat) (es fs : List En) (w : World) (hn : ¬ es.length = fs.length) : Calls Try.prog 31 #[.slice a es.length ca, .slice b fs.length cb] w (SmOk es fs w) := by
  have HF : Hid (SmOk es fs w (.returned (.bool false)) w) := hide ⟨false, rfl, ⟨fun q => (by cases q), fun q => absurd (by rw [q]) hn⟩, Below.refl _ _⟩
  have hni : ¬ (es.length : Int) = (fs.length : Int) := by omega
  generalize es.length = n at *
  generalize fs.length = k at *
  have hne : ((n : Int) != (k : Int)) = true := by simpa using hni
  go_enter Try.func31, Try.ntmps31
  go_wp2_with fail
  go_ret
  exact HF.out
set_option maxHeartbeats 4000000 in
theorem equal_c (a b : Option Addr) (ca cb : Nat) (es fs : List En) (w : World) (h : EntsIn w a es) (h2 : EntsIn w b fs) (hl : es.length ≤ 1000000000) : Calls Try.prog 31 #[.slice a es.length ca, .slice b fs.length cb] w (SmOk es fs w) := by
  by_cases hn : es.length = fs.length
  case neg => exact equal_len a b ca cb es fs w hn
  obtain ⟨n, hnn⟩ : ∃ n, n = es.length := ⟨_, rfl⟩
  have HN := hide hnn
  rw [← hn, ← hnn]
  rw [← hnn] at hl hn
  have HE := hide h
  have HF := hide h2
  have HL := hide hl
  have HM := hide hn
  have HT : Hid (∀ w', es = fs → Below w.heap.size w w' → SmOk es fs w (.returned (.bool true)) w') := hide fun w' q r => ⟨true, rfl, ⟨fun _ => q, fun _ => rfl⟩, r⟩
  have HX : Hid (∀ w', es ≠ fs → Below w.heap.size w w' → SmOk es fs w (.returned (.bool false)) w') := hide fun w' q r => ⟨false, rfl, ⟨fun s => (by cases s), fun s => absurd s q⟩, r⟩
  clear h h2 hl hn hnn
  have hne : ((n : Int) != (n : Int)) = false := by simp
  go_enter Try.func31, Try.ntmps31
  go_wp2_with fail
  clear hne
  go_loopg [13] n (fun gk u13 wx => ∃ i : Nat, i + gk = n ∧ u13 = .int .i64 (i : Int) ∧ Hid (Below w.heap.size w wx) ∧ Hid (∀ j, j < i → es[j]? = fs[j]?))
  case atStart => exact ⟨0, by omega, rfl, hide (Below.refl _ _), hide fun j hj => by omega⟩
  case round =>
    obtain ⟨i, hig, rfl, BX, EQ⟩ := hrel
    cases gk with
    | zero =>
      obtain rfl : i = n := by omega
      have hge : ¬ (i : Int) < (i : Int) := by omega
      go_wp2_with fail
      go_ret
      exact HT.out _ (upto_eq (HN.out.symm.trans HM.out) (fun j hj => EQ.out j (by have := HN.out; omega))) BX.out
    | succ g1 =>
      have hlt : (i : Int) < (n : Int) := by omega
      have hnI : (n : Int) ≤ 1000000000 := by have := HL.out; omega
      have hi : i < es.length := by have := HN.out; omega
      obtain ⟨m, hm⟩ : ∃ m, es[i]? = some m := ⟨_, List.getElem?_eq_getElem hi⟩
      obtain ⟨p, hp⟩ : ∃ m, fs[i]? = some m := ⟨_, List.getElem?_eq_getElem (by have := HM.out; omega)⟩
      obtain ⟨b1, o1, hb, rfl, a0, a1, a2, a3, a4, a5⟩ := (HE.out.stay BX.out).six hm
      obtain ⟨b2, o2, hb2, rfl, c0, c1, c2, c3, c4, c5⟩ := (HF.out.stay BX.out).six hp
      have IG := hide (And.intro hig (And.intro hm hp))
      clear hig hi hm hp
      have k0 := by_cell a0
      have k1 := by_cell a1
      have k2 := by_cell a2
      have k3 := by_cell a3
      have k4 := by_cell a4
      have k5 := by_cell a5
      have l0 := by_cell c0
      have l1 := by_cell c1
      have l2 := by_cell c2
      have l3 := by_cell c3
      have l4 := by_cell c4
      have l5 := by_cell c5
      clear a0 a1 a2 a3 a4 a5 c0 c1 c2 c3 c4 c5
      go_upto_region 6 with fail
      refine wp_region_below (by kernel_rfl) (by kernel_rfl) ?_
      repeat (refine WQ.step (fun K hK => ?_); go_simp; first | (refine hK _ ?_; clear hK K))
      refine WQ.step (fun K hK => ?_)
      go_simp
      refine ⟨.bool (neE m p), fun q => ?_, hK _ ?_⟩
      · have e := ifE m p (fun x => Result.ok (Next.value (Value.bool x)) q.w)
        simp only [e]
        exact ⟨by trivial, by trivial⟩
      clear hK K k0 k1 k2 k3 k4 k5 l0 l1 l2 l3 l4 l5
      refine WQ.nil ?_
      rintro w3 ⟨⟨_, hw3⟩, rfl⟩
      have BX3 := hide (BX.out.trans (hw3.mono BX.out.size))
      clear hw3
      have NE := hide (neE_iff (m := m) (p := p))
      generalize neE m p = x at *
      cases x
      · have MP := hide (NE.out.1 rfl)
        clear NE
        go_wp2_with fail
        go_roundg g1
        case measure => omega
        case rel => exact ⟨i + 1, by have := IG.out; omega, by go_num, BX3, hide fun j hj => by
            rcases Nat.lt_or_ge j i with q | q
            · exact EQ.out j q
            · obtain rfl : j = i := by omega
              rw [IG.out.2.1, IG.out.2.2, MP.out]⟩
      · have MP : Hid (m ≠ p) := hide fun q => by have := NE.out.2 q; cases this
        clear NE
        go_wp2_with fail
        go_ret
        exact HX.out _ (fun q => by
          have a := IG.out.2.1
          rw [q, IG.out.2.2] at a
          exact MP.out (Option.some.inj a).symm) BX3.out
theorem same_c (a b : Option Addr) (ca cb : Nat) (es fs : List En) (w : World) (h : EntsIn w a es) (h2 : EntsIn w b fs) (hl : es.length ≤ 1000000000) : Calls Try.prog 19 #[.slice a es.length ca, .slice b fs.length cb] w (SmOk es fs w) := by
  have HQ := hide (equal_c a b ca cb es fs w h h2 hl)
  clear h h2 hl
  go_enter Try.func19, Try.ntmps19
  go_wp2_with (go_at_call 31; refine HQ.out.mono ?_; rintro e w1 ⟨b, rfl, hb, hw⟩; have K := hide (And.intro hb hw); clear hb hw HQ)
  go_ret
  exact ⟨_, rfl, K.out⟩
end Go.Proofs.Ytlfffpgokemjbaa.U
