/- The reference's Size and Same: contracts. -/
import Derived.Test.YtlfffpgokemjbaaUWq
namespace Go.Proofs.Ytlfffpgokemjbaa.U
set_option maxRecDepth 100000
open Go Go.RowKit
set_option linter.unusedVariables false
/-- All data together, as 64 bits hold it. -/
def szw (es : List En) : Int := es.foldl (fun n m => wrap64 (n + (m.data.size : Int))) 0
theorem szw_succ {es : List En} {i : Nat} {m : En} (hm : es[i]? = some m) : szw (es.take (i + 1)) = wrap64 (szw (es.take i) + (m.data.size : Int)) := by
  have : es.take (i + 1) = es.take i ++ [m] := by rw [List.take_add_one, hm]; rfl
  rw [this]
  unfold szw
  rw [List.foldl_append]
  rfl
set_option maxHeartbeats 4000000 in
theorem rsize_c (a : Option Addr) (cap : Nat) (es : List En) (w : World) (h : EntsIn w a es) (hn : es.length ≤ 1000000000) : Calls Try.prog 18 #[.slice a es.length cap] w fun e w' => e = .returned (.int .i64 (szw es)) ∧ w' = w := by
  obtain ⟨v, hv⟩ : ∃ v, v = szw es := ⟨_, rfl⟩
  rw [← hv]
  have HV := hide hv
  clear hv
  obtain ⟨n, hnn⟩ : ∃ n, n = es.length := ⟨_, rfl⟩
  have HN := hide hnn
  rw [← hnn] at hn ⊢
  clear hnn
  have HE := hide h
  have HL := hide hn
  clear h hn
  go_enter Try.func18, Try.ntmps18
  go_wp2_with fail
  go_loopg [3, 4] n (fun gk u3 u4 wx => ∃ i : Nat, i + gk = n ∧ u3 = .int .i64 (szw (es.take i)) ∧ u4 = .int .i64 (i : Int) ∧ wx = w)
  case atStart => exact ⟨0, by omega, rfl, rfl, rfl⟩
  case round =>
    obtain ⟨i, hig, rfl, rfl, hwx⟩ := hrel
    obtain rfl := hwx.symm
    cases gk with
    | zero =>
      obtain rfl : i = n := by omega
      have hge : ¬ (i : Int) < (i : Int) := by omega
      go_wp2_with fail
      go_ret
      have e : es.take i = es := by rw [HN.out]; exact List.take_length
      exact ⟨by rw [HV.out, e]; rfl, rfl⟩
    | succ g1 =>
      have hlt : (i : Int) < (n : Int) := by omega
      have hnI : (n : Int) ≤ 1000000000 := by have := HL.out; omega
      have hi : i < es.length := by have := HN.out; omega
      obtain ⟨m, hm⟩ : ∃ m, es[i]? = some m := ⟨_, List.getElem?_eq_getElem hi⟩
      obtain ⟨b, off, hb, rfl, a0, a1, a2, a3, a4, a5⟩ := HE.out.six hm
      have HS := hide (szw_succ hm)
      generalize szw (es.take i) = x at *
      clear a0 a1 a2 a3 a4 hi hm
      have IG := hide hig
      clear hig
      go_wp2_with fail
      go_roundg g1
      case measure => omega
      case rel => exact ⟨i + 1, by have := IG.out; omega, by rw [HS.out], by go_num, rfl⟩
theorem bytes_ext {a b : ByteArray} (h : a.toList = b.toList) : a = b := by
  have h2 : a.data.toList = b.data.toList := by rw [ByteArray.toList_eq, ByteArray.toList_eq] at h; exact h
  cases a; cases b
  simp only [ByteArray.mk.injEq]
  exact Array.toList_inj.1 h2
/-- Two entries are not the same. -/
def neE (m p : En) : Bool := !(decide (m.kind = p.kind) && (decide (m.path.toList = p.path.toList) && (decide (m.target.toList = p.target.toList) && (decide (m.mode = p.mode) && (decide (m.time = p.time) && decide (m.data.toList = p.data.toList))))))
theorem neE_iff {m p : En} : neE m p = false ↔ m = p := by
  unfold neE
  rw [Bool.not_eq_false']
  simp only [Bool.and_eq_true, decide_eq_true_eq]
  constructor
  · rintro ⟨h1, h2, h3, h4, h5, h6⟩
    cases m; cases p
    simp only at h1 h2 h3 h4 h5 h6
    obtain rfl := bytes_ext h2
    obtain rfl := bytes_ext h3
    obtain rfl := bytes_ext h6
    subst h1 h4 h5
    rfl
  · rintro rfl
    exact ⟨rfl, rfl, rfl, rfl, rfl, rfl⟩
theorem ifE {β : Type} (m p : En) (f : Bool → β) : (if m.kind = p.kind then if m.path.toList = p.path.toList then if m.target.toList = p.target.toList then if m.mode = p.mode then if m.time = p.time then if m.data.toList = p.data.toList then f false else f true else f true else f true else f true else f true else f true) = f (neE m p) := by
  unfold neE
  by_cases h1 : m.kind = p.kind
  · by_cases h2 : m.path.toList = p.path.toList
    · by_cases h3 : m.target.toList = p.target.toList
      · by_cases h4 : m.mode = p.mode
        · by_cases h5 : m.time = p.time
          · by_cases h6 : m.data.toList = p.data.toList <;> simp [h1, h2, h3, h4, h5, h6]
          · simp [h1, h2, h3, h4, h5]
        · simp [h1, h2, h3, h4]
      · simp [h1, h2, h3]
    · simp [h1, h2]
  · simp [h1]
def SmOk (es fs : List En) (w : World) (e : Ending) (w' : World) : Prop := ∃ b : Bool, e = .returned (.bool b) ∧ (b = true ↔ es = fs) ∧ Below w.heap.size w w'
theorem upto_eq {es fs : List En} (hl : es.length = fs.length) (h : ∀ j, j < es.length → es[j]? = fs[j]?) : es = fs := by
  apply List.ext_getElem? 
  intro j
  rcases Nat.lt_or_ge j es.length with q | q
  · exact h j q
  · rw [List.getElem?_eq_none q, List.getElem?_eq_none (by omega)]
theorem rsame_len (a b : Option Addr) (ca cb : Nat) (es fs : List En) (w : World) (hn : ¬ es.length = fs.length) : Calls Try.prog 14 #[.slice a es.length ca, .slice b fs.length cb] w (SmOk es fs w) := by
  have HF : Hid (SmOk es fs w (.returned (.bool false)) w) := hide ⟨false, rfl, ⟨fun q => (by cases q), fun q => absurd (by rw [q]) hn⟩, Below.refl _ _⟩
  have hni : ¬ (es.length : Int) = (fs.length : Int) := by omega
  generalize es.length = n at *
  generalize fs.length = k at *
  have hne : ((n : Int) != (k : Int)) = true := by simpa using hni
  go_enter Try.func14, Try.ntmps14
  go_wp2_with fail
  go_ret
  exact HF.out
set_option maxHeartbeats 4000000 in
theorem rsame_c (a b : Option Addr) (ca cb : Nat) (es fs : List En) (w : World) (h : EntsIn w a es) (h2 : EntsIn w b fs) (hl : es.length ≤ 1000000000) : Calls Try.prog 14 #[.slice a es.length ca, .slice b fs.length cb] w (SmOk es fs w) := by
  by_cases hn : es.length = fs.length
  case neg => exact rsame_len a b ca cb es fs w hn
  obtain ⟨n, hnn⟩ : ∃ n, n = es.length := ⟨_, rfl⟩
  have HN := hide hnn
  rw [← hn, ← hnn]
  rw [← hnn] at hl hn
  have HE := hide h
  have HF := hide h2
  have HL := hide hl
  have HM := hide hn
  have HT : Hid (∀ w', es = fs → Below w.heap.size w w' → SmOk es fs w (.returned (.bool true)) w') := hide fun w' q r => ⟨true, rfl, ⟨fun _ => q, fun _ => rfl⟩, r⟩
  have HX : Hid (∀ w', es ≠ fs → Below w.heap.size w w' → SmOk es fs w (.returned (.bool false)) w') := hide fun w' q r => ⟨false, rfl, ⟨fun s => (by cases s), fun s => absurd s q⟩, r⟩
  clear h h2 hl hn hnn
  have hne : ((n : Int) != (n : Int)) = false := by simp
  go_enter Try.func14, Try.ntmps14
  go_wp2_with fail
  clear hne
  go_loopg [5] n (fun gk u5 wx => ∃ i : Nat, i + gk = n ∧ u5 = .int .i64 (i : Int) ∧ Hid (Below w.heap.size w wx) ∧ Hid (∀ j, j < i → es[j]? = fs[j]?))
  case atStart => exact ⟨0, by omega, rfl, hide (Below.refl _ _), hide fun j hj => by omega⟩
  case round =>
    obtain ⟨i, hig, rfl, BX, EQ⟩ := hrel
    cases gk with
    | zero =>
      obtain rfl : i = n := by omega
      have hge : ¬ (i : Int) < (i : Int) := by omega
      go_wp2_with fail
      go_ret
      exact HT.out _ (upto_eq (HN.out.symm.trans HM.out) (fun j hj => EQ.out j (by have := HN.out; omega))) BX.out
    | succ g1 =>
      have hlt : (i : Int) < (n : Int) := by omega
      have hnI : (n : Int) ≤ 1000000000 := by have := HL.out; omega
      have hi : i < es.length := by have := HN.out; omega
      obtain ⟨m, hm⟩ : ∃ m, es[i]? = some m := ⟨_, List.getElem?_eq_getElem hi⟩
      obtain ⟨p, hp⟩ : ∃ m, fs[i]? = some m := ⟨_, List.getElem?_eq_getElem (by have := HM.out; omega)⟩
      obtain ⟨b1, o1, hb, rfl, a0, a1, a2, a3, a4, a5⟩ := (HE.out.stay BX.out).six hm
      obtain ⟨b2, o2, hb2, rfl, c0, c1, c2, c3, c4, c5⟩ := (HF.out.stay BX.out).six hp
      have IG := hide (And.intro hig (And.intro hm hp))
      clear hig hi hm hp
      have k0 := by_cell a0
      have k1 := by_cell a1
      have k2 := by_cell a2
      have k3 := by_cell a3
      have k4 := by_cell a4
      have k5 := by_cell a5
      have l0 := by_cell c0
      have l1 := by_cell c1
      have l2 := by_cell c2
      have l3 := by_cell c3
      have l4 := by_cell c4
      have l5 := by_cell c5
      clear a0 a1 a2 a3 a4 a5 c0 c1 c2 c3 c4 c5
      go_upto_region 6 with fail
      refine wp_region_below (by kernel_rfl) (by kernel_rfl) ?_
      repeat (refine WQ.step (fun K hK => ?_); go_simp; first | (refine hK _ ?_; clear hK K))
      refine WQ.step (fun K hK => ?_)
      go_simp
      refine ⟨.bool (neE m p), fun q => ?_, hK _ ?_⟩
      · have e := ifE m p (fun x => Result.ok (Next.value (Value.bool x)) q.w)
        simp only [e]
        exact ⟨by trivial, by trivial⟩
      clear hK K k0 k1 k2 k3 k4 k5 l0 l1 l2 l3 l4 l5
      refine WQ.nil ?_
      rintro w3 ⟨⟨_, hw3⟩, rfl⟩
      have BX3 := hide (BX.out.trans (hw3.mono BX.out.size))
      clear hw3
      have NE := hide (neE_iff (m := m) (p := p))
      generalize neE m p = x at *
      cases x
      · have MP := hide (NE.out.1 rfl)
        clear NE
        go_wp2_with fail
        go_roundg g1
        case measure => omega
        case rel => exact ⟨i + 1, by have := IG.out; omega, by go_num, BX3, hide fun j hj => by
            rcases Nat.lt_or_ge j i with q | q
            · exact EQ.out j q
            · obtain rfl : j = i := by omega
              rw [IG.out.2.1, IG.out.2.2, MP.out]⟩
      · have MP : Hid (m ≠ p) := hide fun q => by have := NE.out.2 q; cases this
        clear NE
        go_wp2_with fail
        go_ret
        exact HX.out _ (fun q => by
          have a := IG.out.2.1
          rw [q, IG.out.2.2] at a
          exact MP.out (Option.some.inj a).symm) BX3.out
end Go.Proofs.Ytlfffpgokemjbaa.U
