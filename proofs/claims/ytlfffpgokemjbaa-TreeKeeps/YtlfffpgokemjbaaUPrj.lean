/- The reference's Project: contract. -/
import Derived.Test.YtlfffpgokemjbaaURef
import Derived.Test.YtlfffpgokemjbaaTRef
namespace Go.Proofs.Ytlfffpgokemjbaa.U
set_option maxRecDepth 100000
open Go Go.RowKit
set_option linter.unusedVariables false
/-- What a format keeps of an entry. -/
def keep1 (f : Int) (m : En) : En := if f = 1 then { m with time := T.flo m.time 100 } else m
def prj (f : Int) (es : List En) : List En := es.map (keep1 f)
def PrOk (f : Int) (es : List En) (w : World) (e : Ending) (w' : World) : Prop := ∃ v, e = .returned v ∧ OwnsEn w' w.heap.size v (prj f es) ∧ Below w.heap.size w w'
theorem prj_succ {f : Int} {es : List En} {i : Nat} {m : En} (hm : es[i]? = some m) : prj f (es.take (i + 1)) = prj f (es.take i) ++ [keep1 f m] := by
  have : es.take (i + 1) = es.take i ++ [m] := by rw [List.take_add_one, hm]; rfl
  rw [this]
  simp [prj]
theorem prj_len (f : Int) (es : List En) (i : Nat) : (prj f (es.take i)).length ≤ i := by simp [prj]; omega
theorem row2 {w : World} {t t2 : TypeId} (cs : Array Value) (m : En) : ∀ j u, m.cells.toList[j]? = some u → ((w.alloc (.cells cs t)).alloc (.cells m.cells t2)).cell? ((⟨w.heap.size + 1, 0, none⟩ : Addr).add j) = some u := fun j u h => by
  have e : ((⟨w.heap.size + 1, 0, none⟩ : Addr).add j) = ⟨w.heap.size + 1, j, none⟩ := by unfold Addr.add; split <;> simp_all
  rw [e]
  have := cells_new (w.alloc (.cells cs t)) m.cells t2 j u (by rw [← Array.getElem?_toList]; exact h)
  simpa using this
set_option maxHeartbeats 8000000 in
theorem rproject_c (a : Option Addr) (cap : Nat) (f : Int) (es : List En) (w : World) (h : EntsIn w a es) (hl : es.length ≤ 1000000) (hT : ∀ m ∈ es, -9223372036854775808 ≤ m.time ∧ m.time ≤ 9223372036854775807) : Calls Try.prog 23 #[.slice a es.length cap, .int .i64 f] w (PrOk f es w) := by
  obtain ⟨n, hnn⟩ : ∃ n, n = es.length := ⟨_, rfl⟩
  have HN := hide hnn
  rw [← hnn]
  rw [← hnn] at hl
  have HE := hide h
  have HL := hide hl
  have HTT := hide hT
  have E0 := hide (OwnsEn.nil w w.heap.size)
  have HP : Hid (∀ v w', OwnsEn w' w.heap.size v (prj f es) → Below w.heap.size w w' → PrOk f es w (.returned v) w') := hide fun v w' q r => ⟨v, rfl, q, r⟩
  clear h hl hnn hT
  go_enter Try.func23, Try.ntmps23
  go_wp2_with fail
  go_loopg [5, 6] n (fun gk u5 u6 wx => ∃ i : Nat, i + gk = n ∧ u6 = .int .i64 (i : Int) ∧ Hid (OwnsEn wx w.heap.size u5 (prj f (es.take i))) ∧ Hid (Below w.heap.size w wx))
  case atStart => exact ⟨0, by omega, rfl, E0, hide (Below.refl _ _)⟩
  case round =>
    obtain ⟨i, hig, rfl, OX, BX⟩ := hrel
    clear E0
    cases gk with
    | zero =>
      obtain rfl : i = n := by omega
      have hge : ¬ (i : Int) < (i : Int) := by omega
      have e : es.take i = es := by rw [HN.out]; exact List.take_length
      rw [e] at OX
      clear e
      go_wp2_with fail
      go_ret
      exact HP.out _ _ OX.out BX.out
    | succ g1 =>
      have hlt : (i : Int) < (n : Int) := by omega
      have hnI : (n : Int) ≤ 1000000 := by have := HL.out; omega
      have hi : i < es.length := by have := HN.out; omega
      obtain ⟨m, hm⟩ : ∃ m, es[i]? = some m := ⟨_, List.getElem?_eq_getElem hi⟩
      obtain ⟨b1, o1, hb, rfl, a0, a1, a2, a3, a4, a5⟩ := (HE.out.stay BX.out).six hm
      have hmt := HTT.out m (List.mem_of_getElem? hm)
      have HS := hide (prj_succ (f := f) hm)
      have HLN := hide (show (prj f (es.take i)).length ≤ 1000000000 by have := prj_len f es i; have := HL.out; omega)
      have HFL := fun W => hide (T.floor_c m.time 100 W hmt.1 hmt.2 (by omega))
      have HO : ∀ cs ds, Hid (OwnsEn ((wr.alloc (.cells cs 30)).alloc (.cells ds 30)) w.heap.size u5 (prj f (es.take i))) := fun cs ds => hide (OX.out.stay (((Below.refl _ wr).alloc (Nat.le_refl _) _).alloc (by simp) _))
      have HB : ∀ cs ds, Hid (Below w.heap.size w ((wr.alloc (.cells cs 30)).alloc (.cells ds 30))) := fun cs ds => hide ((BX.out.alloc BX.out.size _).alloc (by have := BX.out.size; simp; omega) _)
      have IG := hide hig
      clear hig hi hm hmt
      generalize prj f (es.take i) = X at *
      by_cases hf : f = 1
      · subst hf
        rw [show keep1 1 m = { m with time := T.flo m.time 100 } from if_pos rfl] at HS
        generalize T.flo m.time 100 = ft at *
        go_wp2_with (first
          | (go_at_call 38; refine (HFL _).out.mono ?_; rintro e w1 ⟨rfl, hw⟩; obtain rfl := hw.symm; clear HFL)
          | (refine wpList_pushE _ rfl (.tmp 24) (.tmp 26) rfl w.heap.size _ X (by rfl) (HO _ _).out ⟨m.kind, m.path, m.target, m.mode, ft, m.data⟩ (wr.heap.size + 1) (by rfl) (row2 _ _) HLN.out (HB _ _).out.size ?_; intro v3 w3 h3 k3; have O3 := hide h3; have B3 := hide (growE (HO _ _).out (Nat.le_refl _) (HB _ _).out k3); clear h3 k3))
        rw [← HS.out] at O3
        go_roundg g1
        case measure => omega
        case rel => exact ⟨i + 1, by have := IG.out; omega, by go_num, O3, B3⟩
      · rw [show keep1 f m = m from if_neg hf] at HS
        clear HFL
        go_wp2_with (first
          | (refine wpList_pushE _ rfl (.tmp 24) (.tmp 26) rfl w.heap.size _ X (by rfl) (HO _ _).out m (wr.heap.size + 1) (by rfl) (row2 _ _) HLN.out (HB _ _).out.size ?_; intro v3 w3 h3 k3; have O3 := hide h3; have B3 := hide (growE (HO _ _).out (Nat.le_refl _) (HB _ _).out k3); clear h3 k3))
        rw [← HS.out] at O3
        go_roundg g1
        case measure => omega
        case rel => exact ⟨i + 1, by have := IG.out; omega, by go_num, O3, B3⟩
end Go.Proofs.Ytlfffpgokemjbaa.U
