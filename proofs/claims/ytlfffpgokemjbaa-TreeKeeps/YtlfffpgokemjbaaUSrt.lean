/- The reference's Sort: contract. -/
import Derived.Test.YtlfffpgokemjbaaURef
namespace Go.Proofs.Ytlfffpgokemjbaa.U
set_option maxRecDepth 100000
open Go Go.RowKit
set_option linter.unusedVariables false
/-- A path is above another one. -/
def gtB (a b : ByteArray) : Bool := !(Op.bytesLess a.toList b.toList || a.toList == b.toList)
theorem gtr_c (t : TypeId) (a b : ByteArray) : binOp .gtr t (.string a) (.string b) = pure (.bool (gtB a b)) := by simp [binOp, Op.stringOp, gtB]
/-- An entry put behind all whose path is not above. -/
def ins (x : En) : List En → List En
  | [] => [x]
  | y :: r => if gtB y.path x.path = true then x :: y :: r else y :: ins x r
def srt (es : List En) : List En := es.foldl (fun out x => ins x out) []
theorem srt_succ {es : List En} {i : Nat} {m : En} (hm : es[i]? = some m) : srt (es.take (i + 1)) = ins m (srt (es.take i)) := by
  have : es.take (i + 1) = es.take i ++ [m] := by rw [List.take_add_one, hm]; rfl
  rw [this]
  unfold srt
  rw [List.foldl_append]
  rfl
theorem ins_len (x : En) : ∀ l : List En, (ins x l).length = l.length + 1
  | [] => rfl
  | y :: r => by
    unfold ins
    split
    · rfl
    · rw [List.length_cons, ins_len x r]; rfl
theorem srt_len : ∀ (es : List En) (out : List En), (es.foldl (fun out x => ins x out) out).length = out.length + es.length
  | [], out => rfl
  | x :: r, out => by rw [List.foldl_cons, srt_len r, ins_len, List.length_cons]; omega
theorem srt_lt (es : List En) (i : Nat) : (srt (es.take i)).length ≤ i := by
  unfold srt
  rw [srt_len, List.length_take, List.length_nil]
  omega
/-- How far the entry has been put. -/
def InsAt (x : En) (O N : List En) (k : Nat) (dn : Bool) : Prop := (dn = true ∧ ins x O = N ++ O.drop k) ∨ (dn = false ∧ N = O.take k ∧ ins x O = O.take k ++ ins x (O.drop k))
theorem InsAt.start (x : En) (O : List En) : InsAt x O [] 0 false := .inr ⟨rfl, by simp, by simp⟩
theorem InsAt.on {x : En} {O N : List En} {k : Nat} (h : InsAt x O N k true) {y : En} (hy : O[k]? = some y) : InsAt x O (N ++ [y]) (k + 1) true := by
  rcases h with ⟨_, h⟩ | ⟨h, _⟩
  · refine .inl ⟨rfl, ?_⟩
    have hk := (List.getElem?_eq_some_iff.1 hy)
    rw [h, List.drop_eq_getElem_cons hk.1, hk.2, List.append_assoc]
    rfl
  · cases h
theorem InsAt.put {x : En} {O N : List En} {k : Nat} (h : InsAt x O N k false) {y : En} (hy : O[k]? = some y) (hg : gtB y.path x.path = true) : InsAt x O (N ++ [x] ++ [y]) (k + 1) true := by
  rcases h with ⟨h, _⟩ | ⟨_, h, h2⟩
  · cases h
  · refine .inl ⟨rfl, ?_⟩
    have hk := (List.getElem?_eq_some_iff.1 hy)
    rw [h2, List.drop_eq_getElem_cons hk.1, hk.2, h]
    rw [ins, if_pos hg]
    simp
theorem InsAt.pass {x : En} {O N : List En} {k : Nat} (h : InsAt x O N k false) {y : En} (hy : O[k]? = some y) (hg : ¬ gtB y.path x.path = true) : InsAt x O (N ++ [y]) (k + 1) false := by
  rcases h with ⟨h, _⟩ | ⟨_, h, h2⟩
  · cases h
  · have hk := (List.getElem?_eq_some_iff.1 hy)
    have e : O.take (k + 1) = O.take k ++ [y] := by rw [List.take_add_one, hy]; rfl
    refine .inr ⟨rfl, by rw [e, h], ?_⟩
    rw [h2, List.drop_eq_getElem_cons hk.1, hk.2, e]
    rw [ins, if_neg hg]
    simp
theorem InsAt.len {x : En} {O N : List En} {k : Nat} {dn : Bool} (h : InsAt x O N k dn) : N.length ≤ O.length + 1 := by
  rcases h with ⟨_, h⟩ | ⟨_, h, _⟩
  · have := congrArg List.length h
    rw [ins_len, List.length_append] at this
    omega
  · rw [h, List.length_take]; omega
theorem InsAt.done {x : En} {O N : List En} (h : InsAt x O N O.length true) : N = ins x O := by
  rcases h with ⟨_, h⟩ | ⟨h, _⟩
  · rw [h, List.drop_length, List.append_nil]
  · cases h
theorem InsAt.last {x : En} {O N : List En} (h : InsAt x O N O.length false) : N ++ [x] = ins x O := by
  rcases h with ⟨h, _⟩ | ⟨_, h, h2⟩
  · cases h
  · rw [h2, List.drop_length, h]; rfl
theorem OwnsEn.low {w : World} {b b' : Nat} {v : Value} {X : List En} (h : OwnsEn w b v X) (hb : b' ≤ b) : OwnsEn w b' v X :=
  ⟨h.1, by
    rcases h.2 with q | ⟨g, cap, cur, e, hg, r⟩
    · exact .inl q
    · exact .inr ⟨g, cap, cur, e, by omega, r⟩⟩
theorem row1 {w : World} {t : TypeId} (m : En) : ∀ j u, m.cells.toList[j]? = some u → (w.alloc (.cells m.cells t)).cell? ((⟨w.heap.size, 0, none⟩ : Addr).add j) = some u := fun j u h => by
  have e : ((⟨w.heap.size, 0, none⟩ : Addr).add j) = ⟨w.heap.size, j, none⟩ := by unfold Addr.add; split <;> simp_all
  rw [e]
  exact cells_new w m.cells t j u (by rw [← Array.getElem?_toList]; exact h)
def SrOk (es : List En) (w : World) (e : Ending) (w' : World) : Prop := ∃ v, e = .returned v ∧ OwnsEn w' w.heap.size v (srt es) ∧ Below w.heap.size w w'
set_option maxHeartbeats 8000000 in
theorem rsort_c (a : Option Addr) (cap : Nat) (es : List En) (w : World) (h : EntsIn w a es) (hl : es.length ≤ 1000000) : Calls Try.prog 15 #[.slice a es.length cap] w (SrOk es w) := by
  obtain ⟨n, hnn⟩ : ∃ n, n = es.length := ⟨_, rfl⟩
  have HN := hide hnn
  rw [← hnn]
  rw [← hnn] at hl
  have HE := hide h
  have HL := hide hl
  have E0 := hide (OwnsEn.nil w w.heap.size)
  have HP : Hid (∀ v w', OwnsEn w' w.heap.size v (srt es) → Below w.heap.size w w' → SrOk es w (.returned v) w') := hide fun v w' q r => ⟨v, rfl, q, r⟩
  clear h hl hnn
  go_enter Try.func15, Try.ntmps15
  go_wp2_with fail
  go_loopg [3, 4] n (fun gk u3 u4 wx => ∃ i : Nat, i + gk = n ∧ u4 = .int .i64 (i : Int) ∧ Hid (OwnsEn wx w.heap.size u3 (srt (es.take i))) ∧ Hid (Below w.heap.size w wx))
  case atStart => exact ⟨0, by omega, rfl, E0, hide (Below.refl _ _)⟩
  case round =>
    obtain ⟨i, hig, rfl, OX, BX⟩ := hrel
    clear E0
    cases gk with
    | zero =>
      obtain rfl : i = n := by omega
      have hge : ¬ (i : Int) < (i : Int) := by omega
      have e : es.take i = es := by rw [HN.out]; exact List.take_length
      rw [e] at OX
      clear e
      go_wp2_with fail
      go_ret
      exact HP.out _ _ OX.out BX.out
    | succ g1 =>
      have hlt : (i : Int) < (n : Int) := by omega
      have hnI : (n : Int) ≤ 1000000 := by have := HL.out; omega
      have hi : i < es.length := by have := HN.out; omega
      obtain ⟨x, hx⟩ : ∃ m, es[i]? = some m := ⟨_, List.getElem?_eq_getElem hi⟩
      obtain ⟨b1, o1, hb, rfl, a0, a1, a2, a3, a4, a5⟩ := (HE.out.stay BX).six hx
      have A := hide (And.intro a0 (And.intro a1 (And.intro a2 (And.intro a3 (And.intro a4 a5)))))
      have HS := hide (srt_succ hx)
      have HOL := hide (srt_lt es i)
      have IG := hide (And.intro hig hi)
      have HBK := hide hb
      clear a0 a1 a2 a3 a4 a5 hig hi hx hb
      generalize srt (es.take i) = O at *
      obtain ⟨oa, oc, hv, hocl, hon⟩ := OX.out.form
      subst hv
      obtain ⟨W0, hW0⟩ : ∃ W, W = wr := ⟨wr, rfl⟩
      subst hW0
      obtain ⟨q, hq⟩ : ∃ q, q = O.length := ⟨_, rfl⟩
      have HQ := hide hq
      rw [← hq] at OX ⊢
      have hqI : (q : Int) ≤ 1000000 := by have := HOL.out; have := HL.out; have := IG.out; omega
      clear hq hocl hon
      have E1 := hide (OwnsEn.nil W0 W0.heap.size)
      go_wp2_with fail
      go_loopg [5, 6, 7] q (fun gk u5 u6 u7 wx => ∃ (k : Nat) (N : List En) (dn : Bool), k + gk = q ∧ u7 = .int .i64 (k : Int) ∧ u6 = .bool dn ∧ Hid (InsAt x O N k dn) ∧ Hid (OwnsEn wx W0.heap.size u5 N) ∧ Hid (Below W0.heap.size W0 wx))
      case atStart => exact ⟨0, [], false, by omega, rfl, rfl, hide (InsAt.start x O), E1, hide (Below.refl _ _)⟩
      case round =>
        obtain ⟨k, N, dn, hkg, rfl, rfl, IN, OY, BY⟩ := hrel
        clear E1
        obtain ⟨a0, a1, a2, a3, a4, a5⟩ := A.out
        replace a0 := (BY.out.cell (lt_of_cell a0)).trans a0
        replace a1 := (BY.out.cell (lt_of_cell a1)).trans a1
        replace a2 := (BY.out.cell (lt_of_cell a2)).trans a2
        replace a3 := (BY.out.cell (lt_of_cell a3)).trans a3
        replace a4 := (BY.out.cell (lt_of_cell a4)).trans a4
        replace a5 := (BY.out.cell (lt_of_cell a5)).trans a5
        have HNL := hide (show N.length + 1 ≤ 1000000000 by have := IN.out.len; have := HOL.out; have := HL.out; have := IG.out; omega)
        have HNL0 := hide (show N.length ≤ 1000000000 by have := HNL.out; omega)
        cases gk with
        | zero =>
          obtain rfl : k = q := by omega
          have hge : ¬ (k : Int) < (k : Int) := by omega
          cases dn
          · have HFI := hide (by have := IN.out; rw [HQ.out] at this; exact this.last)
            have HO1 : ∀ cs, Hid (OwnsEn (wr.alloc (.cells cs 30)) W0.heap.size u5 N) := fun cs => hide (OY.out.stay ((Below.refl _ wr).alloc (Nat.le_refl _) _))
            have HB1 : ∀ cs, Hid (Below W0.heap.size W0 (wr.alloc (.cells cs 30))) := fun cs => hide (BY.out.alloc BY.out.size _)
            clear hkg IN
            go_wp2_with (first
              | (refine wpList_pushE _ rfl (.tmp 51) (.tmp 56) rfl W0.heap.size _ N (by rfl) (HO1 _).out x wr.heap.size (by rfl) (row1 x) HNL0.out (HB1 _).out.size ?_; intro v3 w3 h3 k3; have O3 := hide h3; have B3 := hide (growE (HO1 _).out (Nat.le_refl _) (HB1 _).out k3); clear h3 k3))
            rw [HFI.out, ← HS.out] at O3
            go_roundg g1
            case measure => omega
            case rel => exact ⟨i + 1, by have := IG.out; omega, by go_num, hide (O3.out.low BX.out.size), hide (BX.out.trans (B3.out.mono BX.out.size))⟩
          · have HFI := hide (by have := IN.out; rw [HQ.out] at this; exact this.done)
            clear hkg IN
            rw [HFI.out, ← HS.out] at OY
            go_wp2_with fail
            go_roundg g1
            case measure => omega
            case rel => exact ⟨i + 1, by have := IG.out; omega, by go_num, hide (OY.out.low BX.out.size), hide (BX.out.trans (BY.out.mono BX.out.size))⟩
        | succ g2 =>
          have hlk : (k : Int) < (q : Int) := by omega
          have hk : k < O.length := by have := HQ.out; omega
          obtain ⟨y, hy⟩ : ∃ m, O[k]? = some m := ⟨_, List.getElem?_eq_getElem hk⟩
          obtain ⟨b2, o2, hb2, rfl, c0, c1, c2, c3, c4, c5⟩ := (OX.out.in_).six hy
          have TY : ∀ V, Below W0.heap.size W0 V → Hid (V.cell? ⟨b2, o2 + k * 6, none⟩ = some (.int .i64 y.kind) ∧ V.cell? ⟨b2, o2 + k * 6 + 1, none⟩ = some (.string y.path) ∧ V.cell? ⟨b2, o2 + k * 6 + 2, none⟩ = some (.string y.target) ∧ V.cell? ⟨b2, o2 + k * 6 + 3, none⟩ = some (.int .i64 y.mode) ∧ V.cell? ⟨b2, o2 + k * 6 + 4, none⟩ = some (.int .i64 y.time) ∧ V.cell? ⟨b2, o2 + k * 6 + 5, none⟩ = some (.string y.data)) := fun V hV =>
            hide ⟨(hV.cell (lt_of_cell c0)).trans c0, (hV.cell (lt_of_cell c1)).trans c1, (hV.cell (lt_of_cell c2)).trans c2, (hV.cell (lt_of_cell c3)).trans c3, (hV.cell (lt_of_cell c4)).trans c4, (hV.cell (lt_of_cell c5)).trans c5⟩
          have TX : ∀ V, Below W0.heap.size W0 V → Hid (V.cell? ⟨b1, o1 + i * 6, none⟩ = some (.int .i64 x.kind) ∧ V.cell? ⟨b1, o1 + i * 6 + 1, none⟩ = some (.string x.path) ∧ V.cell? ⟨b1, o1 + i * 6 + 2, none⟩ = some (.string x.target) ∧ V.cell? ⟨b1, o1 + i * 6 + 3, none⟩ = some (.int .i64 x.mode) ∧ V.cell? ⟨b1, o1 + i * 6 + 4, none⟩ = some (.int .i64 x.time) ∧ V.cell? ⟨b1, o1 + i * 6 + 5, none⟩ = some (.string x.data)) := fun V hV =>
            hide ⟨(hV.cell (lt_of_cell A.out.1)).trans A.out.1, (hV.cell (lt_of_cell A.out.2.1)).trans A.out.2.1, (hV.cell (lt_of_cell A.out.2.2.1)).trans A.out.2.2.1, (hV.cell (lt_of_cell A.out.2.2.2.1)).trans A.out.2.2.2.1, (hV.cell (lt_of_cell A.out.2.2.2.2.1)).trans A.out.2.2.2.2.1, (hV.cell (lt_of_cell A.out.2.2.2.2.2)).trans A.out.2.2.2.2.2⟩
          have KG := hide (And.intro hkg hy)
          have HNL1 := hide (show (N ++ [x]).length ≤ 1000000000 by rw [List.length_append]; have := HNL.out; simp only [List.length_singleton]; omega)
          have hgt := gtr_c 9 y.path x.path
          clear hkg hk hy hb2 a0 a1 a2 a3 a4 a5 c0 c1 c2 c3 c4 c5
          cases dn
          · have k1 := by_cell (TX _ BY.out).out.2.1
            have l1 := by_cell (TY _ BY.out).out.2.1
            go_upto_region 10 with fail
            refine wp_region_below (by kernel_rfl) (by kernel_rfl) ?_
            repeat (refine WQ.step (fun K hK => ?_); go_simp; first | (refine hK _ ?_; clear hK K))
            refine WQ.nil ?_
            rintro w3 ⟨⟨_, hw3⟩, rfl⟩
            have B3 := hide (BY.out.trans (hw3.mono BY.out.size))
            have OY3 := hide (OY.out.stay hw3)
            clear k1 l1 hw3 hgt
            by_cases hg : gtB y.path x.path = true
            · have IN2 := hide (IN.out.put KG.out.2 hg)
              rw [hg]
              clear hg
              obtain ⟨x0, x1, x2, x3, x4, x5⟩ := (TX _ B3.out).out
              go_wp2_with (first
                | (refine wpList_pushE _ rfl (.tmp 35) (.tmp 40) rfl W0.heap.size _ N (by rfl) (OY3.out.stay ((Below.refl _ w3).alloc (Nat.le_refl _) _)) x w3.heap.size (by rfl) (row1 x) HNL0.out (B3.out.alloc B3.out.size _).size ?_; intro v4 w4 h4 k4; have O4 := hide h4; have B4 := hide (growE (OY3.out.stay ((Below.refl _ w3).alloc (Nat.le_refl _) _)) (Nat.le_refl _) (B3.out.alloc B3.out.size _) k4); clear h4 k4; obtain ⟨y0, y1, y2, y3, y4, y5⟩ := (TY _ B4.out).out)
                | (refine wpList_pushE _ rfl (.tmp 42) (.tmp 47) rfl W0.heap.size _ (N ++ [x]) (by rfl) (O4.out.stay ((Below.refl _ w4).alloc (Nat.le_refl _) _)) y w4.heap.size (by rfl) (row1 y) HNL1.out (B4.out.alloc B4.out.size _).size ?_; intro v5 w5 h5 k5; have O5 := hide h5; have B5 := hide (growE (O4.out.stay ((Below.refl _ w4).alloc (Nat.le_refl _) _)) (Nat.le_refl _) (B4.out.alloc B4.out.size _) k5); clear h5 k5))
              go_roundg g2
              case measure => omega
              case rel => exact ⟨k + 1, _, true, by have := KG.out; omega, by go_num, rfl, IN2, O5, B5⟩
            · have IN2 := hide (IN.out.pass KG.out.2 hg)
              rw [Bool.not_eq_true] at hg
              rw [hg]
              clear hg
              obtain ⟨y0, y1, y2, y3, y4, y5⟩ := (TY _ B3.out).out
              go_wp2_with (first
                | (refine wpList_pushE _ rfl (.tmp 42) (.tmp 47) rfl W0.heap.size _ N (by rfl) (OY3.out.stay ((Below.refl _ w3).alloc (Nat.le_refl _) _)) y w3.heap.size (by rfl) (row1 y) HNL0.out (B3.out.alloc B3.out.size _).size ?_; intro v5 w5 h5 k5; have O5 := hide h5; have B5 := hide (growE (OY3.out.stay ((Below.refl _ w3).alloc (Nat.le_refl _) _)) (Nat.le_refl _) (B3.out.alloc B3.out.size _) k5); clear h5 k5))
              go_roundg g2
              case measure => omega
              case rel => exact ⟨k + 1, _, false, by have := KG.out; omega, by go_num, rfl, IN2, O5, B5⟩
          · clear hgt
            go_upto_region 10 with fail
            refine wp_region_below (by kernel_rfl) (by kernel_rfl) ?_
            repeat (refine WQ.step (fun K hK => ?_); go_simp; first | (refine hK _ ?_; clear hK K))
            refine WQ.nil ?_
            rintro w3 ⟨⟨_, hw3⟩, rfl⟩
            have B3 := hide (BY.out.trans (hw3.mono BY.out.size))
            have OY3 := hide (OY.out.stay hw3)
            clear hw3
            have IN2 := hide (IN.out.on KG.out.2)
            obtain ⟨y0, y1, y2, y3, y4, y5⟩ := (TY _ B3.out).out
            go_wp2_with (first
              | (refine wpList_pushE _ rfl (.tmp 42) (.tmp 47) rfl W0.heap.size _ N (by rfl) (OY3.out.stay ((Below.refl _ w3).alloc (Nat.le_refl _) _)) y w3.heap.size (by rfl) (row1 y) HNL0.out (B3.out.alloc B3.out.size _).size ?_; intro v5 w5 h5 k5; have O5 := hide h5; have B5 := hide (growE (OY3.out.stay ((Below.refl _ w3).alloc (Nat.le_refl _) _)) (Nat.le_refl _) (B3.out.alloc B3.out.size _) k5); clear h5 k5))
            go_roundg g2
            case measure => omega
            case rel => exact ⟨k + 1, _, true, by have := KG.out; omega, by go_num, rfl, IN2, O5, B5⟩
end Go.Proofs.Ytlfffpgokemjbaa.U
