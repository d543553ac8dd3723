/- The law on what was written being copied: walked. -/
import Derived.Test.YtlbigbljioffjaaSOpen
import Derived.Test.YtlbigbljioffjaaSEq
import Derived.Laws.BytesArg
namespace Go.Proofs.Ytlbigbljioffjaa.S
set_option maxRecDepth 100000
open Go Go.RowKit

theorem conv_at {w : World} {a : Option Addr} {cap : Nat} {ys : List Nat} (h : TextAt w a ys) : (convert 22 9 (.slice a ys.length cap)).run Try.prog w = .ok (.string (strOfNums (ys.map fun (x : Nat) => (x : Int)))) w := by
  rcases h with h | ⟨b, off, rfl, _, hc⟩
  · obtain rfl : ys = [] := List.eq_nil_of_length_eq_zero h
    cases a with
    | none => exact run_convert_bytes_nil w 22 5 Try.underlying22 Try.underlying5 0 cap 9 Try.underlying9
    | some ad =>
      rw [show ([] : List Nat).length = 0 from rfl, run_convert_bytes_string w 22 9 5 _ 0 cap Try.underlying22 Try.underlying5 Try.underlying9, run_bytesToString w ad 0 cap [] (by simpa using run_loadCells_list (P := Try.prog) w ad [] (by simp))]
      rfl
  · refine run_convert_bytes_arg w 22 5 Try.underlying22 Try.underlying5 b off ys.length cap _ (by simp) (fun i hi => ?_) 9 Try.underlying9
    rw [hc i hi]
    simp [hi]
theorem wpList_appB_if {ops : Array Oper} {rest : List Oper} {o : Oper} {act : Act} {Q : Exit → Act → World → Prop} (w : World) (hw : Region.wanted o (yielded ops act.tmps) = true) (s x : Operand)
    (ho : o.op = .call { callee := .builtin .append, args := #[s, x], argTypes := #[22, 22] })
    (base : Nat) (v : Value) (X : List Nat) (hs : act.eval s = v) (hown : OwnsB w base v X) (a : Option Addr) (len cap : Nat) (hx : act.eval x = .slice a len cap) (Y XY : List Nat) (hXY : X ++ Y = XY) (hl : Y.length = len) (hb : TextAt w a Y)
    (hnone : a = none → len = 0 ∧ cap = 0) (hbound : X.length + len ≤ 140737488355328) (hbase : base ≤ w.heap.size)
    (h : ∀ v' w', OwnsB w' base v' XY → w.grownBy w' v.ownBlock → wpList Try.prog ops Q rest (act.put o.dst v') w') : wpList Try.prog ops Q (o :: rest) act w := by
  obtain ⟨i5, hi5, hz5, hs5, hb5⟩ := info_parts infoB
  subst hXY
  have fin : ∃ v' w', (Builtin.append_ #[22, 22] o.type #[v, .slice a len cap]).run Try.prog w = .ok v' w' ∧ OwnsB w' base v' (X ++ Y) ∧ w.grownBy w' v.ownBlock := by
    cases a with
    | none =>
      obtain ⟨rfl, rfl⟩ := hnone rfl
      have hY := List.eq_nil_of_length_eq_zero hl
      subst hY
      exact ⟨v, w, run_append_owned_none (P := Try.prog) (w := w) base 22 o.type 5 i5 1 Try.underlying22 hi5 v X.length (bV X) hown, by simpa using hown, ⟨rfl, rfl, rfl, Nat.le_refl _, fun _ _ _ => rfl⟩⟩
    | some ad =>
      obtain ⟨v', w', hr, h1, h2, _⟩ := run_append_own (P := Try.prog) w base 22 o.type 5 i5 (.int .u8 0) 1 1 Try.underlying22 hi5 hz5 hs5 hb5 rfl (by decide) v X.length (bV X) hown ad len cap (bV Y) (by simp [bV]; exact hl) (fun j u hj => by
        have hjl : j < Y.length := by
          rcases Nat.lt_or_ge j Y.length with h' | h'
          · exact h'
          · rw [List.getElem?_eq_none (by simpa [bV] using h')] at hj; cases hj
        rcases hb with h0 | ⟨b, off, e, _, hc⟩
        · omega
        · obtain rfl := Option.some.inj e
          rw [addr_plain, hc j hjl, ← hj]
          simp [bV, hjl]) (bV_one Y) (by unfold maxLen; omega) (by omega) hbase
      refine ⟨v', w', hr, ?_, h2⟩
      unfold OwnsB
      rw [List.length_append, hl, bV_app]
      exact h1
  obtain ⟨v', w', hr, h1, h2⟩ := fin
  refine wpList_step fun _ hK => ?_
  rw [if_pos hw]
  unfold Oper.wp execOp
  simp only [ho, resolve, invoke, builtin, Sem.run_bind, Sem.run_pure, Result.andThen_ok, List.map_toArray, List.map_cons, List.map_nil, hs, hx, hr]
  exact hK _ _ (h v' w' h1 h2)
/-- A hash in memory while a law goes on. -/
structure HW (w w1 wx : World) (bh : Nat) (xs : List Nat) : Prop where
  hash : HashAt wx bh xs
  bel : Below w.heap.size w wx
  size : w1.heap.size ≤ wx.heap.size
theorem HW.stay {w w1 wx wy : World} {bh : Nat} {xs : List Nat} (h : HW w w1 wx bh xs) (hk : Below wx.heap.size wx wy) : HW w w1 wy bh xs :=
  ⟨h.hash.below hk h.hash.lt, h.bel.trans (hk.mono h.bel.size), Nat.le_trans h.size hk.size⟩
theorem HW.kept {w w1 wx wy : World} {bh g : Nat} {xs : List Nat} (h : HW w w1 wx bh xs) (h1 : bh < w1.heap.size) (hw : w.heap.size ≤ w1.heap.size) (hk : Kept (fun k => k = g) wx wy) (hg : w1.heap.size ≤ g) : HW w w1 wy bh xs :=
  ⟨h.hash.kept hk (by omega), h.bel.trans (hk.below h.bel.size (fun i hi e => by omega)), Nat.le_trans h.size hk.size⟩
theorem HW.grown {w w1 wx wy : World} {bh : Nat} {xs zs : List Nat} {v : Value} (h : HW w w1 wx bh xs) (h1 : bh < w1.heap.size) (hw : w.heap.size ≤ w1.heap.size) (ho : OwnsB wx w1.heap.size v zs) (hg : wx.grownBy wy v.ownBlock) : HW w w1 wy bh xs :=
  ⟨h.hash.kept (Kept.of_grown hg) (fun e => by have := (ownsRow_lt ho e.symm).1; omega), h.bel.trans ((Kept.of_grown hg).below h.bel.size (fun i hi e => by have := (ownsRow_lt ho e.symm).1; omega)), Nat.le_trans h.size hg.size⟩

/-- A row of one's own whose places hold some bytes. -/
def Flip (n : Nat) (a : Option Addr) (w1 wx : World) : Prop := n = 0 ∨ ∃ g cur, a = some ⟨g, 0, none⟩ ∧ w1.heap.size ≤ g ∧ wx.heap[g]? = some (.cells cur 5 (0, 0)) ∧ ∀ j, j < n → ∃ u, cur[j]? = some (.int .u8 u)
theorem Flip.of {w1 wx : World} {a : Option Addr} {c : Nat} {xs : List Nat} (h : OwnsB wx w1.heap.size (.slice a xs.length c) xs) : Flip xs.length a w1 wx := by
  rcases h.2 with ⟨_, h2⟩ | ⟨g, cap, cur, e, hb, hh, _⟩
  · exact .inl h2
  · simp only [Value.slice.injEq] at e
    obtain ⟨rfl, _, rfl⟩ := e
    refine .inr ⟨g, cur, rfl, hb, hh, fun j hj => ⟨(xs.getD j 0 : Nat), ?_⟩⟩
    have := World.ownsRow.cellAt h j (by omega)
    rw [cells_of hh] at this
    rw [this]
    simp [bV, hj]
theorem Flip.set {n : Nat} {w1 wx : World} {g : Nat} {cur : Array Value} (hg : w1.heap.size ≤ g) (hh : wx.heap[g]? = some (.cells cur 5 (0, 0))) (hc : ∀ j, j < n → ∃ u, cur[j]? = some (.int .u8 u)) (k : Nat) (R : Int) : Flip n (some ⟨g, 0, none⟩) w1 (wx.setCell ⟨g, k, none⟩ (.int .u8 R)) := by
  refine .inr ⟨g, _, rfl, hg, set_of hh k _, fun j hj => ?_⟩
  obtain ⟨u, hu⟩ := hc j hj
  rw [Array.getElem?_setIfInBounds]
  by_cases e : k = j
  · subst e
    have : k < cur.size := by
      rcases Nat.lt_or_ge k cur.size with h' | h'
      · exact h'
      · rw [Array.getElem?_eq_none h'] at hu; cases hu
    rw [if_pos rfl, if_pos this]
    exact ⟨R, rfl⟩
  · rw [if_neg e]; exact ⟨u, hu⟩
theorem ref_own {w w1 wx : World} {bh : Nat} {v : Value} {zs : List Nat} (o : OwnsB wx w1.heap.size v zs) (hb : By zs) (hl : zs.length ≤ 140737488351232) (q : HW w w1 wx bh zs) :
    Calls Try.prog 9 #[v] wx fun e w' => e = .returned (.agg (oA (sum zs) 20)) ∧ HW w w1 w' bh zs := by
  obtain ⟨a, c, rfl, _, _, hn⟩ := o.form
  exact (rsum_c a c zs wx hb o.text hn hl).mono fun _ _ ⟨he, hb⟩ => ⟨he, q.stay hb⟩
set_option maxHeartbeats 4000000 in
theorem keeps_walk (a b : Option Addr) (ca cb : Nat) (xs ys : List Nat) (w : World) (hx : BIn w a ca xs) (hy : BIn w b cb ys) (hxl : xs.length ≤ 1048576) (hyl : ys.length ≤ 1048576) :
    Calls Try.prog 6 #[.slice a xs.length ca, .slice b ys.length cb] w (Yes w) := by
  have HX := hide hx
  have HY := hide hy
  clear hx hy
  obtain ⟨n, hn⟩ : ∃ n, n = xs.length := ⟨_, rfl⟩
  obtain ⟨m, hm⟩ : ∃ m, m = ys.length := ⟨_, rfl⟩
  have HN := hide hn
  have HM := hide hm
  rw [← hn] at hxl ⊢
  rw [← hm] at hyl ⊢
  clear hn hm
  go_enter Try.func6, Try.ntmps6
  go_upto_region 4 with (go_at_call 10; refine (new_c _).mono ?_; rintro e w1 ⟨bh, rfl, h1, h2, h3⟩; have HP0 := hide (⟨h2, h3, Nat.le_refl _⟩ : HW w w1 w1 bh []); have hb1 := h2.lt; have hb0 := h1; have hww := h3.size; clear h1 h2 h3)
  have E0 := hide (OwnsB.empty w1 w1.heap.size (Nat.le_refl _))
  have P1 := hide (HP0.out.stay ((Below.refl _ w1).alloc (Nat.le_refl _) (.cells #[] 5)))
  have HNI := hide (show a = none → n = 0 ∧ ca = 0 by rw [HN.out]; exact HX.out.nil)
  have HMI := hide (show b = none → m = 0 ∧ cb = 0 by rw [HM.out]; exact HY.out.nil)
  go_upto_region 5 with (refine wpList_appB _ rfl (.tmp 11) (.tmp 12) rfl w1.heap.size (.slice (some ⟨w1.heap.size, 0, none⟩) 0 0) [] (by rfl) E0.out a n ca (by rfl) xs xs (by rfl) HN.out.symm (HX.out.text.below P1.out.bel) HNI.out (by simp; omega) (by simp) ?_; intro v6 w2 h2 k2; have O2 := hide h2; have P2 := hide (P1.out.grown hb1 hww E0.out k2); clear h2 k2)
  obtain ⟨a6, c6, rfl, hc6, hm6, hn6⟩ := O2.out.form
  have hm6' : c6 ≤ 9223372036854775807 := by unfold maxLen at hm6; omega
  rw [← HN.out] at O2 hc6 ⊢
  have HWR : Hid (Calls Try.prog 11 #[.pointer (some ⟨bh, 0, none⟩), .slice a6 n c6] w2 fun e w' => e = .returned (.tuple #[]) ∧ HashAt w' bh xs ∧ Kept (fun k => k = bh) w2 w') := by
    rw [HN.out]
    refine write_c bh a6 c6 [] xs w2 P2.out.hash HX.out.by_ ?_ (by rw [← HN.out]; exact hc6) hm6' (by rw [← HN.out]; simp; omega)
    rcases O2.out.bs with h | ⟨g, e, h1, h2, h3⟩
    · exact .inl h
    · exact .inr ⟨g, 0, e, h2, by omega, h3⟩
  clear hn6 hm6
  go_upto_region 6 with (go_at_call 11; refine HWR.out.mono ?_; rintro e w3 ⟨rfl, h3, k3⟩; have H3 := hide h3; have K3 := hide k3; clear h3 k3)
  have P3 : Hid (HW w w1 w3 bh xs) := ⟨H3.out, P2.out.bel.trans (K3.out.below P2.out.bel.size (fun i hi e => by omega)), Nat.le_trans P2.out.size K3.out.size⟩
  have O3 : Hid (OwnsB w3 w1.heap.size (.slice a6 n c6) xs) := ownsRow_kept O2.out K3.out (fun g hg e => by have := (ownsRow_lt O2.out hg).1; omega)
  have hv1 : (convert 22 9 (.slice a6 n c6)).run Try.prog w3 = .ok (.string (strOfNums (xs.map fun (x : Nat) => (x : Int)))) w3 := by rw [HN.out]; exact conv_at O3.out.text
  have hv2 : (convert 22 9 (.slice a n ca)).run Try.prog w3 = .ok (.string (strOfNums (xs.map fun (x : Nat) => (x : Int)))) w3 := by rw [HN.out]; exact conv_at (HX.out.text.below P3.out.bel)
  generalize strOfNums (xs.map fun (x : Nat) => (x : Int)) = str at hv1 hv2
  clear H3 K3 HWR P2 O2 E0 P1 HP0
  go_wp2_with fail
  have F3 : Hid (Flip n a6 w1 w3) := by
    have h := O3.out
    rw [HN.out] at h ⊢
    exact Flip.of h
  clear hv1 hv2 O3
  go_loopg [24] n (fun gk v24 wx => ∃ k : Nat, k + gk = n ∧ v24 = .int .i64 k ∧ Hid (Flip n a6 w1 wx) ∧ Hid (HW w w1 wx bh xs))
  case atStart => exact ⟨0, by omega, rfl, F3, P3⟩
  case round =>
    obtain ⟨k, hkg, rfl, FX, PX⟩ := hrel
    clear F3 P3
    cases gk with
    | zero =>
      obtain rfl : k = n := by omega
      have hge : ¬ (k : Int) < (k : Int) := by omega
      have HWR : Hid (Calls Try.prog 11 #[.pointer (some ⟨bh, 0, none⟩), .slice b m cb] wr fun e w' => e = .returned (.tuple #[]) ∧ HashAt w' bh (xs ++ ys) ∧ Kept (fun k => k = bh) wr w') := by
        rw [HM.out]
        refine write_c bh b cb xs ys wr PX.out.hash HY.out.by_ ?_ HY.out.cap_ HY.out.most (by rw [← HN.out, ← HM.out]; omega)
        rcases HY.out.text with h | ⟨b2, o2, e, hb2, hs2⟩
        · exact .inl h
        · exact .inr ⟨b2, o2, e, Nat.lt_of_lt_of_le hb2 PX.out.bel.size, by omega, hs2.below PX.out.bel hb2⟩
      go_upto_region 14 with (go_at_call 11; refine HWR.out.mono ?_; rintro e w4 ⟨rfl, h4, k4⟩; have P4 := hide (⟨h4, PX.out.bel.trans (k4.below PX.out.bel.size (fun i hi e => by omega)), Nat.le_trans PX.out.size k4.size⟩ : HW w w1 w4 bh (xs ++ ys)); clear h4 k4)
      have hzl : (xs ++ ys).length ≤ 140737488351232 := by rw [List.length_append, ← HN.out, ← HM.out]; omega
      have HSU := fun W (q : HW w w1 W bh (xs ++ ys)) => hide ((hsum_c bh (xs ++ ys) W q.hash (by omega)).mono fun e w' (h : e = .returned (.agg (oA (sum (xs ++ ys)) 20)) ∧ Below W.heap.size W w') => (⟨h.1, q.stay h.2⟩ : e = .returned (.agg (oA (sum (xs ++ ys)) 20)) ∧ HW w w1 w' bh (xs ++ ys)))
      have HRE := fun W v (o : OwnsB W w1.heap.size v (xs ++ ys)) (q : HW w w1 W bh (xs ++ ys)) => hide (ref_own o (HX.out.by_.append HY.out.by_) hzl q)
      have heq := fun W => eq20 (sum (xs ++ ys)) W
      generalize oA (sum (xs ++ ys)) 20 = oc at HSU HRE heq
      clear HWR FX PX
      go_wp2_with (first
        | (go_at_call 7; refine (alive_c _).mono ?_; rintro e w5 ⟨rfl, b5⟩; have P5 := hide (P4.out.stay b5); clear b5)
        | (go_at_call 12; refine (HSU _ P5.out).out.mono ?_; rintro e w6 ⟨rfl, p6⟩; have P6 := hide p6; have E6 := hide (OwnsB.empty w6 w1.heap.size p6.size); have P6' := hide (p6.stay ((Below.refl _ w6).alloc (Nat.le_refl _) (.cells #[] 5))); clear p6)
        | (refine wpList_appB_if _ (by rfl) (.tmp 43) (.tmp 44) rfl w1.heap.size (.slice (some ⟨w6.heap.size, 0, none⟩) 0 0) [] (by rfl) E6.out a k ca (by rfl) xs xs (by rfl) HN.out.symm (HX.out.text.below P6'.out.bel) HNI.out (by simp; omega) P6'.out.size ?_; intro v7 w7 h7 k7; have O7 := hide h7; have P7 := hide (P6'.out.grown hb1 hww E6.out k7); clear h7 k7)
        | (refine wpList_appB_if _ (by rfl) (.tmp 45) (.tmp 46) rfl w1.heap.size v7 xs (by rfl) O7.out b m cb (by rfl) ys (xs ++ ys) rfl HM.out.symm (HY.out.text.below P7.out.bel) HMI.out (by rw [← HN.out]; omega) P7.out.size ?_; intro v8 w8 h8 k8; have O8 := hide h8; have P8 := hide (P7.out.grown hb1 hww O7.out k8); clear h8 k8)
        | (go_at_call 9; refine (HRE _ _ O8.out P8.out).out.mono ?_; rintro e w9 ⟨rfl, p9⟩; have P9 := hide p9; clear p9))
      go_ret
      exact ⟨rfl, P9.out.bel⟩
    | succ g1 =>
      have hlt : (k : Int) < (n : Int) := by omega
      obtain ⟨g, cur, rfl, hg, hh, hcs⟩ := FX.out.resolve_left (by omega)
      obtain ⟨u, hu⟩ := hcs k (by omega)
      have hcl := (cells_of hh k).trans hu
      have hfr := free_of hh k
      obtain ⟨R, hR⟩ : ∃ R, bits .xor .u8 (if IntKind.u8.signed = true then -1 else IntKind.u8.max) u = R := ⟨_, rfl⟩
      have i0 : (0 : Int) ≤ (k : Int) := by omega
      have hF : Hid (Flip n (some ⟨g, 0, none⟩) w1 (wr.setCell ⟨g, k, none⟩ (.int .u8 R))) := Flip.set hg hh hcs k R
      have hP := hide (PX.out.kept hb1 hww (Kept.setCell (M := fun k => k = g) (Kept.refl _ wr) (p := ⟨g, k, none⟩) (fun _ => rfl) (.int .u8 R)) hg)
      clear hh hcs hu
      go_wp2_with fail
      go_roundg g1
      case measure => omega
      case rel => exact ⟨k + 1, by omega, by go_num, hF, hP⟩
end Go.Proofs.Ytlbigbljioffjaa.S
