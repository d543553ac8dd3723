/- The reference's Inflate: contract. -/
import Derived.Test.YtlakgbckopjelabGreatDoorG34PInf
namespace Go.Proofs.YtlakgbckopjelabGreatDoor
set_option maxRecDepth 100000
open Go Go.RowKit

/-- The state of the reference's Inflate, at g; the row ahead of it, what was told behind it. -/
structure JS (g : Nat) (w wx : World) (a : Option Addr) (L : List Int) (ac : Nat) (p : Int) (o : Option Addr) (oc : Nat) (m e : Int) (out : List Int) : Prop where
  s0 : wx.heap[g]? = some (.cells (sA a L.length ac p o out.length oc m e) 63 (0, 0))
  row : Ints w.heap.size g wx a L
  own : OwnsB wx (g + 1) (.slice o out.length oc) out
  bel : Below w.heap.size w wx
  wg : w.heap.size ≤ g
structure JE (g : Nat) (w wx : World) (u : Array Value) : Prop where
  s0 : wx.heap[g]? = some (.cells u 63 (0, 0))
  bel : Below w.heap.size w wx
  wg : w.heap.size ≤ g
section
variable {g : Nat} {w wx wy w1 : World} {a : Option Addr} {L : List Int} {ac : Nat} {p : Int} {o : Option Addr} {oc : Nat} {m e : Int} {out : List Int} {u : Array Value}
theorem JS.lt (h : JS g w wx a L ac p o oc m e out) : g < wx.heap.size := lt_of_block h.s0
theorem JS.je (h : JS g w wx a L ac p o oc m e out) : JE g w wx (sA a L.length ac p o out.length oc m e) := ⟨h.s0, h.bel, h.wg⟩
theorem JE.lt (h : JE g w wx u) : g < wx.heap.size := lt_of_block h.s0
theorem JS.stay (h : JS g w wx a L ac p o oc m e out) (k : Below wx.heap.size wx wy) : JS g w wy a L ac p o oc m e out := by
  have hz := h.lt
  exact ⟨(k.block _ hz).trans h.s0, h.row.stay k, h.own.below k, h.bel.trans (k.mono h.bel.size), h.wg⟩
theorem JE.stay (h : JE g w wx u) (k : Below wx.heap.size wx wy) : JE g w wy u := ⟨(k.block _ h.lt).trans h.s0, h.bel.trans (k.mono h.bel.size), h.wg⟩
theorem JS.set {p2 e2 : Int} (h : JS g w wx a L ac p o oc m e out) (h2 : wy.heap[g]? = some (.cells (sA a L.length ac p2 o out.length oc m e2) 63 (0, 0))) (k : Kept (fun i => i = g) wx wy) : JS g w wy a L ac p2 o oc m e2 out := by
  have hz := h.wg
  have hs := h.bel.size
  exact ⟨h2, h.row.kept k (fun b h1 h2 e' => by omega), ownsRow_kept h.own k (fun x hx e' => by have := (ownsRow_lt h.own hx).1; omega), h.bel.trans (k.below hs (fun i hi e' => by omega)), h.wg⟩
theorem JE.set {u2 : Array Value} (h : JE g w wx u) (h2 : wy.heap[g]? = some (.cells u2 63 (0, 0))) (k : Kept (fun i => i = g) wx wy) : JE g w wy u2 := by
  have hz := h.wg
  exact ⟨h2, h.bel.trans (k.below h.bel.size (fun i hi e' => by omega)), h.wg⟩
/-- Behind a callee that was handed the state. -/
theorem JS.called (h : JS g w wx a L ac p o oc m e out) (k : Kept (fun b => (Value.slice o out.length oc).ownBlock = some b) wx w1) : JE g w w1 (sA a L.length ac p o out.length oc m e) := by
  have hz := h.wg
  refine ⟨k.heap h.s0 (ownsRow_apart h.own h.s0 (by decide)), h.bel.trans (k.below h.bel.size (fun i hi e' => ?_)), h.wg⟩
  have := (ownsRow_lt h.own e').1
  omega
theorem JS.call {p2 : Int} {o2 : Option Addr} {oc2 : Nat} {out2 : List Int} (h : JS g w wx a L ac p o oc m e out) (k : Kept (fun b => (Value.slice o out.length oc).ownBlock = some b) wx w1) (ow : OwnsB w1 (g + 1) (.slice o2 out2.length oc2) out2)
    (hs : wy.heap[g]? = some (.cells (sA a L.length ac p2 o2 out2.length oc2 m 0) 63 (0, 0))) (hk : Kept (fun i => i = g) w1 wy) : JS g w wy a L ac p2 o2 oc2 m 0 out2 := by
  have hE := h.called k
  have hz := h.wg
  refine ⟨hs, (h.row.kept k (fun b h1 h2 e' => by have := (ownsRow_lt h.own e').1; omega)).kept hk (fun b h1 h2 e' => by omega), ownsRow_kept ow hk (fun x hx e' => by have := (ownsRow_lt ow hx).1; omega), (hE.set hs hk).bel, h.wg⟩
theorem JS.new {M : Int} (h : Owns w1 w.heap.size (.slice a L.length ac) L) (k : Below w.heap.size w w1) : JS w1.heap.size w (w1.alloc (.cells #[.slice a L.length ac, .int .i64 0, .slice none 0 0, .int .i64 M, .int .i64 0] 63)) a L ac 0 none 0 M 0 [] := by
  refine ⟨heap_new _ _, ?_, OwnsB.nil _ _, k.alloc k.size _, k.size⟩
  obtain ⟨a', c', hv, hc⟩ := h.form
  cases hv
  by_cases h0 : 0 < L.length
  · obtain ⟨g, _, h1, h2, rfl, h3⟩ := hc h0
    refine Ints.stay (.inr ⟨g, 0, h1, h2, h2, rfl, fun i hi => ?_⟩) ((Below.refl _ _).alloc (Nat.le_refl _) _)
    rw [Nat.zero_add]
    exact h3 i hi
  · exact .inl (by omega)
/-- A state's load and store, one turn of a region that draws its order. -/
theorem st_loadO {op : Oper} {act : Act} {w : World} {K : Act → World → Prop} {Q : Exit → Act → World → Prop} (x : Operand) (ho : op.op = .load 63 x)
    (g : Nat) (hx : act.eval x = .pointer (some ⟨g, 0, none⟩)) (a o : Option Addr) (al ac ol oc : Nat) (p m e : Int) (fr : Nat × Nat) (hg : w.heap[g]? = some (.cells (sA a al ac p o ol oc m e) 63 fr))
    (h : K (act.put op.dst (.agg (sA a al ac p o ol oc m e))) w) : Oper.wp Tryz.prog op act w K Q := by
  unfold Oper.wp execOp
  simp only [ho, hx, Instr.loadAt, Instr.sureAddr, Sem.run_bind, Sem.run_pure, Result.andThen_ok, run_loadVar_row w g 63 63 (sA a al ac p o ol oc m e) fr _ hg Tryz.underlying63 rfl infoS]
  exact h
theorem st_storeO {op : Oper} {act : Act} {w : World} {K : Act → World → Prop} {Q : Exit → Act → World → Prop} (x y : Operand) (ho : op.op = .store 63 x y)
    (g : Nat) (hx : act.eval x = .pointer (some ⟨g, 0, none⟩)) (a o : Option Addr) (al ac ol oc : Nat) (p m e : Int) (hy : act.eval y = .agg (sA a al ac p o ol oc m e)) (old : Array Value) (hs : old.size = 5) (hg : w.heap[g]? = some (.cells old 63 (0, 0)))
    (h : ∀ w2 : World, w2.heap[g]? = some (.cells (sA a al ac p o ol oc m e) 63 (0, 0)) → Kept (fun i => i = g) w w2 → K (act.put op.dst undef) w2) : Oper.wp Tryz.prog op act w K Q := by
  unfold Oper.wp execOp
  simp only [ho, hx, hy, Instr.storeAt, Instr.sureAddr, Sem.run_bind, Sem.run_pure, Result.andThen_ok, run_storeVar_row w g 63 63 old (sA a al ac p o ol oc m e) hg infoS (by rw [hs]; rfl) (by simp [sA, Value.oneCell'])]
  exact h _ (setRow_heap w g _ _ _ _ hg) (kept_setRow _ _ _)
theorem JS.drew (h : JS g w wx a L ac p o oc m e out) : JS g w wx.drew a L ac p o oc m e out := ⟨h.s0, h.row, h.own, ⟨h.bel.os, h.bel.tape, h.bel.output, h.bel.size, h.bel.block⟩, h.wg⟩
theorem ints_own {B : Nat} {ls : List Int} {c : Nat} (h : Owns w1 B (.slice a ls.length c) ls) : Ints 0 w1.heap.size w1 a ls := by
  obtain ⟨a', c', hv, hc⟩ := h.form
  cases hv
  by_cases h0 : 0 < ls.length
  · obtain ⟨g, _, h1, h2, rfl, h3⟩ := hc h0
    refine .inr ⟨g, 0, Nat.zero_le _, h2, h2, rfl, fun i hi => ?_⟩
    rw [Nat.zero_add]
    exact h3 i hi
  · exact .inl (by omega)
end
/-- At a block's beginning. -/
def JRel (g : Nat) (w : World) (a : Option Addr) (L : List Int) (ac most : Nat) (R : Except Int (Nat × List Int)) (gk : Nat) (v : Int) (wx : World) : Prop :=
  (∃ (p : Nat) (out : List Int) (o : Option Addr) (oc : Nat), v = 0 ∧ p + gk = L.length + 1 ∧ p ≤ L.length ∧ iBy most out ∧ R = iLoop L.length (iBlk (lb L) L.length most) p out ∧ JS g w wx a L ac (p : Int) o oc most 0 out)
  ∨ (∃ (p : Nat) (out : List Int) (o : Option Addr) (oc : Nat), ¬ v = 0 ∧ p ≤ L.length ∧ R = .ok (p, out) ∧ JS g w wx a L ac (p : Int) o oc most 0 out)
  ∨ (∃ (e q : Int) (o : Option Addr) (ol oc : Nat), 60 ≤ e ∧ R = .error e ∧ JE g w wx (sA a L.length ac q o ol oc most e))
theorem inf_done {g : Nat} {w wx : World} {a : Option Addr} {L : List Int} {ac : Nat} {p : Nat} {o : Option Addr} {oc : Nat} {m : Int} {out : List Int} {R : Except Int (Nat × List Int)} (h : JS g w wx a L ac (p : Int) o oc m 0 out) (hR : R = .ok (p, out)) (q : Nat) : InfOk w (iRes R) (.returned (.tuple #[.slice o out.length oc, .int .i64 (((p : Int) + 7) / 8), .int .i64 0])) (wx.drewN q) := by
  subst hR
  have hz := h.wg
  rw [show ((p : Int) + 7) / 8 = (((p + 7) / 8 : Nat) : Int) by omega]
  refine ⟨o, oc, rfl, ?_, h.bel.os, h.bel.tape, h.bel.output, h.bel.size, h.bel.block⟩
  obtain ⟨q1, q2⟩ := h.own
  refine ⟨q1, ?_⟩
  rcases q2 with q2 | ⟨g', c', cur, hv, hg, r⟩
  · exact .inl q2
  · exact .inr ⟨g', c', cur, hv, by omega, r⟩
theorem inf_fail {g : Nat} {w wx : World} {u : Array Value} {e : Int} {R : Except Int (Nat × List Int)} (h : JE g w wx u) (hR : R = .error e) (q : Nat) : InfOk w (iRes R) (.returned (.tuple #[.slice none 0 0, .int .i64 0, .int .i64 e])) (wx.drewN q) := by
  subst hR
  exact ⟨none, 0, rfl, OwnsB.nil _ _, h.bel.os, h.bel.tape, h.bel.output, h.bel.size, h.bel.block⟩

set_option maxHeartbeats 16000000 in
theorem rinf_c (a0 : Option Addr) (cap0 : Nat) (zs : List Int) (most : Int) (w : World) (ht : Text w.heap.size w a0 zs.length zs) (hl : zs.length ≤ 100000) (hm : most ≤ 1000000) :
    Calls Tryz.prog 13 #[.slice a0 zs.length cap0, .int .i64 most] w (InfOk w (iAns zs most.toNat)) := by
  obtain ⟨M, hM⟩ : ∃ M : Nat, most.toNat = M := ⟨_, rfl⟩
  have hmx : (if most < 0 then (0 : Int) else most) = (M : Int) := by split <;> omega
  have hmM : M ≤ 1000000 := by omega
  rw [hM]
  obtain ⟨R, hR⟩ : ∃ R, R = iInf (ib zs) (8 * zs.length) M := ⟨_, rfl⟩
  have HANS : Hid (iAns zs M = iRes R) := by rw [hR]; exact rfl
  rw [HANS.out]
  have HRW := hide (row_any w.heap.size a0 zs.length cap0 zs w ht (by omega) (Nat.le_refl _))
  obtain ⟨L, hLd⟩ : ∃ L, rowOf zs = L := ⟨_, rfl⟩
  have hLl : L.length = 8 * zs.length := by rw [← hLd, rowOf_length]
  have hL : L.length ≤ 1000000 := by omega
  have HB : Hid (Bin L) := by rw [← hLd]; exact bin_rowOf zs
  have HR0 : Hid (R = iLoop L.length (iBlk (lb L) L.length M) 0 []) := by rw [hR, ← hLd, lb_row, rowOf_length]; exact rfl
  have h8 : L.length % 8 = 0 := by omega
  rw [hLd] at HRW
  clear ht hR hLd hM hLl
  go_enter Tryz.func13, Tryz.ntmps13
  go_wp2_with (go_at_call 29; refine HRW.out.mono ?_; rintro x w1 ⟨v1, rfl, ow, b1⟩; obtain ⟨a, ac, rfl, hcl⟩ := ow.form; have OW := hide ow; have B1 := hide b1; clear ow b1 hcl HRW)
  have H0 : Hid (JS w1.heap.size w (w1.alloc (.cells #[.slice a L.length ac, .int .i64 0, .slice none 0 0, .int .i64 (M : Int), .int .i64 0] 63)) a L ac 0 none 0 M 0 []) := JS.new OW.out B1.out
  obtain ⟨g, hg⟩ : ∃ g, g = w1.heap.size := ⟨_, rfl⟩
  rw [← hg] at H0 ⊢
  clear OW B1
  go_loopg [8, 9] (L.length + 1) (fun gk v8 v9 wx => ∃ v : Int, v8 = .int .i64 v ∧ Hid (JRel g w a L ac M R gk v wx))
  case atStart => exact ⟨0, rfl,   .inl ⟨0, [], none, 0, rfl, by omega, Nat.zero_le _, ⟨Nat.zero_le _, fun x hx => absurd hx (by simp)⟩, HR0.out, H0.out⟩⟩
  case round =>
    obtain ⟨v, rfl, hst⟩ := hrel
    clear H0 HR0 hg
    rcases hst.out with ⟨p, out, o, oc, rfl, hpg, hpT, hby, hRL, hJ⟩ | ⟨p, out, o, oc, hv, hpT, hRE, hJ⟩ | ⟨e, q, o, ol, oc, he, hRE, hJ⟩
    case inr.inl =>
      have HJ := hide hJ
      have HR := hide hRE
      have hz := hJ.lt
      have c1 := cells_of hJ.s0 1
      have c2 := cells_of hJ.s0 2
      have c4 := cells_of hJ.s0 4
      simp [sA] at c1 c2 c4
      clear hst hJ hRE
      go_upto_region 18 with fail
      go_quiet (fail)
      go_wp2_with fail
      go_returns
      exact inf_done HJ.out HR.out _
    case inr.inr =>
      have HJ := hide hJ
      have HR := hide hRE
      have hz := hJ.lt
      have c4 := cells_of hJ.s0 4
      simp [sA] at c4
      have hne : ¬ e = 0 := by omega
      clear hst hJ hRE
      by_cases hv : v = 0
      all_goals
        go_upto_region 17 with fail
        go_quiet (fail)
        go_wp2_with fail
        go_returns
        exact inf_fail HJ.out HR.out _
    have HJ := hide hJ
    have HRL := hide hRL
    have zz := hJ.lt
    have c4 := cells_of hJ.s0 4
    simp [sA] at c4
    have HBY := hide hby
    have hol := hby.1
    clear hst hJ hRL hby
    rcases h1 : iTk (lb L) L.length p 1 with e | ⟨q1, l⟩
    · obtain rfl := iTk_e h1
      have HR : Hid (R = .error 60) := HRL.out.trans (iLoop_err (by unfold iBlk; rw [iThen_of_err h1]))
      have HC1 := fun w' => hide (rbits_bad (a := a) (o := o) (ac := ac) (ol := out.length) (oc := oc) (m := (M : Int)) (w := w') hpT (by decide) h1 1 rfl)
      have HC2 := fun w' => hide (rbits_no a o L.length ac out.length oc p 2 (M : Int) 60 w' (by decide) hpT (.inl (by decide)))
      clear h1 HRL
      go_upto_region 6 with (first
        | (refine st_load rfl (.tmp 7) rfl g (by rfl) a o L.length ac out.length oc _ M 0 (0, 0) HJ.out.s0 ?_)
        | (go_at_call 30; refine (HC1 _).out.mono ?_; rintro x wb ⟨rfl, hbb⟩; have J1 := hide (HJ.out.stay hbb); clear hbb HJ HC1)
        | (refine st_store rfl (.tmp 7) (.tmp 25) rfl g (by rfl) a o L.length ac out.length oc _ M 60 (by rfl) _ (by rfl) J1.out.s0 ?_; intro wz hgz hkz; have J2 := hide (J1.out.set hgz hkz); clear c4 zz; have c4 := cells_of J2.out.s0 4; simp [sA] at c4; have zz := J2.out.lt; clear hgz hkz J1))
      go_upto_region 7 with (first
        | (refine st_load rfl (.tmp 7) rfl g (by rfl) a o L.length ac out.length oc _ M 60 (0, 0) J2.out.s0 ?_)
        | (go_at_call 30; refine (HC2 _).out.mono ?_; rintro x wb ⟨rfl, hbb⟩; have J3 := hide (J2.out.stay hbb); clear hbb J2 HC2)
        | (refine st_store rfl (.tmp 7) (.tmp 30) rfl g (by rfl) a o L.length ac out.length oc _ M 60 (by rfl) _ (by rfl) J3.out.s0 ?_; intro wz hgz hkz; have J4 := hide (J3.out.set hgz hkz); clear c4 zz; have c4 := cells_of J4.out.s0 4; simp [sA] at c4; have zz := J4.out.lt; clear hgz hkz J3))
      go_upto_region 17 with fail
      go_quiet (fail)
      go_wp2_with fail
      go_returns
      exact inf_fail J4.out.je HR.out _
    obtain ⟨hq1, hq1l, -⟩ := iTk_got h1
    have hq1T : q1 ≤ L.length := by omega
    have HC1 := fun w' (hi' : Ints w.heap.size g w' a L) => hide (rbits_got (o := o) (ac := ac) (ol := out.length) (oc := oc) (m := (M : Int)) hL HB.out hi' (by decide) h1 1 rfl)
    rcases h2 : iTk (lb L) L.length q1 2 with e | ⟨q2, kind⟩
    · obtain rfl := iTk_e h2
      have HR : Hid (R = .error 60) := HRL.out.trans (iLoop_err (by unfold iBlk; rw [iThen_of_ok h1, iThen_of_err h2]))
      have HC2 := fun w' => hide (rbits_bad (a := a) (o := o) (ac := ac) (ol := out.length) (oc := oc) (m := (M : Int)) (w := w') hq1T (by decide) h2 2 rfl)
      clear h1 h2 HRL hq1 hq1l
      go_upto_region 6 with (first
        | (refine st_load rfl (.tmp 7) rfl g (by rfl) a o L.length ac out.length oc _ M 0 (0, 0) HJ.out.s0 ?_)
        | (go_at_call 30; refine (HC1 _ HJ.out.row).out.mono ?_; rintro x wb ⟨rfl, hbb⟩; have J1 := hide (HJ.out.stay hbb); clear hbb HJ HC1)
        | (refine st_store rfl (.tmp 7) (.tmp 25) rfl g (by rfl) a o L.length ac out.length oc _ M 0 (by rfl) _ (by rfl) J1.out.s0 ?_; intro wz hgz hkz; have J2 := hide (J1.out.set hgz hkz); clear c4 zz; have c4 := cells_of J2.out.s0 4; simp [sA] at c4; have zz := J2.out.lt; clear hgz hkz J1))
      go_upto_region 7 with (first
        | (refine st_load rfl (.tmp 7) rfl g (by rfl) a o L.length ac out.length oc _ M 0 (0, 0) J2.out.s0 ?_)
        | (go_at_call 30; refine (HC2 _).out.mono ?_; rintro x wb ⟨rfl, hbb⟩; have J3 := hide (J2.out.stay hbb); clear hbb J2 HC2)
        | (refine st_store rfl (.tmp 7) (.tmp 30) rfl g (by rfl) a o L.length ac out.length oc _ M 60 (by rfl) _ (by rfl) J3.out.s0 ?_; intro wz hgz hkz; have J4 := hide (J3.out.set hgz hkz); clear c4 zz; have c4 := cells_of J4.out.s0 4; simp [sA] at c4; have zz := J4.out.lt; clear hgz hkz J3))
      go_upto_region 17 with fail
      go_quiet (fail)
      go_wp2_with fail
      go_returns
      exact inf_fail J4.out.je HR.out _
    obtain ⟨hq2, hq2l, -⟩ := iTk_got h2
    have hq2T : q2 ≤ L.length := by omega
    have hkind := iTk_lt (lb_le HB.out) h2
    have HC2 := fun w' (hi' : Ints w.heap.size g w' a L) => hide (rbits_got (o := o) (ac := ac) (ol := out.length) (oc := oc) (m := (M : Int)) hL HB.out hi' (by decide) h2 2 rfl)
    have HBE : Hid (∀ e, iKind (lb L) L.length M kind q2 out = .error e → R = .error e) := fun e he => HRL.out.trans (iLoop_err (by unfold iBlk; rw [iThen_of_ok h1, iThen_of_ok h2, iThen_of_err he]))
    have HBG : Hid (∀ q3 out3, iKind (lb L) L.length M kind q2 out = .ok (q3, out3) → ∃ gk', gk' < gk ∧ ∀ wx o3 oc3, JS g w wx a L ac (q3 : Int) o3 oc3 M 0 out3 → JRel g w a L ac M R gk' (l : Int) wx) := fun q3 out3 he => by
      have hbk : iBlk (lb L) L.length M p out = .ok (q3, (decide (l = 0), out3)) := by unfold iBlk; rw [iThen_of_ok h1, iThen_of_ok h2, iThen_of_ok he]
      have hgo := iGo_blk (lb L) L.length M p out q3 _ hbk
      have hst := iLoop_step hbk hgo.1 hgo.2
      by_cases hl0 : l = 0
      · refine ⟨L.length + 1 - q3, by omega, fun wx o3 oc3 hj => .inl ⟨q3, out3, o3, oc3, by omega, by omega, hgo.2, iBlk_by (lb_le HB.out) HBY.out hbk, ?_, hj⟩⟩
        rw [HRL.out, hst, if_pos (by simp [hl0])]
      · refine ⟨0, by omega, fun wx o3 oc3 hj => .inr (.inl ⟨q3, out3, o3, oc3, by omega, hgo.2, ?_, hj⟩)⟩
        rw [HRL.out, hst, if_neg (by simp [hl0])]
    clear h1 h2 HRL hq1 hq1l hq2 hq2l
    have HGB : ∀ wx, JS g w wx a L ac (q2 : Int) o oc M 0 out → g + 1 ≤ wx.heap.size := fun wx h => h.lt
    have hgg : g ≤ g + 1 := Nat.le_succ g
    by_cases k0 : kind = 0
    · have k0' : (kind : Int) = 0 := by omega
      have HK : Hid (∀ wz, JS g w wz a L ac (q2 : Int) o oc M 0 out → Calls Tryz.prog 31 #[.agg (sA a L.length ac (q2 : Int) o out.length oc M 0)] wz (StOk (g + 1) wz (.slice o out.length oc) a L.length ac M (iKind (lb L) L.length M kind q2 out))) := fun wz h => by
        unfold iKind
        rw [if_pos k0]
        exact rstored_c (g + 1) w.heap.size g a o ac oc L out q2 M wz hL HB.out hq2T h8 h.row hgg h.lt h.own hmM hol
      rcases hk : iKind (lb L) L.length M kind q2 out with f | ⟨q3, out3⟩
      · have HR := hide (HBE.out f hk)
        have hf := (iBad_kind _ _ _ _ _ _ f hk).1
        have HKB := fun wz h => hide ((HK.out wz h).mono fun _ _ => StOk.bad hk)
        clear HBE HBG HK hk
        go_upto_region 6 with (first
          | (refine st_load rfl (.tmp 7) rfl g (by rfl) a o L.length ac out.length oc _ M 0 (0, 0) HJ.out.s0 ?_)
          | (go_at_call 30; refine (HC1 _ HJ.out.row).out.mono ?_; rintro x wb ⟨rfl, hbb⟩; have J1 := hide (HJ.out.stay hbb); clear hbb HJ HC1)
          | (refine st_store rfl (.tmp 7) (.tmp 25) rfl g (by rfl) a o L.length ac out.length oc _ M 0 (by rfl) _ (by rfl) J1.out.s0 ?_; intro wz hgz hkz; have J2 := hide (J1.out.set hgz hkz); clear c4 zz; have c4 := cells_of J2.out.s0 4; simp [sA] at c4; have zz := J2.out.lt; clear hgz hkz J1))
        go_upto_region 7 with (first
          | (refine st_load rfl (.tmp 7) rfl g (by rfl) a o L.length ac out.length oc _ M 0 (0, 0) J2.out.s0 ?_)
          | (go_at_call 30; refine (HC2 _ J2.out.row).out.mono ?_; rintro x wb ⟨rfl, hbb⟩; have J3 := hide (J2.out.stay hbb); clear hbb J2 HC2)
          | (refine st_store rfl (.tmp 7) (.tmp 30) rfl g (by rfl) a o L.length ac out.length oc _ M 0 (by rfl) _ (by rfl) J3.out.s0 ?_; intro wz hgz hkz; have J4 := hide (J3.out.set hgz hkz); clear c4 zz; have c4 := cells_of J4.out.s0 4; simp [sA] at c4; have zz := J4.out.lt; clear hgz hkz J3))
        go_wp2_with (first
          | (refine st_load rfl (.tmp 7) rfl g (by rfl) a o L.length ac out.length oc _ M 0 (0, 0) J4.out.s0 ?_)
          | (go_at_call 31; refine (HKB _ J4.out).out.mono ?_; rintro x w3 ⟨q3, o3, ol3, oc3, rfl, k3⟩; have E3 := hide (J4.out.called k3); clear k3)
          | (refine st_store rfl (.tmp 7) (.tmp 41) rfl g (by rfl) a o3 L.length ac ol3 oc3 _ M f (by rfl) _ (by rfl) E3.out.s0 ?_; intro wz hgz hkz; have E4 := hide (E3.out.set hgz hkz); clear hgz hkz E3))
        go_roundg (0)
        case measure => omega
        case rel => exact ⟨_, rfl, .inr (.inr ⟨f, q3, o3, ol3, oc3, hf, HR.out, E4.out⟩)⟩
      · obtain ⟨gk', hgk, hrel'⟩ := HBG.out q3 out3 hk
        have HREL := hide hrel'
        have HKG := fun wz h => hide ((HK.out wz h).mono fun _ _ => StOk.got hk)
        clear HBE HBG HK hk hrel'
        go_upto_region 6 with (first
          | (refine st_load rfl (.tmp 7) rfl g (by rfl) a o L.length ac out.length oc _ M 0 (0, 0) HJ.out.s0 ?_)
          | (go_at_call 30; refine (HC1 _ HJ.out.row).out.mono ?_; rintro x wb ⟨rfl, hbb⟩; have J1 := hide (HJ.out.stay hbb); clear hbb HJ HC1)
          | (refine st_store rfl (.tmp 7) (.tmp 25) rfl g (by rfl) a o L.length ac out.length oc _ M 0 (by rfl) _ (by rfl) J1.out.s0 ?_; intro wz hgz hkz; have J2 := hide (J1.out.set hgz hkz); clear c4 zz; have c4 := cells_of J2.out.s0 4; simp [sA] at c4; have zz := J2.out.lt; clear hgz hkz J1))
        go_upto_region 7 with (first
          | (refine st_load rfl (.tmp 7) rfl g (by rfl) a o L.length ac out.length oc _ M 0 (0, 0) J2.out.s0 ?_)
          | (go_at_call 30; refine (HC2 _ J2.out.row).out.mono ?_; rintro x wb ⟨rfl, hbb⟩; have J3 := hide (J2.out.stay hbb); clear hbb J2 HC2)
          | (refine st_store rfl (.tmp 7) (.tmp 30) rfl g (by rfl) a o L.length ac out.length oc _ M 0 (by rfl) _ (by rfl) J3.out.s0 ?_; intro wz hgz hkz; have J4 := hide (J3.out.set hgz hkz); clear c4 zz; have c4 := cells_of J4.out.s0 4; simp [sA] at c4; have zz := J4.out.lt; clear hgz hkz J3))
        go_wp2_with (first
          | (refine st_load rfl (.tmp 7) rfl g (by rfl) a o L.length ac out.length oc _ M 0 (0, 0) J4.out.s0 ?_)
          | (go_at_call 31; refine (HKG _ J4.out).out.mono ?_; rintro x w3 ⟨o3, oc3, rfl, k3, ow3, -⟩; have E3 := hide (J4.out.called k3); have K3 := hide k3; have OW3 := hide ow3; clear k3 ow3)
          | (refine st_store rfl (.tmp 7) (.tmp 41) rfl g (by rfl) a o3 L.length ac out3.length oc3 _ M 0 (by rfl) _ (by rfl) E3.out.s0 ?_; intro wz hgz hkz; have J5 := hide (J4.out.call K3.out OW3.out hgz hkz); clear hgz hkz E3))
        go_roundg (gk')
        case measure => omega
        case rel => exact ⟨_, rfl, HREL.out _ _ _ J5.out⟩
    have k0' : ¬ (kind : Int) = 0 := by omega
    by_cases k1 : kind = 1
    · have k1' : (kind : Int) = 1 := by omega
      have HK : Hid (∀ wz a1 a2 c1 c2, JS g w wz a L ac (q2 : Int) o oc M 0 out → Ints 0 wz.heap.size wz a1 iFix → Ints 0 wz.heap.size wz a2 iFive → Calls Tryz.prog 32 #[.agg (sA a L.length ac (q2 : Int) o out.length oc M 0), .slice a1 iFix.length c1, .slice a2 iFive.length c2] wz (StOk (g + 1) wz (.slice o out.length oc) a L.length ac M (iKind (lb L) L.length M kind q2 out))) := fun wz a1 a2 c1 c2 h j1 j2 => by
        unfold iKind
        rw [if_neg k0, if_pos k1]
        exact rdata_c (g + 1) w.heap.size g wz.heap.size a o a1 a2 ac oc c1 c2 L out iFix iFive q2 M wz hL HB.out hq2T h.row hgg h.lt h.own hmM hol j1 j2 iFix_good (by rw [iFix_length]; decide) iFive_good (by rw [iFive_length]; decide)
      rcases hk : iKind (lb L) L.length M kind q2 out with f | ⟨q3, out3⟩
      · have HR := hide (HBE.out f hk)
        have hf := (iBad_kind _ _ _ _ _ _ f hk).1
        have HKB := fun wz a1 a2 c1 c2 h j1 j2 => hide ((HK.out wz a1 a2 c1 c2 h j1 j2).mono fun _ _ => StOk.bad hk)
        clear HBE HBG HK hk
        go_upto_region 6 with (first
          | (refine st_load rfl (.tmp 7) rfl g (by rfl) a o L.length ac out.length oc _ M 0 (0, 0) HJ.out.s0 ?_)
          | (go_at_call 30; refine (HC1 _ HJ.out.row).out.mono ?_; rintro x wb ⟨rfl, hbb⟩; have J1 := hide (HJ.out.stay hbb); clear hbb HJ HC1)
          | (refine st_store rfl (.tmp 7) (.tmp 25) rfl g (by rfl) a o L.length ac out.length oc _ M 0 (by rfl) _ (by rfl) J1.out.s0 ?_; intro wz hgz hkz; have J2 := hide (J1.out.set hgz hkz); clear c4 zz; have c4 := cells_of J2.out.s0 4; simp [sA] at c4; have zz := J2.out.lt; clear hgz hkz J1))
        go_upto_region 7 with (first
          | (refine st_load rfl (.tmp 7) rfl g (by rfl) a o L.length ac out.length oc _ M 0 (0, 0) J2.out.s0 ?_)
          | (go_at_call 30; refine (HC2 _ J2.out.row).out.mono ?_; rintro x wb ⟨rfl, hbb⟩; have J3 := hide (J2.out.stay hbb); clear hbb J2 HC2)
          | (refine st_store rfl (.tmp 7) (.tmp 30) rfl g (by rfl) a o L.length ac out.length oc _ M 0 (by rfl) _ (by rfl) J3.out.s0 ?_; intro wz hgz hkz; have J4 := hide (J3.out.set hgz hkz); clear c4 zz; have c4 := cells_of J4.out.s0 4; simp [sA] at c4; have zz := J4.out.lt; clear hgz hkz J3))
        go_upto_region 13 with fail
        refine wp_region_any (by kernel_rfl) ?_
        change wpAny _ _ _ _ _ _ _ (World.drew _)
        have J5 := hide J4.out.drew
        clear J4 c4 zz
        generalize World.drew wz = wd at J5 ⊢
        refine wpAny_ready (rs := [0, 1]) (by kernel_rfl) (by simp) ?_
        refine AllReady.cons rfl (fun K hK => ?_) (AllReady.cons rfl (fun K hK => ?_) AllReady.nil)
        · skip
          rw [if_pos (by rfl)]
          refine st_loadO (.tmp 7) (by rfl) g (by rfl) a o L.length ac out.length oc _ M 0 (0, 0) J5.out.s0 ?_
          refine hK _ _ ?_
          clear hK K
          try simp only [Act.put, List.getElem_toArray, List.getElem_cons_zero, List.setIfInBounds_toArray, List.set_cons_zero, List.set_cons_succ]
          refine wpAny_ready (rs := [1]) (by kernel_rfl) (by simp) ?_
          refine AllReady.cons rfl (fun K hK => ?_) AllReady.nil
          go_simp
          refine (rFixed_c _).mono ?_
          rintro x wf ⟨v1, rfl, ow1, b1⟩
          obtain ⟨a1, c1, rfl, -⟩ := ow1.form
          have F1 := hide (ints_own ow1)
          have J6 := hide (J5.out.stay b1)
          clear ow1 b1 J5
          refine hK _ _ ?_
          clear hK K
          try simp only [Act.put, List.getElem_toArray, List.getElem_cons_zero, List.getElem_cons_succ, List.setIfInBounds_toArray, List.set_cons_zero, List.set_cons_succ]
          refine wpAny_ready (rs := [2]) (by kernel_rfl) (by simp) ?_
          refine AllReady.cons rfl (fun K hK => ?_) AllReady.nil
          go_simp
          refine (rfive_c _).mono ?_
          rintro x wv ⟨v2, rfl, ow2, b2⟩
          obtain ⟨a2, c2, rfl, -⟩ := ow2.form
          have F2 := hide ((F1.out.stay b2).wide (Nat.le_refl _) b2.size)
          have V2 := hide (ints_own ow2)
          have J7 := hide (J6.out.stay b2)
          clear ow2 b2 J6 F1
          refine hK _ _ ?_
          clear hK K
          try simp only [Act.put, List.getElem_toArray, List.getElem_cons_zero, List.getElem_cons_succ, List.setIfInBounds_toArray, List.set_cons_zero, List.set_cons_succ]
          refine wpAny_ready (rs := [3]) (by kernel_rfl) (by simp) ?_
          refine AllReady.cons rfl (fun K hK => ?_) AllReady.nil
          go_simp
          refine (HKB _ _ _ _ _ J7.out F2.out V2.out).out.mono ?_
          rintro x w3 ⟨q3, o3, ol3, oc3, rfl, k3⟩
          have E3 := hide (J7.out.called k3)
          clear k3
          refine hK _ _ ?_
          clear hK K
          try simp only [Act.put, List.getElem_toArray, List.getElem_cons_zero, List.getElem_cons_succ, List.setIfInBounds_toArray, List.set_cons_zero, List.set_cons_succ]
          refine wpAny_ready (rs := [4]) (by kernel_rfl) (by simp) ?_
          refine AllReady.cons rfl (fun K hK => ?_) AllReady.nil
          rw [if_pos (by rfl)]
          refine st_storeO (.tmp 7) (.tmp 47) (by rfl) g (by rfl) a o3 L.length ac ol3 oc3 q3 M f (by rfl) _ (by rfl) E3.out.s0 ?_
          intro wy hgz hkz
          have E4 := hide (E3.out.set hgz hkz)
          clear hgz hkz E3
          refine hK _ _ ?_
          clear hK K
          try simp only [Act.put, List.getElem_toArray, List.getElem_cons_zero, List.getElem_cons_succ]
          refine wpAny_done (by kernel_rfl) ?_ _
          go_wp2_with fail
          go_roundg (0)
          case measure => omega
          case rel => exact ⟨_, rfl, .inr (.inr ⟨f, q3, o3, ol3, oc3, hf, HR.out, E4.out⟩)⟩
        · skip
          go_simp
          refine (rFixed_c _).mono ?_
          rintro x wf ⟨v1, rfl, ow1, b1⟩
          obtain ⟨a1, c1, rfl, -⟩ := ow1.form
          have F1 := hide (ints_own ow1)
          have J6 := hide (J5.out.stay b1)
          clear ow1 b1 J5
          refine hK _ _ ?_
          clear hK K
          try simp only [Act.put, List.getElem_toArray, List.getElem_cons_zero, List.getElem_cons_succ, List.setIfInBounds_toArray, List.set_cons_zero, List.set_cons_succ]
          refine wpAny_ready (rs := [0, 2]) (by kernel_rfl) (by simp) ?_
          refine AllReady.cons rfl (fun K hK => ?_) (AllReady.cons rfl (fun K hK => ?_) AllReady.nil)
          · skip
            rw [if_pos (by rfl)]
            refine st_loadO (.tmp 7) (by rfl) g (by rfl) a o L.length ac out.length oc _ M 0 (0, 0) J6.out.s0 ?_
            refine hK _ _ ?_
            clear hK K
            try simp only [Act.put, List.getElem_toArray, List.getElem_cons_zero, List.setIfInBounds_toArray, List.set_cons_zero, List.set_cons_succ]
            refine wpAny_ready (rs := [2]) (by kernel_rfl) (by simp) ?_
            refine AllReady.cons rfl (fun K hK => ?_) AllReady.nil
            go_simp
            refine (rfive_c _).mono ?_
            rintro x wv ⟨v2, rfl, ow2, b2⟩
            obtain ⟨a2, c2, rfl, -⟩ := ow2.form
            have F2 := hide ((F1.out.stay b2).wide (Nat.le_refl _) b2.size)
            have V2 := hide (ints_own ow2)
            have J7 := hide (J6.out.stay b2)
            clear ow2 b2 J6 F1
            refine hK _ _ ?_
            clear hK K
            try simp only [Act.put, List.getElem_toArray, List.getElem_cons_zero, List.getElem_cons_succ, List.setIfInBounds_toArray, List.set_cons_zero, List.set_cons_succ]
            refine wpAny_ready (rs := [3]) (by kernel_rfl) (by simp) ?_
            refine AllReady.cons rfl (fun K hK => ?_) AllReady.nil
            go_simp
            refine (HKB _ _ _ _ _ J7.out F2.out V2.out).out.mono ?_
            rintro x w3 ⟨q3, o3, ol3, oc3, rfl, k3⟩
            have E3 := hide (J7.out.called k3)
            clear k3
            refine hK _ _ ?_
            clear hK K
            try simp only [Act.put, List.getElem_toArray, List.getElem_cons_zero, List.getElem_cons_succ, List.setIfInBounds_toArray, List.set_cons_zero, List.set_cons_succ]
            refine wpAny_ready (rs := [4]) (by kernel_rfl) (by simp) ?_
            refine AllReady.cons rfl (fun K hK => ?_) AllReady.nil
            rw [if_pos (by rfl)]
            refine st_storeO (.tmp 7) (.tmp 47) (by rfl) g (by rfl) a o3 L.length ac ol3 oc3 q3 M f (by rfl) _ (by rfl) E3.out.s0 ?_
            intro wy hgz hkz
            have E4 := hide (E3.out.set hgz hkz)
            clear hgz hkz E3
            refine hK _ _ ?_
            clear hK K
            try simp only [Act.put, List.getElem_toArray, List.getElem_cons_zero, List.getElem_cons_succ]
            refine wpAny_done (by kernel_rfl) ?_ _
            go_wp2_with fail
            go_roundg (0)
            case measure => omega
            case rel => exact ⟨_, rfl, .inr (.inr ⟨f, q3, o3, ol3, oc3, hf, HR.out, E4.out⟩)⟩
          · skip
            go_simp
            refine (rfive_c _).mono ?_
            rintro x wv ⟨v2, rfl, ow2, b2⟩
            obtain ⟨a2, c2, rfl, -⟩ := ow2.form
            have F2 := hide ((F1.out.stay b2).wide (Nat.le_refl _) b2.size)
            have V2 := hide (ints_own ow2)
            have J7 := hide (J6.out.stay b2)
            clear ow2 b2 J6 F1
            refine hK _ _ ?_
            clear hK K
            try simp only [Act.put, List.getElem_toArray, List.getElem_cons_zero, List.getElem_cons_succ, List.setIfInBounds_toArray, List.set_cons_zero, List.set_cons_succ]
            refine wpAny_ready (rs := [0]) (by kernel_rfl) (by simp) ?_
            refine AllReady.cons rfl (fun K hK => ?_) AllReady.nil
            rw [if_pos (by rfl)]
            refine st_loadO (.tmp 7) (by rfl) g (by rfl) a o L.length ac out.length oc _ M 0 (0, 0) J7.out.s0 ?_
            refine hK _ _ ?_
            clear hK K
            try simp only [Act.put, List.getElem_toArray, List.getElem_cons_zero, List.setIfInBounds_toArray, List.set_cons_zero, List.set_cons_succ]
            refine wpAny_ready (rs := [3]) (by kernel_rfl) (by simp) ?_
            refine AllReady.cons rfl (fun K hK => ?_) AllReady.nil
            go_simp
            refine (HKB _ _ _ _ _ J7.out F2.out V2.out).out.mono ?_
            rintro x w3 ⟨q3, o3, ol3, oc3, rfl, k3⟩
            have E3 := hide (J7.out.called k3)
            clear k3
            refine hK _ _ ?_
            clear hK K
            try simp only [Act.put, List.getElem_toArray, List.getElem_cons_zero, List.getElem_cons_succ, List.setIfInBounds_toArray, List.set_cons_zero, List.set_cons_succ]
            refine wpAny_ready (rs := [4]) (by kernel_rfl) (by simp) ?_
            refine AllReady.cons rfl (fun K hK => ?_) AllReady.nil
            rw [if_pos (by rfl)]
            refine st_storeO (.tmp 7) (.tmp 47) (by rfl) g (by rfl) a o3 L.length ac ol3 oc3 q3 M f (by rfl) _ (by rfl) E3.out.s0 ?_
            intro wy hgz hkz
            have E4 := hide (E3.out.set hgz hkz)
            clear hgz hkz E3
            refine hK _ _ ?_
            clear hK K
            try simp only [Act.put, List.getElem_toArray, List.getElem_cons_zero, List.getElem_cons_succ]
            refine wpAny_done (by kernel_rfl) ?_ _
            go_wp2_with fail
            go_roundg (0)
            case measure => omega
            case rel => exact ⟨_, rfl, .inr (.inr ⟨f, q3, o3, ol3, oc3, hf, HR.out, E4.out⟩)⟩
      · obtain ⟨gk', hgk, hrel'⟩ := HBG.out q3 out3 hk
        have HREL := hide hrel'
        have HKG := fun wz a1 a2 c1 c2 h j1 j2 => hide ((HK.out wz a1 a2 c1 c2 h j1 j2).mono fun _ _ => StOk.got hk)
        clear HBE HBG HK hk hrel'
        go_upto_region 6 with (first
          | (refine st_load rfl (.tmp 7) rfl g (by rfl) a o L.length ac out.length oc _ M 0 (0, 0) HJ.out.s0 ?_)
          | (go_at_call 30; refine (HC1 _ HJ.out.row).out.mono ?_; rintro x wb ⟨rfl, hbb⟩; have J1 := hide (HJ.out.stay hbb); clear hbb HJ HC1)
          | (refine st_store rfl (.tmp 7) (.tmp 25) rfl g (by rfl) a o L.length ac out.length oc _ M 0 (by rfl) _ (by rfl) J1.out.s0 ?_; intro wz hgz hkz; have J2 := hide (J1.out.set hgz hkz); clear c4 zz; have c4 := cells_of J2.out.s0 4; simp [sA] at c4; have zz := J2.out.lt; clear hgz hkz J1))
        go_upto_region 7 with (first
          | (refine st_load rfl (.tmp 7) rfl g (by rfl) a o L.length ac out.length oc _ M 0 (0, 0) J2.out.s0 ?_)
          | (go_at_call 30; refine (HC2 _ J2.out.row).out.mono ?_; rintro x wb ⟨rfl, hbb⟩; have J3 := hide (J2.out.stay hbb); clear hbb J2 HC2)
          | (refine st_store rfl (.tmp 7) (.tmp 30) rfl g (by rfl) a o L.length ac out.length oc _ M 0 (by rfl) _ (by rfl) J3.out.s0 ?_; intro wz hgz hkz; have J4 := hide (J3.out.set hgz hkz); clear c4 zz; have c4 := cells_of J4.out.s0 4; simp [sA] at c4; have zz := J4.out.lt; clear hgz hkz J3))
        go_upto_region 13 with fail
        refine wp_region_any (by kernel_rfl) ?_
        change wpAny _ _ _ _ _ _ _ (World.drew _)
        have J5 := hide J4.out.drew
        clear J4 c4 zz
        generalize World.drew wz = wd at J5 ⊢
        refine wpAny_ready (rs := [0, 1]) (by kernel_rfl) (by simp) ?_
        refine AllReady.cons rfl (fun K hK => ?_) (AllReady.cons rfl (fun K hK => ?_) AllReady.nil)
        · skip
          rw [if_pos (by rfl)]
          refine st_loadO (.tmp 7) (by rfl) g (by rfl) a o L.length ac out.length oc _ M 0 (0, 0) J5.out.s0 ?_
          refine hK _ _ ?_
          clear hK K
          try simp only [Act.put, List.getElem_toArray, List.getElem_cons_zero, List.setIfInBounds_toArray, List.set_cons_zero, List.set_cons_succ]
          refine wpAny_ready (rs := [1]) (by kernel_rfl) (by simp) ?_
          refine AllReady.cons rfl (fun K hK => ?_) AllReady.nil
          go_simp
          refine (rFixed_c _).mono ?_
          rintro x wf ⟨v1, rfl, ow1, b1⟩
          obtain ⟨a1, c1, rfl, -⟩ := ow1.form
          have F1 := hide (ints_own ow1)
          have J6 := hide (J5.out.stay b1)
          clear ow1 b1 J5
          refine hK _ _ ?_
          clear hK K
          try simp only [Act.put, List.getElem_toArray, List.getElem_cons_zero, List.getElem_cons_succ, List.setIfInBounds_toArray, List.set_cons_zero, List.set_cons_succ]
          refine wpAny_ready (rs := [2]) (by kernel_rfl) (by simp) ?_
          refine AllReady.cons rfl (fun K hK => ?_) AllReady.nil
          go_simp
          refine (rfive_c _).mono ?_
          rintro x wv ⟨v2, rfl, ow2, b2⟩
          obtain ⟨a2, c2, rfl, -⟩ := ow2.form
          have F2 := hide ((F1.out.stay b2).wide (Nat.le_refl _) b2.size)
          have V2 := hide (ints_own ow2)
          have J7 := hide (J6.out.stay b2)
          clear ow2 b2 J6 F1
          refine hK _ _ ?_
          clear hK K
          try simp only [Act.put, List.getElem_toArray, List.getElem_cons_zero, List.getElem_cons_succ, List.setIfInBounds_toArray, List.set_cons_zero, List.set_cons_succ]
          refine wpAny_ready (rs := [3]) (by kernel_rfl) (by simp) ?_
          refine AllReady.cons rfl (fun K hK => ?_) AllReady.nil
          go_simp
          refine (HKG _ _ _ _ _ J7.out F2.out V2.out).out.mono ?_
          rintro x w3 ⟨o3, oc3, rfl, k3, ow3, -⟩
          have E3 := hide (J7.out.called k3)
          have K3 := hide k3
          have OW3 := hide ow3
          clear k3 ow3
          refine hK _ _ ?_
          clear hK K
          try simp only [Act.put, List.getElem_toArray, List.getElem_cons_zero, List.getElem_cons_succ, List.setIfInBounds_toArray, List.set_cons_zero, List.set_cons_succ]
          refine wpAny_ready (rs := [4]) (by kernel_rfl) (by simp) ?_
          refine AllReady.cons rfl (fun K hK => ?_) AllReady.nil
          rw [if_pos (by rfl)]
          refine st_storeO (.tmp 7) (.tmp 47) (by rfl) g (by rfl) a o3 L.length ac out3.length oc3 q3 M 0 (by rfl) _ (by rfl) E3.out.s0 ?_
          intro wy hgz hkz
          have J8 := hide (J7.out.call K3.out OW3.out hgz hkz)
          clear hgz hkz E3
          refine hK _ _ ?_
          clear hK K
          try simp only [Act.put, List.getElem_toArray, List.getElem_cons_zero, List.getElem_cons_succ]
          refine wpAny_done (by kernel_rfl) ?_ _
          go_wp2_with fail
          go_roundg (gk')
          case measure => omega
          case rel => exact ⟨_, rfl, HREL.out _ _ _ J8.out⟩
        · skip
          go_simp
          refine (rFixed_c _).mono ?_
          rintro x wf ⟨v1, rfl, ow1, b1⟩
          obtain ⟨a1, c1, rfl, -⟩ := ow1.form
          have F1 := hide (ints_own ow1)
          have J6 := hide (J5.out.stay b1)
          clear ow1 b1 J5
          refine hK _ _ ?_
          clear hK K
          try simp only [Act.put, List.getElem_toArray, List.getElem_cons_zero, List.getElem_cons_succ, List.setIfInBounds_toArray, List.set_cons_zero, List.set_cons_succ]
          refine wpAny_ready (rs := [0, 2]) (by kernel_rfl) (by simp) ?_
          refine AllReady.cons rfl (fun K hK => ?_) (AllReady.cons rfl (fun K hK => ?_) AllReady.nil)
          · skip
            rw [if_pos (by rfl)]
            refine st_loadO (.tmp 7) (by rfl) g (by rfl) a o L.length ac out.length oc _ M 0 (0, 0) J6.out.s0 ?_
            refine hK _ _ ?_
            clear hK K
            try simp only [Act.put, List.getElem_toArray, List.getElem_cons_zero, List.setIfInBounds_toArray, List.set_cons_zero, List.set_cons_succ]
            refine wpAny_ready (rs := [2]) (by kernel_rfl) (by simp) ?_
            refine AllReady.cons rfl (fun K hK => ?_) AllReady.nil
            go_simp
            refine (rfive_c _).mono ?_
            rintro x wv ⟨v2, rfl, ow2, b2⟩
            obtain ⟨a2, c2, rfl, -⟩ := ow2.form
            have F2 := hide ((F1.out.stay b2).wide (Nat.le_refl _) b2.size)
            have V2 := hide (ints_own ow2)
            have J7 := hide (J6.out.stay b2)
            clear ow2 b2 J6 F1
            refine hK _ _ ?_
            clear hK K
            try simp only [Act.put, List.getElem_toArray, List.getElem_cons_zero, List.getElem_cons_succ, List.setIfInBounds_toArray, List.set_cons_zero, List.set_cons_succ]
            refine wpAny_ready (rs := [3]) (by kernel_rfl) (by simp) ?_
            refine AllReady.cons rfl (fun K hK => ?_) AllReady.nil
            go_simp
            refine (HKG _ _ _ _ _ J7.out F2.out V2.out).out.mono ?_
            rintro x w3 ⟨o3, oc3, rfl, k3, ow3, -⟩
            have E3 := hide (J7.out.called k3)
            have K3 := hide k3
            have OW3 := hide ow3
            clear k3 ow3
            refine hK _ _ ?_
            clear hK K
            try simp only [Act.put, List.getElem_toArray, List.getElem_cons_zero, List.getElem_cons_succ, List.setIfInBounds_toArray, List.set_cons_zero, List.set_cons_succ]
            refine wpAny_ready (rs := [4]) (by kernel_rfl) (by simp) ?_
            refine AllReady.cons rfl (fun K hK => ?_) AllReady.nil
            rw [if_pos (by rfl)]
            refine st_storeO (.tmp 7) (.tmp 47) (by rfl) g (by rfl) a o3 L.length ac out3.length oc3 q3 M 0 (by rfl) _ (by rfl) E3.out.s0 ?_
            intro wy hgz hkz
            have J8 := hide (J7.out.call K3.out OW3.out hgz hkz)
            clear hgz hkz E3
            refine hK _ _ ?_
            clear hK K
            try simp only [Act.put, List.getElem_toArray, List.getElem_cons_zero, List.getElem_cons_succ]
            refine wpAny_done (by kernel_rfl) ?_ _
            go_wp2_with fail
            go_roundg (gk')
            case measure => omega
            case rel => exact ⟨_, rfl, HREL.out _ _ _ J8.out⟩
          · skip
            go_simp
            refine (rfive_c _).mono ?_
            rintro x wv ⟨v2, rfl, ow2, b2⟩
            obtain ⟨a2, c2, rfl, -⟩ := ow2.form
            have F2 := hide ((F1.out.stay b2).wide (Nat.le_refl _) b2.size)
            have V2 := hide (ints_own ow2)
            have J7 := hide (J6.out.stay b2)
            clear ow2 b2 J6 F1
            refine hK _ _ ?_
            clear hK K
            try simp only [Act.put, List.getElem_toArray, List.getElem_cons_zero, List.getElem_cons_succ, List.setIfInBounds_toArray, List.set_cons_zero, List.set_cons_succ]
            refine wpAny_ready (rs := [0]) (by kernel_rfl) (by simp) ?_
            refine AllReady.cons rfl (fun K hK => ?_) AllReady.nil
            rw [if_pos (by rfl)]
            refine st_loadO (.tmp 7) (by rfl) g (by rfl) a o L.length ac out.length oc _ M 0 (0, 0) J7.out.s0 ?_
            refine hK _ _ ?_
            clear hK K
            try simp only [Act.put, List.getElem_toArray, List.getElem_cons_zero, List.setIfInBounds_toArray, List.set_cons_zero, List.set_cons_succ]
            refine wpAny_ready (rs := [3]) (by kernel_rfl) (by simp) ?_
            refine AllReady.cons rfl (fun K hK => ?_) AllReady.nil
            go_simp
            refine (HKG _ _ _ _ _ J7.out F2.out V2.out).out.mono ?_
            rintro x w3 ⟨o3, oc3, rfl, k3, ow3, -⟩
            have E3 := hide (J7.out.called k3)
            have K3 := hide k3
            have OW3 := hide ow3
            clear k3 ow3
            refine hK _ _ ?_
            clear hK K
            try simp only [Act.put, List.getElem_toArray, List.getElem_cons_zero, List.getElem_cons_succ, List.setIfInBounds_toArray, List.set_cons_zero, List.set_cons_succ]
            refine wpAny_ready (rs := [4]) (by kernel_rfl) (by simp) ?_
            refine AllReady.cons rfl (fun K hK => ?_) AllReady.nil
            rw [if_pos (by rfl)]
            refine st_storeO (.tmp 7) (.tmp 47) (by rfl) g (by rfl) a o3 L.length ac out3.length oc3 q3 M 0 (by rfl) _ (by rfl) E3.out.s0 ?_
            intro wy hgz hkz
            have J8 := hide (J7.out.call K3.out OW3.out hgz hkz)
            clear hgz hkz E3
            refine hK _ _ ?_
            clear hK K
            try simp only [Act.put, List.getElem_toArray, List.getElem_cons_zero, List.getElem_cons_succ]
            refine wpAny_done (by kernel_rfl) ?_ _
            go_wp2_with fail
            go_roundg (gk')
            case measure => omega
            case rel => exact ⟨_, rfl, HREL.out _ _ _ J8.out⟩
    have k1' : ¬ (kind : Int) = 1 := by omega
    by_cases k2 : kind = 2
    · have k2' : (kind : Int) = 2 := by omega
      have HK : Hid (∀ wz, JS g w wz a L ac (q2 : Int) o oc M 0 out → Calls Tryz.prog 35 #[.agg (sA a L.length ac (q2 : Int) o out.length oc M 0)] wz (StOk (g + 1) wz (.slice o out.length oc) a L.length ac M (iKind (lb L) L.length M kind q2 out))) := fun wz h => by
        unfold iKind
        rw [if_neg k0, if_neg k1, if_pos k2]
        exact rdyn_c (g + 1) w.heap.size g a o ac oc L out q2 M wz hL HB.out hq2T  h.row hgg h.lt h.own hmM hol
      rcases hk : iKind (lb L) L.length M kind q2 out with f | ⟨q3, out3⟩
      · have HR := hide (HBE.out f hk)
        have hf := (iBad_kind _ _ _ _ _ _ f hk).1
        have HKB := fun wz h => hide ((HK.out wz h).mono fun _ _ => StOk.bad hk)
        clear HBE HBG HK hk
        go_upto_region 6 with (first
          | (refine st_load rfl (.tmp 7) rfl g (by rfl) a o L.length ac out.length oc _ M 0 (0, 0) HJ.out.s0 ?_)
          | (go_at_call 30; refine (HC1 _ HJ.out.row).out.mono ?_; rintro x wb ⟨rfl, hbb⟩; have J1 := hide (HJ.out.stay hbb); clear hbb HJ HC1)
          | (refine st_store rfl (.tmp 7) (.tmp 25) rfl g (by rfl) a o L.length ac out.length oc _ M 0 (by rfl) _ (by rfl) J1.out.s0 ?_; intro wz hgz hkz; have J2 := hide (J1.out.set hgz hkz); clear c4 zz; have c4 := cells_of J2.out.s0 4; simp [sA] at c4; have zz := J2.out.lt; clear hgz hkz J1))
        go_upto_region 7 with (first
          | (refine st_load rfl (.tmp 7) rfl g (by rfl) a o L.length ac out.length oc _ M 0 (0, 0) J2.out.s0 ?_)
          | (go_at_call 30; refine (HC2 _ J2.out.row).out.mono ?_; rintro x wb ⟨rfl, hbb⟩; have J3 := hide (J2.out.stay hbb); clear hbb J2 HC2)
          | (refine st_store rfl (.tmp 7) (.tmp 30) rfl g (by rfl) a o L.length ac out.length oc _ M 0 (by rfl) _ (by rfl) J3.out.s0 ?_; intro wz hgz hkz; have J4 := hide (J3.out.set hgz hkz); clear c4 zz; have c4 := cells_of J4.out.s0 4; simp [sA] at c4; have zz := J4.out.lt; clear hgz hkz J3))
        go_wp2_with (first
          | (refine st_load rfl (.tmp 7) rfl g (by rfl) a o L.length ac out.length oc _ M 0 (0, 0) J4.out.s0 ?_)
          | (go_at_call 35; refine (HKB _ J4.out).out.mono ?_; rintro x w3 ⟨q3, o3, ol3, oc3, rfl, k3⟩; have E3 := hide (J4.out.called k3); clear k3)
          | (refine st_store rfl (.tmp 7) (.tmp 51) rfl g (by rfl) a o3 L.length ac ol3 oc3 _ M f (by rfl) _ (by rfl) E3.out.s0 ?_; intro wz hgz hkz; have E4 := hide (E3.out.set hgz hkz); clear hgz hkz E3))
        go_roundg (0)
        case measure => omega
        case rel => exact ⟨_, rfl, .inr (.inr ⟨f, q3, o3, ol3, oc3, hf, HR.out, E4.out⟩)⟩
      · obtain ⟨gk', hgk, hrel'⟩ := HBG.out q3 out3 hk
        have HREL := hide hrel'
        have HKG := fun wz h => hide ((HK.out wz h).mono fun _ _ => StOk.got hk)
        clear HBE HBG HK hk hrel'
        go_upto_region 6 with (first
          | (refine st_load rfl (.tmp 7) rfl g (by rfl) a o L.length ac out.length oc _ M 0 (0, 0) HJ.out.s0 ?_)
          | (go_at_call 30; refine (HC1 _ HJ.out.row).out.mono ?_; rintro x wb ⟨rfl, hbb⟩; have J1 := hide (HJ.out.stay hbb); clear hbb HJ HC1)
          | (refine st_store rfl (.tmp 7) (.tmp 25) rfl g (by rfl) a o L.length ac out.length oc _ M 0 (by rfl) _ (by rfl) J1.out.s0 ?_; intro wz hgz hkz; have J2 := hide (J1.out.set hgz hkz); clear c4 zz; have c4 := cells_of J2.out.s0 4; simp [sA] at c4; have zz := J2.out.lt; clear hgz hkz J1))
        go_upto_region 7 with (first
          | (refine st_load rfl (.tmp 7) rfl g (by rfl) a o L.length ac out.length oc _ M 0 (0, 0) J2.out.s0 ?_)
          | (go_at_call 30; refine (HC2 _ J2.out.row).out.mono ?_; rintro x wb ⟨rfl, hbb⟩; have J3 := hide (J2.out.stay hbb); clear hbb J2 HC2)
          | (refine st_store rfl (.tmp 7) (.tmp 30) rfl g (by rfl) a o L.length ac out.length oc _ M 0 (by rfl) _ (by rfl) J3.out.s0 ?_; intro wz hgz hkz; have J4 := hide (J3.out.set hgz hkz); clear c4 zz; have c4 := cells_of J4.out.s0 4; simp [sA] at c4; have zz := J4.out.lt; clear hgz hkz J3))
        go_wp2_with (first
          | (refine st_load rfl (.tmp 7) rfl g (by rfl) a o L.length ac out.length oc _ M 0 (0, 0) J4.out.s0 ?_)
          | (go_at_call 35; refine (HKG _ J4.out).out.mono ?_; rintro x w3 ⟨o3, oc3, rfl, k3, ow3, -⟩; have E3 := hide (J4.out.called k3); have K3 := hide k3; have OW3 := hide ow3; clear k3 ow3)
          | (refine st_store rfl (.tmp 7) (.tmp 51) rfl g (by rfl) a o3 L.length ac out3.length oc3 _ M 0 (by rfl) _ (by rfl) E3.out.s0 ?_; intro wz hgz hkz; have J5 := hide (J4.out.call K3.out OW3.out hgz hkz); clear hgz hkz E3))
        go_roundg (gk')
        case measure => omega
        case rel => exact ⟨_, rfl, HREL.out _ _ _ J5.out⟩
    have k2' : ¬ (kind : Int) = 2 := by omega
    have HR : Hid (R = .error 61) := HBE.out 61 (by unfold iKind; rw [if_neg k0, if_neg k1, if_neg k2])
    have HF := fun P w' => hide (rfails_c a o L.length ac out.length oc P (M : Int) 0 61 w')
    clear HBE HBG
    go_upto_region 6 with (first
      | (refine st_load rfl (.tmp 7) rfl g (by rfl) a o L.length ac out.length oc _ M 0 (0, 0) HJ.out.s0 ?_)
      | (go_at_call 30; refine (HC1 _ HJ.out.row).out.mono ?_; rintro x wb ⟨rfl, hbb⟩; have J1 := hide (HJ.out.stay hbb); clear hbb HJ HC1)
      | (refine st_store rfl (.tmp 7) (.tmp 25) rfl g (by rfl) a o L.length ac out.length oc _ M 0 (by rfl) _ (by rfl) J1.out.s0 ?_; intro wz hgz hkz; have J2 := hide (J1.out.set hgz hkz); clear c4 zz; have c4 := cells_of J2.out.s0 4; simp [sA] at c4; have zz := J2.out.lt; clear hgz hkz J1))
    go_upto_region 7 with (first
      | (refine st_load rfl (.tmp 7) rfl g (by rfl) a o L.length ac out.length oc _ M 0 (0, 0) J2.out.s0 ?_)
      | (go_at_call 30; refine (HC2 _ J2.out.row).out.mono ?_; rintro x wb ⟨rfl, hbb⟩; have J3 := hide (J2.out.stay hbb); clear hbb J2 HC2)
      | (refine st_store rfl (.tmp 7) (.tmp 30) rfl g (by rfl) a o L.length ac out.length oc _ M 0 (by rfl) _ (by rfl) J3.out.s0 ?_; intro wz hgz hkz; have J4 := hide (J3.out.set hgz hkz); clear c4 zz; have c4 := cells_of J4.out.s0 4; simp [sA] at c4; have zz := J4.out.lt; clear hgz hkz J3))
    go_wp2_with (first
      | (refine st_load rfl (.tmp 7) rfl g (by rfl) a o L.length ac out.length oc _ M 0 (0, 0) J4.out.s0 ?_)
      | (go_at_call 36; refine (HF _ _).out.mono ?_; rintro x w3 ⟨rfl, hbf⟩; have J5 := hide (J4.out.stay hbf); clear hbf J4)
      | (refine st_store rfl (.tmp 7) (.tmp 37) rfl g (by rfl) a o L.length ac out.length oc _ M 61 (by rfl) _ (by rfl) J5.out.s0 ?_; intro wz hgz hkz; have J6 := hide (J5.out.set hgz hkz); clear c4 zz; have c4 := cells_of J6.out.s0 4; simp [sA] at c4; have zz := J6.out.lt; clear hgz hkz J5))
    go_roundg (0)
    case measure => omega
    case rel => exact ⟨_, rfl, .inr (.inr ⟨61, _, o, out.length, oc, by decide, HR.out, J6.out.je⟩)⟩
end Go.Proofs.YtlakgbckopjelabGreatDoor
