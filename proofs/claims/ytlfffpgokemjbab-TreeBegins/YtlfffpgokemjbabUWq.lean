/- Regions that draw their order and whose callees lay blocks of their own; a last store behind them. -/
import Derived.Test.YtlfffpgokemjbabUEnt
import Derived.Deep.DeepCutAuto
import Derived.Deep.RegionWith
import Derived.Deep.RegionLaw
import Derived.Deep.RegionHeld3
import Derived.BigRegion
namespace Go.Proofs.Ytlfffpgokemjbab.U
set_option maxRecDepth 100000
open Go Go.RowKit
set_option linter.unusedVariables false
theorem below_drew {B : Nat} {w w' : World} (h : Below B w w') (n : Nat) : Below B w (w'.drewN n) := ⟨h.os, h.tape, h.output, h.size, h.block⟩
theorem iw {x : Int} (h1 : -9223372036854775808 ≤ x) (h2 : x ≤ 9223372036854775807) : IntKind.i64.wrap x = x := by rw [IntKind.wrap_i64]; omega
theorem cells_new (w : World) (cs : Array Value) (t : TypeId) (k : Nat) (v : Value) (h : cs[k]? = some v) : (w.alloc (.cells cs t)).cell? ⟨w.heap.size, k, none⟩ = some v := by
  rw [cells_of (heap_new w _)]
  exact h
/-- A world in which all is as it was in W, and more may lie behind. -/
structure BelowBy (W : World) where
  w : World
  h : Below W.heap.size W w
instance (W : World) : Inhabited (BelowBy W) := ⟨⟨W, Below.refl _ _⟩⟩
/-- The lexical walk of such a region, behind a structure: it is not unfolded by the way. -/
structure WQ (P : Program) (ops : Array Oper) (C : World → Prop) (Q : Act → Prop) (l : List Oper) (a : Act) : Prop where
  out : wpQuiet P ops C Q l a
theorem WQ.step {P : Program} {ops : Array Oper} {C : World → Prop} {Q : Act → Prop} {o : Oper} {rest : List Oper} {a : Act}
    (h : ∀ K : Act → Prop, (∀ a, WQ P ops C Q rest a → K a) → if Region.wanted o (yielded ops a.tmps) then o.quiet P a C K else K (a.put o.dst undef)) : WQ P ops C Q (o :: rest) a :=
  ⟨wpQuiet_step fun K hK => h K fun a' h' => hK a' h'.out⟩
theorem WQ.nil {P : Program} {ops : Array Oper} {C : World → Prop} {Q : Act → Prop} {a : Act} (h : Q a) : WQ P ops C Q [] a := ⟨wpQuiet_nil h⟩
theorem wp_region_below {P : Program} {id : Nat} {Q : Exit → Act → World → Prop} {a : Act} {w : World} {l : List Oper} (hm : P.follows .mixedOrders = true) (hB : Region.lexB .any l.toArray = true)
    (h : WQ P l.toArray (fun w' => ∃ p : BelowBy w, w' = p.w) (fun a' => ∀ w', (∃ p : BelowBy w, w' = p.w) → Q .normal a' w') l a) : (Code.region id l.toArray true).wp P Q a w :=
  wp_region_quiet (C := fun w' => ∃ p : BelowBy w, w' = p.w) hm hB ⟨⟨w.drew, below_drew (Below.refl _ _) 1⟩, rfl⟩ (by simpa using h.out)
theorem below_of {P : Program} {f : FuncId} {args : Array Value} {W : World} {p : BelowBy W} {v : Value}
    (h : Calls P f args p.w fun e w' => e = .returned v ∧ Below p.w.heap.size p.w w') : Calls P f args p.w fun e w'' => e = .returned v ∧ ∃ q : BelowBy W, w'' = q.w :=
  h.mono fun _ w' ⟨he, hw⟩ => ⟨he, ⟨w', p.h.trans (hw.mono p.h.size)⟩, rfl⟩
theorem below_of_same {P : Program} {f : FuncId} {args : Array Value} {W : World} {p : BelowBy W} {v : Value}
    (h : Calls P f args p.w fun e w' => e = .returned v ∧ w' = p.w) : Calls P f args p.w fun e w'' => e = .returned v ∧ ∃ q : BelowBy W, w'' = q.w :=
  h.mono fun _ _ ⟨he, hw⟩ => ⟨he, p, hw⟩
theorem by_cell {W : World} {a : Addr} {v : Value} (h : W.cell? a = some v) (p : BelowBy W) : p.w.cell? a = some v := (p.h.cell (lt_of_cell h)).trans h
section
variable {P : Program} {C : World → Prop} {md : Region.Mode}
theorem ready_ex {ops : Array Oper} {listed : Array Bool} (hs : listed.size = ops.size) (hdown : ∀ (j : Nat) (oj : Oper), ops[j]? = some oj → ∀ e ∈ oj.after, e.on < j) :
    ∀ j, j < ops.size → listed.getD j true = false → Region.ready md ops listed ≠ [] := by
  intro j
  induction j using Nat.strongRecOn with
  | _ j ih =>
    intro hj hu
    by_cases h : ∃ i, i < j ∧ listed.getD i true = false
    · obtain ⟨i, hi, hu2⟩ := h
      exact ih i hi (by omega) hu2
    · have hm : j ∈ Region.ready md ops listed := mem_ready.2 ⟨hu, ops[j], Array.getElem?_eq_getElem hj, fun e he hb => by
        have hlt := hdown j _ (Array.getElem?_eq_getElem hj) e he
        have hsz : e.on < listed.size := by omega
        cases hl : listed.getD e.on true with
        | false => exact absurd ⟨e.on, hlt, hl⟩ h
        | true => simpa [hsz] using hl⟩
      intro hnil
      rw [hnil] at hm
      cases hm
theorem put_none (a : Act) (v : Value) : a.put none v = a := rfl
theorem wpAny_of_quiet_last {ops ops' : Array Oper} {n : Nat} {o o' : Oper} {Qa : Act → Prop} {Q' : Exit → Act → World → Prop}
    (hsz : ops'.size = ops.size) (hother : ∀ j, j ≠ n → ops'[j]? = ops[j]?) (hn : ops[n]? = some o) (hn' : ops'[n]? = some o')
    (haft : o'.after = o.after) (hdst : o.dst = none) (hdst' : o'.dst = none) (hg : o.guard = none) (hg' : o'.guard = none)
    (hdown : ∀ (j : Nat) (oj : Oper), ops[j]? = some oj → ∀ e ∈ oj.after, e.on < j) (hall : ∀ (j : Nat), j < ops.size → j ≠ n → ∃ e ∈ o.after, Region.binds md e = true ∧ e.on = j)
    (hQ : ∀ a w, C w → Qa a → o.wp P a w (fun a' w' => Q' .normal a' w') Q') :
    ∀ (fuel : Nat) (listed : Array Bool) (a : Act) (w : World), listed.size = ops.size → listed.getD n true = false → C w → wpAnyQ P md ops' C Qa fuel listed a → wpAny P md ops Q' fuel listed a w := by
  have hready : ∀ listed, Region.ready md ops' listed = Region.ready md ops listed := fun listed => by
    unfold Region.ready
    rw [hsz]
    congr 1
    funext i
    by_cases hin : i = n
    · subst hin; rw [hn, hn']; simp [haft]
    · rw [hother i hin]
  have hy : ∀ tmps, yielded ops' tmps = yielded ops tmps := fun tmps => by
    funext j
    unfold yielded
    by_cases hin : j = n
    · subst hin; rw [hn, hn']; simp [hdst, hdst']
    · rw [hother j hin]
  have hnlt : n < ops.size := (Array.getElem?_eq_some_iff.1 hn).1
  intro fuel
  induction fuel with
  | zero =>
    intro listed a w hs hu hw h
    have h1 := h.1
    rw [hready] at h1
    exact absurd h1 (ready_ex hs hdown n hnlt hu)
  | succ fuel ih =>
    intro listed a w hs hu hw h
    refine ⟨fun h0 => absurd h0 (ready_ex hs hdown n hnlt hu), fun i hi => ?_⟩
    have hq := h.2 i (by rw [hready]; exact hi)
    by_cases hin : i = n
    · subst hin
      unfold qOp at hq
      simp only [hn'] at hq
      rw [if_pos (by simp [Region.wanted, hg'])] at hq
      obtain ⟨v, _, hK⟩ := hq
      rw [hdst', put_none] at hK
      have hnil : Region.ready md ops (listed.setIfInBounds i true) = [] := by
        rw [List.eq_nil_iff_forall_not_mem]
        intro j hj
        obtain ⟨h0, oj, hoj, _⟩ := mem_ready.1 hj
        have hjlt : j < ops.size := (Array.getElem?_eq_some_iff.1 hoj).1
        by_cases hji : j = i
        · subst hji
          simp [hs, hjlt] at h0
        · obtain ⟨e, he, hb, hon⟩ := hall j hjlt hji
          obtain ⟨_, oi, hoi, hal⟩ := mem_ready.1 hi
          obtain rfl : oi = o := Option.some.inj (hoi.symm.trans hn)
          have h2 := hal e he hb
          rw [hon] at h2
          rw [getD_set_ne true (Ne.symm hji)] at h0
          have hjs : j < listed.size := by omega
          simp [hjs] at h0 h2
          rw [h0] at h2
          cases h2
      have hqa : Qa a := by
        cases fuel with
        | zero => exact hK.2
        | succ f => exact hK.1 (by rw [hready]; exact hnil)
      unfold wpOp
      simp only [hn]
      rw [if_pos (by simp [Region.wanted, hg])]
      refine .inl (Oper.wp_mono (fun a' w' hq' => ?_) (hQ a w hw hqa))
      cases fuel with
      | zero => exact ⟨hnil, hq'⟩
      | succ f => exact ⟨fun _ => hq', fun j hj => by rw [hnil] at hj; cases hj⟩
    · unfold qOp at hq
      rw [hother i hin, hy] at hq
      exact wpOp_of_qOp (C := C) hw (fun a' w' hw' hK => ih _ a' w' (by simp [hs]) (by rw [getD_set_ne true hin]; exact hu) hw' hK) (by unfold qOp; exact hq)
/-- In the last one's place: nothing. -/
def nop (o : Oper) : Oper := { dst := none, op := .move (.const (.bool true)), type := o.type, pos := o.pos, after := o.after, guard := none }
def lastB (l : List Oper) (n : Nat) (o : Oper) : Bool :=
  ((List.range l.length).all fun j => ((l[j]?).map fun oj => oj.after.all fun e => decide (e.on < j)).getD true) && ((List.range l.length).all fun j => decide (j = n) || o.after.any fun e => Region.binds .any e && decide (e.on = j))
theorem wp_region_last {id n : Nat} {Q : Exit → Act → World → Prop} {a : Act} {w : World} {l : List Oper} {o : Oper} (hm : P.follows .mixedOrders = true) (hn : l[n]? = some o) (hd : o.dst = none) (hg : o.guard = none)
    (hB : Region.lexB .any (l.set n (nop o)).toArray = true) (hL : lastB l n o = true)
    (h : WQ P (l.set n (nop o)).toArray (fun w' => ∃ p : BelowBy w, w' = p.w) (fun a' => ∀ w', (∃ p : BelowBy w, w' = p.w) → o.wp P a' w' (fun a'' w'' => Q .normal a'' w'') Q) (l.set n (nop o)) a) : (Code.region id l.toArray true).wp P Q a w := by
  have hlt : n < l.length := (List.getElem?_eq_some_iff.1 hn).1
  simp only [Region.lexB, Bool.and_eq_true] at hB
  simp only [lastB, Bool.and_eq_true, List.all_eq_true] at hL
  refine wp_region_any hm ?_
  have hq := wpAnyQ_lex (md := .any) hB.1 (l.set n (nop o)) 0 (Array.replicate (l.set n (nop o)).toArray.size false) a (by simp) (by simpa using hB.2) h.out
  refine wpAny_of_quiet_last (ops := l.toArray) (ops' := (l.set n (nop o)).toArray) (n := n) (o := o) (o' := nop o) (C := fun w' => ∃ p : BelowBy w, w' = p.w) (Qa := fun a' => ∀ w', (∃ p : BelowBy w, w' = p.w) → o.wp P a' w' (fun a'' w'' => Q .normal a'' w'') Q) (by simp) (fun j hj => by simp [List.getElem?_set_ne (Ne.symm hj)]) (by simpa using hn) (by simp [hlt]) rfl hd rfl hg rfl
    (fun j oj hj e he => ?_) (fun j hj hjn => ?_) (fun a w hw hq => hq w hw) _ _ _ _ (by simp) (by simp [hlt]) ⟨⟨w.drew, below_drew (Below.refl _ _) 1⟩, rfl⟩ (by simpa using hq)
  · have hj2 : l[j]? = some oj := by simpa using hj
    have hjl : j < l.length := (List.getElem?_eq_some_iff.1 hj2).1
    have := hL.1 j (List.mem_range.2 hjl)
    rw [hj2] at this
    simp only [Option.map_some, Option.getD_some] at this
    exact of_decide_eq_true ((Array.all_eq_true_iff_forall_mem.1 this) e he)
  · have := hL.2 j (List.mem_range.2 (by simpa using hj))
    simp only [Bool.or_eq_true, decide_eq_true_eq] at this
    rcases this with this | this
    · exact absurd this hjn
    · obtain ⟨e, he, hb⟩ := Array.any_eq_true'.1 this
      simp only [Bool.and_eq_true, decide_eq_true_eq] at hb
      exact ⟨e, he, hb.1, hb.2⟩
end
theorem kept_setRow6 (w : World) (g : Nat) (c : Array Value) : Kept (fun k => k = g) w (w.setRow g c) :=
  ⟨rfl, rfl, rfl, by show w.heap.size ≤ (w.heap.modify g _).size; simp, fun k h hn => by
    show (w.heap.modify g _)[k]? = _
    rw [Array.getElem?_modify, if_neg (fun e => hn (by rw [← e]))]⟩
theorem setRow_heap6 (w : World) (g : Nat) (c old : Array Value) (t : TypeId) (fr : Nat × Nat) (h : w.heap[g]? = some (.cells old t fr)) : (w.setRow g c).heap[g]? = some (.cells c t fr) := by
  show (w.heap.modify g _)[g]? = _
  rw [Array.getElem?_modify, if_pos rfl, h]; rfl
/-- A whole row stored. -/
theorem wp_store6 {P : Program} {op : Oper} {a : Act} {w : World} {K : Act → World → Prop} {Q : Exit → Act → World → Prop} (ty : TypeId) (x y : Operand) (ho : op.op = .store ty x y)
    (g : Nat) (cells : Array Value) (hx : a.eval x = .pointer (some ⟨g, 0, none⟩)) (hy : a.eval y = .agg cells) (old : Array Value) (t : TypeId) (hg : w.heap[g]? = some (.cells old t (0, 0)))
    (hi : (P.info? ty).map (·.size) = some cells.size) (hs : old.size = cells.size) (h1 : cells.all (·.oneCell') = true)
    (h : ∀ w2, w2.heap[g]? = some (.cells cells t (0, 0)) → Kept (fun k => k = g) w w2 → K (a.put op.dst undef) w2) : op.wp P a w K Q := by
  unfold Oper.wp execOp
  simp only [ho, hx, hy, Instr.storeAt, Instr.sureAddr, Sem.run_bind, Sem.run_pure, Result.andThen_ok, run_storeVar_row w g t ty old cells hg hi hs h1]
  exact h _ (setRow_heap6 w g cells old t _ hg) (kept_setRow6 _ _ _)
end Go.Proofs.Ytlfffpgokemjbab.U
