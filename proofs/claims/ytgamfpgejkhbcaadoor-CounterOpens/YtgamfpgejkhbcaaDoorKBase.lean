/- Rows of bytes, arrays that are filled place by place, steps of a region that draws. -/
import Derived.Test.YtgamfpgejkhbcaaDoorWorld
import Derived.Deep.WholeRow
import Derived.Laws.ResultCell
import Derived.Deep.LoopGhost
import Derived.Handy
import Derived.OwnWalk
import Derived.Deep.MidRow
import Derived.BigRegion
import Derived.Laws.AppendOwnNone
import Derived.Deep.DeepCutAuto
import Derived.Deep.RegionWith
import Derived.Deep.RegionLaw
import Derived.Laws.CopyOwn
import Derived.Deep.DeepFit
import Derived.WalkMore
import Derived.Maps.AppendAt
import Derived.Deep.RegionHeld3
namespace Go.Proofs.YtgamfpgejkhbcaaDoor.K
set_option maxRecDepth 100000
open Go Go.RowKit

/-- Bytes. -/
def By (xs : List Nat) : Prop := ∀ x ∈ xs, x < 256
theorem By.getD {xs : List Nat} (h : By xs) (i : Nat) : xs.getD i 0 < 256 := by
  by_cases hi : i < xs.length
  · have := h _ (List.getElem_mem hi); simpa [List.getD, hi] using this
  · simp [List.getD, List.getElem?_eq_none (Nat.le_of_not_lt hi)]
theorem By.take {xs : List Nat} (h : By xs) (n : Nat) : By (xs.take n) := fun x hx => h x (List.mem_of_mem_take hx)
theorem By.drop {xs : List Nat} (h : By xs) (n : Nat) : By (xs.drop n) := fun x hx => h x (List.mem_of_mem_drop hx)
theorem By.append {xs ys : List Nat} (h : By xs) (k : By ys) : By (xs ++ ys) := fun x hx => by
  rcases List.mem_append.1 hx with h' | h'
  · exact h x h'
  · exact k x h'
theorem hide {p : Prop} (h : p) : Hid p := h
/-- N places, of which the first t hold f's numbers, and the others 0. -/
def fA (K : IntKind) (N : Nat) (f : Nat → Nat) (t : Nat) : Array Value := ((List.range N).map fun i => Value.int K ((if i < t then f i else 0 : Nat) : Int)).toArray
theorem fA_size (K : IntKind) (N : Nat) (f : Nat → Nat) (t : Nat) : (fA K N f t).size = N := by simp [fA]
theorem fA_zero (K : IntKind) (N : Nat) (f : Nat → Nat) : fA K N f 0 = Array.replicate N (.int K 0) := by
  apply Array.ext_getElem?
  intro i
  simp only [fA, List.getElem?_toArray, List.getElem?_map, Array.getElem?_replicate]
  by_cases h : i < N <;> simp [h]
theorem fA_at (K : IntKind) {N : Nat} (f : Nat → Nat) {t i : Nat} (h : i < N) (hi : i < t) : (fA K N f t)[i]? = some (.int K (f i : Nat)) := by
  simp [fA, h, hi]
theorem fA_get (K : IntKind) {N : Nat} (f : Nat → Nat) {t i : Nat} (h : i < N) : (fA K N f t)[i]? = some (.int K ((if i < t then f i else 0 : Nat) : Int)) := by
  simp [fA, h]
theorem fA_not (K : IntKind) {N : Nat} (f : Nat → Nat) {t : Nat} (h : t < N) : (fA K N f t)[t]? = some (.int K 0) := by
  simp [fA, h]
theorem fA_set (K : IntKind) {N : Nat} (f : Nat → Nat) {t : Nat} (h : t < N) : (fA K N f t).setIfInBounds t (.int K (f t : Nat)) = fA K N f (t + 1) := by
  apply Array.ext_getElem?
  intro i
  rw [Array.getElem?_setIfInBounds, fA_size]
  by_cases hi : t = i
  · subst hi
    simp [fA, h]
  · by_cases h2 : i < N
    · have : (i < t) ↔ (i < t + 1) := by omega
      simp [fA, hi, h2, this]
    · simp [fA, hi, h2]
theorem fA_one (K : IntKind) (N : Nat) (f : Nat → Nat) (t : Nat) : (fA K N f t).all (·.oneCell') = true := by
  simp [fA, Value.oneCell']
theorem fA_congr (K : IntKind) (N : Nat) {f f' : Nat → Nat} (h : ∀ i, i < N → f i = f' i) (t : Nat) : fA K N f t = fA K N f' t := by
  unfold fA
  congr 1
  apply List.map_congr_left
  intro i hi
  rw [h i (by simpa using hi)]

theorem lt_of_block' {w : World} {b : Nat} {o : Obj} (h : w.heap[b]? = some o) : b < w.heap.size := by
  rcases Nat.lt_or_ge b w.heap.size with h' | h'
  · exact h'
  · rw [Array.getElem?_eq_none h'] at h; simp at h
theorem heap_old {w : World} {o : Obj} {b : Nat} {p : Obj} (h : w.heap[b]? = some p) : (w.alloc o).heap[b]? = some p := by
  rw [Below.heap_alloc _ _ _ (lt_of_block' h)]; exact h
theorem wpList_load_row {P : Program} {ops : Array Oper} {rest : List Oper} {op : Oper} {a : Act} {w : World} {Q : Exit → Act → World → Prop} (hgd : op.guard = none) (ty : TypeId) (x : Operand) (ho : op.op = .load ty x)
    (g : Nat) (hx : a.eval x = .pointer (some ⟨g, 0, none⟩)) (cs : Array Value) (t : TypeId) (fr : Nat × Nat) (hg : w.heap[g]? = some (.cells cs t fr)) (d : TypeDesc)
    (hu : P.underlying ty = some d) (hd : (match d with | .struct _ | .array _ _ => true | _ => false) = true) (hi : (P.info? ty).map (·.size) = some cs.size)
    (h : wpList P ops Q rest (a.put op.dst (.agg cs)) w) : wpList P ops Q (op :: rest) a w :=
  wpList_plain hgd fun _ hK => by
    unfold Oper.wp execOp
    simp only [ho, hx, Instr.loadAt, Instr.sureAddr, Sem.run_bind, Sem.run_pure, Result.andThen_ok, run_loadVar_row w g t ty cs fr d hg hu hd hi]
    exact hK _ _ h
theorem kept_setRow (M : Nat → Prop) (w : World) (g : Nat) (c : Array Value) (h : M g) : Kept M w (w.setRow g c) :=
  ⟨rfl, rfl, rfl, by simp [World.setRow], fun k _ hn => by
    show (w.heap.modify g _)[k]? = _
    rw [Array.getElem?_modify, if_neg (fun e => hn (by rw [← e]; exact h))]⟩
theorem setRow_heap' (w : World) (g : Nat) (c old : Array Value) (t : TypeId) (fr : Nat × Nat) (h : w.heap[g]? = some (.cells old t fr)) : (w.setRow g c).heap[g]? = some (.cells c t fr) := by
  show (w.heap.modify g _)[g]? = _
  rw [Array.getElem?_modify, if_pos rfl, h]; rfl
/-- A whole array stored: what the block holds then, and that all else is kept. -/
theorem wpList_store_row {P : Program} {ops : Array Oper} {rest : List Oper} {op : Oper} {a : Act} {w : World} {Q : Exit → Act → World → Prop} (hgd : op.guard = none) (ty : TypeId) (x y : Operand) (ho : op.op = .store ty x y)
    (g : Nat) (cells : Array Value) (hx : a.eval x = .pointer (some ⟨g, 0, none⟩)) (hy : a.eval y = .agg cells) (old : Array Value) (t : TypeId) (hg : w.heap[g]? = some (.cells old t (0, 0)))
    (hi : (P.info? ty).map (·.size) = some cells.size) (hs : old.size = cells.size) (h1 : cells.all (·.oneCell') = true)
    (h : ∀ w2, Hid (w2.heap[g]? = some (.cells cells t (0, 0))) → Hid (Kept (fun k => k = g) w w2) → wpList P ops Q rest (a.put op.dst undef) w2) : wpList P ops Q (op :: rest) a w :=
  wpList_plain hgd fun _ hK => by
    unfold Oper.wp execOp
    simp only [ho, hx, hy, Instr.storeAt, Instr.sureAddr, Sem.run_bind, Sem.run_pure, Result.andThen_ok, run_storeVar_row w g t ty old cells hg hi hs h1]
    exact hK _ _ (h _ (setRow_heap' w g cells old t _ hg) (kept_setRow _ _ _ _ rfl))

theorem addr_plain (b off i : Nat) : ((⟨b, off, none⟩ : Addr).add i) = ⟨b, off + i, none⟩ := by unfold Addr.add; split <;> simp_all
theorem infoB : (Tryd.prog.info? 5).map (fun i => (i.zero, i.size, i.bytes)) = some (some (.int .u8 0), 1, 1) := by kernel_rfl
theorem size5 (w : World) : (sizeOf 5).run Tryd.prog w = .ok 1 w := by
  obtain ⟨i5, hi5, _, hs5, _⟩ := info_parts infoB
  simp [sizeOf, typeInfo, hi5, hs5]
/-- The bytes xs lie in block b from o on. -/
def Bs (w : World) (b o : Nat) (xs : List Nat) : Prop := ∀ i, i < xs.length → w.cell? ⟨b, o + i, none⟩ = some (.int .u8 (xs.getD i 0 : Nat))
theorem Bs.kept {M : Nat → Prop} {w w' : World} {b o : Nat} {xs : List Nat} (h : Bs w b o xs) (k : Kept M w w') (hb : b < w.heap.size) (hn : ¬ M b) : Bs w' b o xs := fun i hi => (k.cell (p := ⟨b, o + i, none⟩) hb hn).trans (h i hi)
theorem Bs.below {B : Nat} {w w' : World} {b o : Nat} {xs : List Nat} (h : Bs w b o xs) (k : Below B w w') (hb : b < B) : Bs w' b o xs := fun i hi => (k.cell (p := ⟨b, o + i, none⟩) hb).trans (h i hi)
theorem elemB : Tryd.prog.elem 22 = 5 := by kernel_rfl
def bV (xs : List Nat) : List Value := xs.map fun (x : Nat) => Value.int .u8 (x : Int)
theorem bV_app (xs ys : List Nat) : bV (xs ++ ys) = bV xs ++ bV ys := by simp [bV]
theorem bV_one (xs : List Nat) : ∀ u ∈ bV xs, u.oneCell' = true := fun u hu => by simp [bV] at hu; obtain ⟨x, _, rfl⟩ := hu; rfl
/-- Bytes in a row of one's own. -/
def OwnsB (w : World) (base : Nat) (v : Value) (xs : List Nat) : Prop := w.ownsRow base 5 1 v xs.length (bV xs)
theorem OwnsB.nil (w : World) (base : Nat) : OwnsB w base (.slice none 0 0) [] := World.ownsRow_nil _ _ _ _
theorem OwnsB.empty (w : World) (base : Nat) (hb : base ≤ w.heap.size) : OwnsB (w.alloc (.cells #[] 5)) base (.slice (some ⟨w.heap.size, 0, none⟩) 0 0) [] := World.ownsRow_made _ _ _ hb (by decide) rfl
theorem OwnsB.form {w : World} {base : Nat} {v : Value} {xs : List Nat} (h : OwnsB w base v xs) : ∃ a c, v = .slice a xs.length c ∧ xs.length ≤ c ∧ c ≤ maxLen ∧ (a = none → xs.length = 0 ∧ c = 0) := by
  rcases h.2 with ⟨rfl, h2⟩ | ⟨g, cap, cur, rfl, _, _, h3, h4, _⟩
  · exact ⟨none, 0, by rw [h2], by omega, by decide, fun _ => ⟨h2, rfl⟩⟩
  · exact ⟨_, _, rfl, h3, h4, fun e => by cases e⟩
theorem OwnsB.bs {w : World} {base : Nat} {a : Option Addr} {n c : Nat} {xs : List Nat} (h : OwnsB w base (.slice a n c) xs) : xs.length = 0 ∨ ∃ g, a = some ⟨g, 0, none⟩ ∧ base ≤ g ∧ g < w.heap.size ∧ Bs w g 0 xs := by
  rcases h.2 with ⟨e, h2⟩ | ⟨g, cap, cur, e, hb, hh, _⟩
  · exact .inl h2
  · simp only [Value.slice.injEq] at e
    obtain ⟨rfl, rfl, rfl⟩ := e
    refine .inr ⟨g, rfl, hb, lt_of_block hh, fun j hj => ?_⟩
    rw [Nat.zero_add, World.ownsRow.cellAt h j (by omega)]
    simp [bV, hj]
theorem OwnsB.drewN {w : World} {base : Nat} {v : Value} {xs : List Nat} (h : OwnsB w base v xs) (n : Nat) : OwnsB (w.drewN n) base v xs := h
theorem OwnsB.stay {w w' : World} {base : Nat} {v : Value} {xs : List Nat} (h : OwnsB w base v xs) (k : Below w.heap.size w w') : OwnsB w' base v xs :=
  ownsRow_kept h (Kept.of_below k) (fun g hg hn => by have := (ownsRow_lt h hg).2; omega)
theorem growB {w0 wx wy : World} {v : Value} {xs : List Nat} (h : OwnsB wx w0.heap.size v xs) (hb : Below w0.heap.size w0 wx) (hg : wx.grownBy wy v.ownBlock) : Below w0.heap.size w0 wy :=
  hb.trans ((Kept.of_grown hg).below hb.size (fun i hi e => by have := (ownsRow_lt h e.symm).1; omega))
/-- Bytes where a slice leads. -/
def TextAt (w : World) (a : Option Addr) (ys : List Nat) : Prop := ys.length = 0 ∨ ∃ b off, a = some ⟨b, off, none⟩ ∧ b < w.heap.size ∧ Bs w b off ys
theorem TextAt.below {w w' : World} {a : Option Addr} {ys : List Nat} (h : TextAt w a ys) (k : Below w.heap.size w w') : TextAt w' a ys := by
  rcases h with h | ⟨b, off, e, hb, hs⟩
  · exact .inl h
  · exact .inr ⟨b, off, e, Nat.lt_of_lt_of_le hb k.size, hs.below k hb⟩
theorem OwnsB.text {w : World} {base : Nat} {a : Option Addr} {n c : Nat} {xs : List Nat} (h : OwnsB w base (.slice a n c) xs) : TextAt w a xs := by
  rcases h.bs with h | ⟨g, e, _, h2, h3⟩
  · exact .inl h
  · exact .inr ⟨g, 0, e, h2, h3⟩
theorem wpList_appB {ops : Array Oper} {rest : List Oper} {o : Oper} {act : Act} {Q : Exit → Act → World → Prop} (w : World) (hgd : o.guard = none) (s x : Operand)
    (ho : o.op = .call { callee := .builtin .append, args := #[s, x], argTypes := #[22, 22] })
    (base : Nat) (v : Value) (X : List Nat) (hs : act.eval s = v) (hown : OwnsB w base v X) (a : Option Addr) (len cap : Nat) (hx : act.eval x = .slice a len cap) (Y XY : List Nat) (hXY : X ++ Y = XY) (hl : Y.length = len) (hb : TextAt w a Y)
    (hnone : a = none → len = 0 ∧ cap = 0) (hbound : X.length + len ≤ 140737488355328) (hbase : base ≤ w.heap.size)
    (h : ∀ v' w', OwnsB w' base v' XY → w.grownBy w' v.ownBlock → wpList Tryd.prog ops Q rest (act.put o.dst v') w') : wpList Tryd.prog ops Q (o :: rest) act w := by
  obtain ⟨i5, hi5, hz5, hs5, hb5⟩ := info_parts infoB
  subst hXY
  cases a with
  | none =>
    obtain ⟨rfl, rfl⟩ := hnone rfl
    have hY := List.eq_nil_of_length_eq_zero hl
    subst hY
    refine wpList_append_own_none hgd s x 22 ho base 5 i5 1 Tryd.underlying22 hi5 v X.length (bV X) hs hown hx ?_
    exact h v w (by simpa using hown) ⟨rfl, rfl, rfl, Nat.le_refl _, fun _ _ _ => rfl⟩
  | some ad =>
    refine wpList_append_own w hgd s x 22 ho base 5 i5 (.int .u8 0) 1 1 Tryd.underlying22 hi5 hz5 hs5 hb5 rfl (by decide) v X.length (bV X) hs hown ad len cap (bV Y) hx (by simp [bV]; exact hl) (fun j u hj => ?_) (bV_one Y) (by unfold maxLen; omega) (by omega) hbase ?_
    · have hjl : j < Y.length := by
        rcases Nat.lt_or_ge j Y.length with h' | h'
        · exact h'
        · rw [List.getElem?_eq_none (by simpa [bV] using h')] at hj; cases hj
      rcases hb with h0 | ⟨b, off, e, _, hc⟩
      · omega
      · obtain rfl := Option.some.inj e
        rw [addr_plain, hc j hjl, ← hj]
        simp [bV, hjl]
    · intro v' w' h1 h2 _
      refine h v' w' ?_ h2
      unfold OwnsB
      rw [List.length_append, hl, bV_app]
      exact h1

theorem one_byte (w : World) (x : Nat) : TextAt (w.alloc (.cells #[.int .u8 (x : Int)] 5)) (some ⟨w.heap.size, 0, none⟩) [x] := .inr ⟨w.heap.size, 0, rfl, by simp, fun i hi => by
  have h0 : i = 0 := by simpa using hi
  subst h0
  exact cells_of (heap_new w _) 0⟩
theorem ofInt8 (a : Nat) (ha : a < 256) : (BitVec.ofInt 8 (a : Int)).toNat = a := by
  rw [BitVec.ofInt_natCast, BitVec.toNat_ofNat]; exact Nat.mod_eq_of_lt (by omega)
theorem wrap8' (n : Int) : IntKind.u8.wrap n = n % 256 := by simp [IntKind.wrap, IntKind.signed, IntKind.bits]
theorem xor8_lt {a b : Nat} (ha : a < 256) (hb : b < 256) : a ^^^ b < 256 := by
  have := @Nat.xor_lt_two_pow a b 8 (by omega) (by omega)
  omega
theorem xor8 (a b : Nat) (ha : a < 256) (hb : b < 256) : bits .xor .u8 (a : Int) (b : Int) = ((a ^^^ b : Nat) : Int) := by
  have hx := xor8_lt ha hb
  show IntKind.u8.wrap ((BitVec.ofInt 8 (a : Int) ^^^ BitVec.ofInt 8 (b : Int)).toNat : Int) = _
  rw [BitVec.toNat_xor, ofInt8 a ha, ofInt8 b hb, wrap8']
  omega
/-- A byte of a row of one's own is written. -/
theorem OwnsB.set {w : World} {base g n c : Nat} {xs : List Nat} (h : OwnsB w base (.slice (some ⟨g, 0, none⟩) n c) xs) (i y : Nat) : OwnsB (w.setCell ⟨g, i, none⟩ (.int .u8 (y : Int))) base (.slice (some ⟨g, 0, none⟩) n c) (xs.set i y) := by
  have hv := h.2
  rcases hv with ⟨e, _⟩ | ⟨g', cap, cur, e, hb, hh, hc, hm, hs, ht⟩
  · cases e
  · simp only [Value.slice.injEq, Option.some.injEq, Addr.mk.injEq, and_true] at e
    obtain ⟨rfl, rfl, rfl⟩ := e
    refine ⟨by simp [bV], .inr ⟨g, c, _, by rw [List.length_set], hb, set_of hh i _, by rw [List.length_set]; exact hc, hm, by rw [Array.size_setIfInBounds]; exact hs, ?_⟩⟩
    rw [List.length_set, Array.toList_setIfInBounds, List.take_set, ht]
    simp [bV, List.map_set]
theorem OwnsB.some_ {w : World} {base : Nat} {a : Option Addr} {n c : Nat} {xs : List Nat} (h : OwnsB w base (.slice a n c) xs) (h0 : 0 < xs.length) : ∃ g, a = some ⟨g, 0, none⟩ ∧ base ≤ g ∧ w.heap[g]? ≠ none ∧ (∀ j, j < xs.length → w.cell? ⟨g, j, none⟩ = some (.int .u8 (xs.getD j 0 : Nat))) ∧ ∀ j, w.frozen? ⟨g, j, none⟩ = false := by
  have hv := h.2
  rcases hv with ⟨e, h2⟩ | ⟨g, cap, cur, e, hb, hh, _⟩
  · omega
  · simp only [Value.slice.injEq] at e
    obtain ⟨rfl, rfl, rfl⟩ := e
    refine ⟨g, rfl, hb, by rw [hh]; simp, fun j hj => ?_, fun j => free_of hh j⟩
    rw [World.ownsRow.cellAt h j (by omega)]
    simp [bV, hj]
/-- A call, at a step of a region that draws its order. -/
theorem step_call {ops : Array Oper} {o : Oper} {a : Act} {K : Act → World → Prop} {Q : Exit → Act → World → Prop} {E : Prop} {w : World} (hgd : o.guard = none) (f : FuncId) (args : Array Value) (hrun : (execOp a.eval o).run Tryd.prog w = .ok (.enter f args) w)
    {post : Ending → World → Prop} (hc : Calls Tryd.prog f args w post) (h : ∀ e w', post e w' → ∃ v, e = .returned v ∧ K (a.put o.dst v) w') :
    if Region.wanted o (yielded ops a.tmps) = true then Oper.wp Tryd.prog o a w K Q else E := by
  have hw : Region.wanted o (yielded ops a.tmps) = true := by simp [Region.wanted, hgd]
  rw [if_pos hw]
  unfold Oper.wp
  rw [hrun, Oper.upon_enter]
  refine hc.mono fun e w'' hh => ?_
  obtain ⟨v, rfl, hk⟩ := h _ _ hh
  exact hk
/-- A whole array loaded, at such a step. -/
theorem step_load {P : Program} {ops : Array Oper} {op : Oper} {a : Act} {w : World} {K : Act → World → Prop} {Q : Exit → Act → World → Prop} {E : Prop} (hgd : op.guard = none) (ty : TypeId) (x : Operand) (ho : op.op = .load ty x)
    (g : Nat) (hx : a.eval x = .pointer (some ⟨g, 0, none⟩)) (cs : Array Value) (t : TypeId) (fr : Nat × Nat) (hg : w.heap[g]? = some (.cells cs t fr)) (d : TypeDesc)
    (hu : P.underlying ty = some d) (hd : (match d with | .struct _ | .array _ _ => true | _ => false) = true) (hi : (P.info? ty).map (·.size) = some cs.size)
    (h : K (a.put op.dst (.agg cs)) w) :
    if Region.wanted op (yielded ops a.tmps) = true then Oper.wp P op a w K Q else E := by
  have hw : Region.wanted op (yielded ops a.tmps) = true := by simp [Region.wanted, hgd]
  rw [if_pos hw]
  unfold Oper.wp execOp
  simp only [ho, hx, Instr.loadAt, Instr.sureAddr, Sem.run_bind, Sem.run_pure, Result.andThen_ok, run_loadVar_row w g t ty cs fr d hg hu hd hi]
  exact h
/-- A load of a whole array may be taken first where all worlds of the region hold it. -/
theorem yields_row {P : Program} {ops : Array Oper} {S : World → Prop} {op : Oper} {a : Act} (hw : Region.wanted op (yielded ops a.tmps) = true) (ty : TypeId) (x : Operand) (ho : op.op = .load ty x)
    (g : Nat) (hx : a.eval x = .pointer (some ⟨g, 0, none⟩)) (cs : Array Value) (t : TypeId) (fr : Nat × Nat) (hS : ∀ w, S w → w.heap[g]? = some (.cells cs t fr)) (d : TypeDesc)
    (hu : P.underlying ty = some d) (hd : (match d with | .struct _ | .array _ _ => true | _ => false) = true) (hi : (P.info? ty).map (·.size) = some cs.size) : YieldsIf P ops S op (.agg cs) a :=
  .inl ⟨hw, fun w hw' => by
    unfold execOp
    simp only [ho, hx, Instr.loadAt, Instr.sureAddr, Sem.run_bind, Sem.run_pure, Result.andThen_ok, run_loadVar_row w g t ty cs fr d (hS w hw') hu hd hi]⟩
/-- A new variable, at such a step. -/
theorem step_alloc {P : Program} {ops : Array Oper} {op : Oper} {a : Act} {w : World} {K : Act → World → Prop} {Q : Exit → Act → World → Prop} {E : Prop} (hgd : op.guard = none) (ty : TypeId) (ho : op.op = .alloc ty)
    (cells : Array Value) (hz : ∀ w, (zeroValue ty).run P w = .ok (.agg cells) w) (h : K (a.put op.dst (.pointer (some ⟨w.heap.size, 0, none⟩))) (w.alloc (.cells cells ty))) :
    if Region.wanted op (yielded ops a.tmps) = true then Oper.wp P op a w K Q else E := by
  have hw : Region.wanted op (yielded ops a.tmps) = true := by simp [Region.wanted, hgd]
  rw [if_pos hw]
  unfold Oper.wp execOp
  simp [ho, Instr.alloc, hz, newVar, Value.cells]
  exact h
/-- A whole array stored, at such a step. -/
theorem step_store {ops : Array Oper} {op : Oper} {a : Act} {w : World} {K : Act → World → Prop} {Q : Exit → Act → World → Prop} {E : Prop} (hgd : op.guard = none) (ty : TypeId) (x y : Operand) (ho : op.op = .store ty x y)
    (g : Nat) (cells : Array Value) (hx : a.eval x = .pointer (some ⟨g, 0, none⟩)) (hy : a.eval y = .agg cells) (old : Array Value) (t : TypeId) (hg : w.heap[g]? = some (.cells old t (0, 0)))
    (hi : (Tryd.prog.info? ty).map (·.size) = some cells.size) (hs : old.size = cells.size) (h1 : cells.all (·.oneCell') = true)
    (h : ∀ w2, Hid (w2.heap[g]? = some (.cells cells t (0, 0))) → Hid (Kept (fun k => k = g) w w2) → K (a.put op.dst undef) w2) :
    if Region.wanted op (yielded ops a.tmps) = true then Oper.wp Tryd.prog op a w K Q else E := by
  have hw : Region.wanted op (yielded ops a.tmps) = true := by simp [Region.wanted, hgd]
  rw [if_pos hw]
  unfold Oper.wp execOp
  simp only [ho, hx, hy, Instr.storeAt, Instr.sureAddr, Sem.run_bind, Sem.run_pure, Result.andThen_ok, run_storeVar_row w g t ty old cells hg hi hs h1]
  exact h _ (setRow_heap' w g cells old t _ hg) (kept_setRow _ _ _ _ rfl)
/-- Bytes appended to a row of one's own, at such a step. -/
theorem step_appB {ops : Array Oper} {o : Oper} {act : Act} {K : Act → World → Prop} {Q : Exit → Act → World → Prop} {E : Prop} (w : World) (hgd : o.guard = none) (s x : Operand)
    (ho : o.op = .call { callee := .builtin .append, args := #[s, x], argTypes := #[22, 22] })
    (base : Nat) (v : Value) (X : List Nat) (hs : act.eval s = v) (hown : OwnsB w base v X) (ad : Addr) (len cap : Nat) (hx : act.eval x = .slice (some ad) len cap) (Y : List Nat) (hl : Y.length = len) (hb : TextAt w (some ad) Y)
    (hbound : X.length + len ≤ 140737488355328) (hbase : base ≤ w.heap.size)
    (h : ∀ v' w', OwnsB w' base v' (X ++ Y) → w.grownBy w' v.ownBlock → K (act.put o.dst v') w') :
    if Region.wanted o (yielded ops act.tmps) = true then Oper.wp Tryd.prog o act w K Q else E := by
  obtain ⟨i5, hi5, hz5, hs5, hb5⟩ := info_parts infoB
  have hw : Region.wanted o (yielded ops act.tmps) = true := by simp [Region.wanted, hgd]
  rw [if_pos hw]
  obtain ⟨v', w', hr, h1, h2, _⟩ := run_append_own (P := Tryd.prog) w base 22 o.type 5 i5 (.int .u8 0) 1 1 Tryd.underlying22 hi5 hz5 hs5 hb5 rfl (by decide) v X.length (bV X) hown ad len cap (bV Y) (by simp [bV]; exact hl) (fun j u hj => by
    have hjl : j < Y.length := by
      rcases Nat.lt_or_ge j Y.length with h' | h'
      · exact h'
      · rw [List.getElem?_eq_none (by simpa [bV] using h')] at hj; cases hj
    rcases hb with h0 | ⟨b, off, e, _, hc⟩
    · omega
    · obtain rfl := Option.some.inj e
      rw [addr_plain, hc j hjl, ← hj]
      simp [bV, hjl]) (bV_one Y) (by unfold maxLen; omega) (by omega) hbase
  unfold Oper.wp execOp
  simp only [ho, resolve, invoke, builtin, Sem.run_bind, Sem.run_pure, Result.andThen_ok, List.map_toArray, List.map_cons, List.map_nil, hs, hx, hr]
  refine h v' w' ?_ h2
  unfold OwnsB
  rw [List.length_append, hl, bV_app]
  exact h1

theorem OwnsB.low {w : World} {base base' : Nat} {v : Value} {xs : List Nat} (h : OwnsB w base v xs) (hb : base' ≤ base) : OwnsB w base' v xs := by
  refine ⟨h.1, ?_⟩
  rcases h.2 with h2 | ⟨g, cap, cur, e, h3, r⟩
  · exact .inl h2
  · exact .inr ⟨g, cap, cur, e, Nat.le_trans hb h3, r⟩
end Go.Proofs.YtgamfpgejkhbcaaDoor.K
