/- Rows of bytes of one's own, arrays of 20 and of 64 bytes, steps of a region that draws. -/
import Derived.Test.YtgamfpgejkhbcaaDoorSSum
import Derived.Test.YtgamfpgejkhbcaaDoorSOwn
import Derived.Test.YtgamfpgejkhbcaaDoorHMath
import Derived.Deep.RegionHeld3
namespace Go.Proofs.YtgamfpgejkhbcaaDoor.S
set_option maxRecDepth 100000
open Go Go.RowKit

theorem ofInt8 (a : Nat) (ha : a < 256) : (BitVec.ofInt 8 (a : Int)).toNat = a := by
  rw [BitVec.ofInt_natCast, BitVec.toNat_ofNat]; exact Nat.mod_eq_of_lt (by omega)
theorem wrap8' (n : Int) : IntKind.u8.wrap n = n % 256 := by simp [IntKind.wrap, IntKind.signed, IntKind.bits]
theorem xor8_lt {a b : Nat} (ha : a < 256) (hb : b < 256) : a ^^^ b < 256 := by
  have := @Nat.xor_lt_two_pow a b 8 (by omega) (by omega)
  omega
theorem xor8 (a b : Nat) (ha : a < 256) (hb : b < 256) : bits .xor .u8 (a : Int) (b : Int) = ((a ^^^ b : Nat) : Int) := by
  have hx := xor8_lt ha hb
  show IntKind.u8.wrap ((BitVec.ofInt 8 (a : Int) ^^^ BitVec.ofInt 8 (b : Int)).toNat : Int) = _
  rw [BitVec.toNat_xor, ofInt8 a ha, ofInt8 b hb, wrap8']
  omega
/-- A byte of a row of one's own is written. -/
theorem OwnsB.set {w : World} {base g n c : Nat} {xs : List Nat} (h : OwnsB w base (.slice (some ⟨g, 0, none⟩) n c) xs) (i y : Nat) : OwnsB (w.setCell ⟨g, i, none⟩ (.int .u8 (y : Int))) base (.slice (some ⟨g, 0, none⟩) n c) (xs.set i y) := by
  have hv := h.2
  rcases hv with ⟨e, _⟩ | ⟨g', cap, cur, e, hb, hh, hc, hm, hs, ht⟩
  · cases e
  · simp only [Value.slice.injEq, Option.some.injEq, Addr.mk.injEq, and_true] at e
    obtain ⟨rfl, rfl, rfl⟩ := e
    refine ⟨by simp [bV], .inr ⟨g, c, _, by rw [List.length_set], hb, set_of hh i _, by rw [List.length_set]; exact hc, hm, by rw [Array.size_setIfInBounds]; exact hs, ?_⟩⟩
    rw [List.length_set, Array.toList_setIfInBounds, List.take_set, ht]
    simp [bV, List.map_set]
theorem OwnsB.some_ {w : World} {base : Nat} {a : Option Addr} {n c : Nat} {xs : List Nat} (h : OwnsB w base (.slice a n c) xs) (h0 : 0 < xs.length) : ∃ g, a = some ⟨g, 0, none⟩ ∧ base ≤ g ∧ w.heap[g]? ≠ none ∧ (∀ j, j < xs.length → w.cell? ⟨g, j, none⟩ = some (.int .u8 (xs.getD j 0 : Nat))) ∧ ∀ j, w.frozen? ⟨g, j, none⟩ = false := by
  have hv := h.2
  rcases hv with ⟨e, h2⟩ | ⟨g, cap, cur, e, hb, hh, _⟩
  · omega
  · simp only [Value.slice.injEq] at e
    obtain ⟨rfl, rfl, rfl⟩ := e
    refine ⟨g, rfl, hb, by rw [hh]; simp, fun j hj => ?_, fun j => free_of hh j⟩
    rw [World.ownsRow.cellAt h j (by omega)]
    simp [bV, hj]
/-- The first i bytes xored. -/
def flipL (ks : List Nat) (x i : Nat) : List Nat := (ks.take i).map (· ^^^ x) ++ ks.drop i
theorem flipL_length (ks : List Nat) (x i : Nat) : (flipL ks x i).length = ks.length := by simp [flipL]; omega
theorem flipL_at (ks : List Nat) (x : Nat) {i : Nat} (h : i < ks.length) : (flipL ks x i).getD i 0 = ks.getD i 0 := by
  have hl : ((ks.take i).map (· ^^^ x)).length = i := by simp; omega
  simp only [flipL, List.getD]
  rw [List.getElem?_append_right (by omega), hl, Nat.sub_self, List.getElem?_drop]
  rfl
theorem flipL_set (ks : List Nat) (x : Nat) {i : Nat} (h : i < ks.length) : (flipL ks x i).set i (ks.getD i 0 ^^^ x) = flipL ks x (i + 1) := by
  have hl : ((ks.take i).map (· ^^^ x)).length = i := by simp; omega
  unfold flipL
  rw [List.set_append_right _ _ (by omega), hl, Nat.sub_self, List.drop_eq_getElem_cons h, List.set_cons_zero, List.take_add_one, List.getElem?_eq_getElem h]
  rw [List.map_append, List.append_assoc]
  simp [List.getD, h]
theorem flipL_end (ks : List Nat) (x : Nat) : flipL ks x ks.length = ks.map (· ^^^ x) := by simp [flipL]
theorem flipL_zero (ks : List Nat) (x : Nat) : flipL ks x 0 = ks := by simp [flipL]
theorem all20 : Tryd.prog.arrayLen 55 = 20 := by kernel_rfl
theorem elem20 : Tryd.prog.elem 55 = 5 := by kernel_rfl
theorem slice20 (W : World) (b : Nat) : (Instr.sliceAt 55 (.pointer (some ⟨b, 0, none⟩)) none none none).run Tryd.prog W = .ok (.slice (some ⟨b, 0, none⟩) 20 20) W := by
  rw [run_sliceAt_array_all W 55 ⟨b, 0, none⟩ (by kernel_rfl), all20, elem20, size5]
  simp only [Result.andThen_ok, slicedAt]
  rw [if_neg (by omega), addr_plain]
theorem text20 {w : World} {b : Nat} {s : St} (h : w.heap[b]? = some (.cells (oA s 20) 55 (0, 0))) : TextAt w (some ⟨b, 0, none⟩) (outL s) := .inr ⟨b, 0, rfl, lt_of_block h, fun i hi => by
  rw [outL_length] at hi
  rw [Nat.zero_add, cells_of h, oA, fA_at .u8 _ hi hi]
  simp [outL, hi]⟩
/-- A call, at a step of a region that draws its order. -/
theorem step_call {ops : Array Oper} {o : Oper} {a : Act} {K : Act → World → Prop} {Q : Exit → Act → World → Prop} {E : Prop} {w : World} (hgd : o.guard = none) (f : FuncId) (args : Array Value) (hrun : (execOp a.eval o).run Tryd.prog w = .ok (.enter f args) w)
    {post : Ending → World → Prop} (hc : Calls Tryd.prog f args w post) (h : ∀ e w', post e w' → ∃ v, e = .returned v ∧ K (a.put o.dst v) w') :
    if Region.wanted o (yielded ops a.tmps) = true then Oper.wp Tryd.prog o a w K Q else E := by
  have hw : Region.wanted o (yielded ops a.tmps) = true := by simp [Region.wanted, hgd]
  rw [if_pos hw]
  unfold Oper.wp
  rw [hrun, Oper.upon_enter]
  refine hc.mono fun e w'' hh => ?_
  obtain ⟨v, rfl, hk⟩ := h _ _ hh
  exact hk
/-- A whole array loaded, at such a step. -/
theorem step_load {P : Program} {ops : Array Oper} {op : Oper} {a : Act} {w : World} {K : Act → World → Prop} {Q : Exit → Act → World → Prop} {E : Prop} (hgd : op.guard = none) (ty : TypeId) (x : Operand) (ho : op.op = .load ty x)
    (g : Nat) (hx : a.eval x = .pointer (some ⟨g, 0, none⟩)) (cs : Array Value) (t : TypeId) (fr : Nat × Nat) (hg : w.heap[g]? = some (.cells cs t fr)) (d : TypeDesc)
    (hu : P.underlying ty = some d) (hd : (match d with | .struct _ | .array _ _ => true | _ => false) = true) (hi : (P.info? ty).map (·.size) = some cs.size)
    (h : K (a.put op.dst (.agg cs)) w) :
    if Region.wanted op (yielded ops a.tmps) = true then Oper.wp P op a w K Q else E := by
  have hw : Region.wanted op (yielded ops a.tmps) = true := by simp [Region.wanted, hgd]
  rw [if_pos hw]
  unfold Oper.wp execOp
  simp only [ho, hx, Instr.loadAt, Instr.sureAddr, Sem.run_bind, Sem.run_pure, Result.andThen_ok, run_loadVar_row w g t ty cs fr d hg hu hd hi]
  exact h
/-- A load of a whole array may be taken first where all worlds of the region hold it. -/
theorem yields_row {P : Program} {ops : Array Oper} {S : World → Prop} {op : Oper} {a : Act} (hw : Region.wanted op (yielded ops a.tmps) = true) (ty : TypeId) (x : Operand) (ho : op.op = .load ty x)
    (g : Nat) (hx : a.eval x = .pointer (some ⟨g, 0, none⟩)) (cs : Array Value) (t : TypeId) (fr : Nat × Nat) (hS : ∀ w, S w → w.heap[g]? = some (.cells cs t fr)) (d : TypeDesc)
    (hu : P.underlying ty = some d) (hd : (match d with | .struct _ | .array _ _ => true | _ => false) = true) (hi : (P.info? ty).map (·.size) = some cs.size) : YieldsIf P ops S op (.agg cs) a :=
  .inl ⟨hw, fun w hw' => by
    unfold execOp
    simp only [ho, hx, Instr.loadAt, Instr.sureAddr, Sem.run_bind, Sem.run_pure, Result.andThen_ok, run_loadVar_row w g t ty cs fr d (hS w hw') hu hd hi]⟩
/-- A new variable, at such a step. -/
theorem step_alloc {P : Program} {ops : Array Oper} {op : Oper} {a : Act} {w : World} {K : Act → World → Prop} {Q : Exit → Act → World → Prop} {E : Prop} (hgd : op.guard = none) (ty : TypeId) (ho : op.op = .alloc ty)
    (cells : Array Value) (hz : ∀ w, (zeroValue ty).run P w = .ok (.agg cells) w) (h : K (a.put op.dst (.pointer (some ⟨w.heap.size, 0, none⟩))) (w.alloc (.cells cells ty))) :
    if Region.wanted op (yielded ops a.tmps) = true then Oper.wp P op a w K Q else E := by
  have hw : Region.wanted op (yielded ops a.tmps) = true := by simp [Region.wanted, hgd]
  rw [if_pos hw]
  unfold Oper.wp execOp
  simp [ho, Instr.alloc, hz, newVar, Value.cells]
  exact h
/-- A whole array stored, at such a step. -/
theorem step_store {ops : Array Oper} {op : Oper} {a : Act} {w : World} {K : Act → World → Prop} {Q : Exit → Act → World → Prop} {E : Prop} (hgd : op.guard = none) (ty : TypeId) (x y : Operand) (ho : op.op = .store ty x y)
    (g : Nat) (cells : Array Value) (hx : a.eval x = .pointer (some ⟨g, 0, none⟩)) (hy : a.eval y = .agg cells) (old : Array Value) (t : TypeId) (hg : w.heap[g]? = some (.cells old t (0, 0)))
    (hi : (Tryd.prog.info? ty).map (·.size) = some cells.size) (hs : old.size = cells.size) (h1 : cells.all (·.oneCell') = true)
    (h : ∀ w2, Hid (w2.heap[g]? = some (.cells cells t (0, 0))) → Hid (Kept (fun k => k = g) w w2) → K (a.put op.dst undef) w2) :
    if Region.wanted op (yielded ops a.tmps) = true then Oper.wp Tryd.prog op a w K Q else E := by
  have hw : Region.wanted op (yielded ops a.tmps) = true := by simp [Region.wanted, hgd]
  rw [if_pos hw]
  unfold Oper.wp execOp
  simp only [ho, hx, hy, Instr.storeAt, Instr.sureAddr, Sem.run_bind, Sem.run_pure, Result.andThen_ok, run_storeVar_row w g t ty old cells hg hi hs h1]
  exact h _ (setRow_heap' w g cells old t _ hg) (kept_setRow _ _ _ _ rfl)
/-- Bytes appended to a row of one's own, at such a step. -/
theorem step_appB {ops : Array Oper} {o : Oper} {act : Act} {K : Act → World → Prop} {Q : Exit → Act → World → Prop} {E : Prop} (w : World) (hgd : o.guard = none) (s x : Operand)
    (ho : o.op = .call { callee := .builtin .append, args := #[s, x], argTypes := #[22, 22] })
    (base : Nat) (v : Value) (X : List Nat) (hs : act.eval s = v) (hown : OwnsB w base v X) (ad : Addr) (len cap : Nat) (hx : act.eval x = .slice (some ad) len cap) (Y : List Nat) (hl : Y.length = len) (hb : TextAt w (some ad) Y)
    (hbound : X.length + len ≤ 140737488355328) (hbase : base ≤ w.heap.size)
    (h : ∀ v' w', OwnsB w' base v' (X ++ Y) → w.grownBy w' v.ownBlock → K (act.put o.dst v') w') :
    if Region.wanted o (yielded ops act.tmps) = true then Oper.wp Tryd.prog o act w K Q else E := by
  obtain ⟨i5, hi5, hz5, hs5, hb5⟩ := info_parts infoB
  have hw : Region.wanted o (yielded ops act.tmps) = true := by simp [Region.wanted, hgd]
  rw [if_pos hw]
  obtain ⟨v', w', hr, h1, h2, _⟩ := run_append_own (P := Tryd.prog) w base 22 o.type 5 i5 (.int .u8 0) 1 1 Tryd.underlying22 hi5 hz5 hs5 hb5 rfl (by decide) v X.length (bV X) hown ad len cap (bV Y) (by simp [bV]; exact hl) (fun j u hj => by
    have hjl : j < Y.length := by
      rcases Nat.lt_or_ge j Y.length with h' | h'
      · exact h'
      · rw [List.getElem?_eq_none (by simpa [bV] using h')] at hj; cases hj
    rcases hb with h0 | ⟨b, off, e, _, hc⟩
    · omega
    · obtain rfl := Option.some.inj e
      rw [addr_plain, hc j hjl, ← hj]
      simp [bV, hjl]) (bV_one Y) (by unfold maxLen; omega) (by omega) hbase
  unfold Oper.wp execOp
  simp only [ho, resolve, invoke, builtin, Sem.run_bind, Sem.run_pure, Result.andThen_ok, List.map_toArray, List.map_cons, List.map_nil, hs, hx, hr]
  refine h v' w' ?_ h2
  unfold OwnsB
  rw [List.length_append, hl, bV_app]
  exact h1

theorem t20_ne : (55 : TypeId) ≠ 5 := by decide
theorem own_not {w : World} {base b : Nat} {v : Value} {xs : List Nat} {cs : Array Value} {fr : Nat × Nat} (h : OwnsB w base v xs) (hb : w.heap[b]? = some (.cells cs 55 fr)) : ¬ some b = v.ownBlock := fun e => ownsRow_apart h hb t20_ne e.symm
theorem OwnsB.low {w : World} {base base' : Nat} {v : Value} {xs : List Nat} (h : OwnsB w base v xs) (hb : base' ≤ base) : OwnsB w base' v xs := by
  refine ⟨h.1, ?_⟩
  rcases h.2 with h2 | ⟨g, cap, cur, e, h3, r⟩
  · exact .inl h2
  · exact .inr ⟨g, cap, cur, e, Nat.le_trans hb h3, r⟩
/-- A row of bytes as an array's cells. -/
def kA (xs : List Nat) : Array Value := (bV xs).toArray
theorem kA_size (xs : List Nat) : (kA xs).size = xs.length := by simp [kA, bV]
theorem kA_one (xs : List Nat) : (kA xs).all (·.oneCell') = true := by
  simp [kA, bV, Value.oneCell']
theorem kA_at (xs : List Nat) {i : Nat} (h : i < xs.length) : (kA xs)[i]? = some (.int .u8 (xs.getD i 0 : Nat)) := by simp [kA, bV, h]
theorem kA_set (xs : List Nat) (i y : Nat) : (kA xs).setIfInBounds i (.int .u8 (y : Int)) = kA (xs.set i y) := by
  simp [kA, bV, List.map_set]
def Z64 : List Nat := List.replicate 64 0
theorem Z64_length : Z64.length = 64 := by simp [Z64]
theorem kA_zero : kA Z64 = Array.replicate 64 (.int .u8 0) := by kernel_rfl
theorem zero64 : (∀ w, (zeroValue 83).run Tryd.prog w = .ok (.agg (kA Z64)) w) ∧ (Tryd.prog.info? 83).map (·.size) = some 64 := by
  rw [kA_zero]
  exact zero_of_info (by kernel_rfl)
theorem info64 {xs : List Nat} (h : xs.length = 64) : (Tryd.prog.info? 83).map (·.size) = some (kA xs).size := by rw [kA_size, h]; exact zero64.2
theorem slice64 (W : World) (b : Nat) : (Instr.sliceAt 83 (.pointer (some ⟨b, 0, none⟩)) none none none).run Tryd.prog W = .ok (.slice (some ⟨b, 0, none⟩) 64 64) W := by
  rw [run_sliceAt_array_all W 83 ⟨b, 0, none⟩ (by kernel_rfl), arrLen64, elem64, size5]
  simp only [Result.andThen_ok, slicedAt]
  rw [if_neg (by omega), addr_plain]
theorem text64 {w : World} {b : Nat} {xs : List Nat} {t : TypeId} {fr : Nat × Nat} (h : w.heap[b]? = some (.cells (kA xs) t fr)) : Bs w b 0 xs := fun i hi => by
  have h1 : w.cell? ⟨b, 0 + i, none⟩ = (kA xs)[i]? := by simp [World.cell?, h]
  rw [h1, kA_at _ hi]
theorem set_kA {w : World} {b : Nat} {xs : List Nat} {t : TypeId} (h : w.heap[b]? = some (.cells (kA xs) t (0, 0))) (i y : Nat) : (w.setCell ⟨b, i, none⟩ (.int .u8 (y : Int))).heap[b]? = some (.cells (kA (xs.set i y)) t (0, 0)) := by
  rw [set_of h, kA_set]

end Go.Proofs.YtgamfpgejkhbcaaDoor.S
