/- The laws' arguments opened: entries. -/
import Derived.Test.YtlfffpgokemjbabUEnt
import Derived.ProofKit
import Derived.OpenShut
import Derived.ShutString
import Derived.ChangeOld
import Derived.SizedLaws
import Derived.Deep.Slices
import Derived.Deep.Strs
namespace Go.Proofs.Ytlfffpgokemjbab.U
set_option maxRecDepth 100000
open Go Go.ChangeShapes Go.WideShapes Go.ChangeAt Go.RowKit
set_option linter.unusedVariables false
theorem own : ownKnob Try.prog.godebug = none := by kernel_rfl
theorem laidOut : laidOutB Try.prog = true := by kernel_rfl
section
variable {H : Type} {enc : TypeId × Value → H} {W : World}
theorem entFields : ∃ fs : Array Field, Try.prog.underlying 27 = some (.struct fs) ∧ fs.toList.map (fun f : Field => (f.offset, f.type)) = [(0, 3), (1, 9), (2, 9), (3, 3), (4, 2), (5, 9)] := by
  have h : (Try.prog.underlying 27).bind (fun d => match d with | .struct fs => some (fs.toList.map (fun f : Field => (f.offset, f.type))) | _ => none) = some [(0, 3), (1, 9), (2, 9), (3, 3), (4, 2), (5, 9)] := by kernel_rfl
  cases hu : Try.prog.underlying 27 with
  | none => rw [hu] at h; cases h
  | some d =>
    rw [hu] at h
    cases d <;> simp at h
    exact ⟨_, rfl, h⟩
theorem cells_TInt : Try.prog.cellsOf 3 = 1 := by kernel_rfl
theorem cells_TStr : Try.prog.cellsOf 9 = 1 := by kernel_rfl
theorem cells_TI64 : Try.prog.cellsOf 2 = 1 := by kernel_rfl
theorem cells_TEnt : Try.prog.cellsOf 27 = 6 := by kernel_rfl
def F64 (x : Int) : Prop := -9223372036854775808 ≤ x ∧ x ≤ 9223372036854775807
/-- An entry's cells, opened. -/
theorem trod_ent {fuel : Nat} {cs : List Value} {x : DataW H × List MemPlace} {base : Nat} {sp : Nat → Bool} {hd : Bool} (h : DataW.trod enc Try.prog W base sp hd fuel 27 cs = some x) :
    ∃ m : En, cs = m.cells.toList ∧ (F64 m.kind ∧ F64 m.mode ∧ F64 m.time) ∧ x.1 = .agg [.lit (.int .i64 m.kind), .lit (.string m.path.data.toList), .lit (.string m.target.data.toList), .lit (.int .i64 m.mode), .lit (.int .i64 m.time), .lit (.string m.data.data.toList)] := by
  obtain ⟨fs, hu, hf⟩ := entFields
  obtain ⟨xs, n, _, rfl, hl, hlen, hx⟩ := DataW.trod_struct hu h
  rw [cells_TEnt] at hl
  have hfs : fs.size = 6 := by have := congrArg List.length hf; simpa using this
  have fld : ∀ i o t, ([(0, 3), (1, 9), (2, 9), (3, 3), (4, 2), (5, 9)] : List (Nat × TypeId))[i]? = some (o, t) → ∃ f : Field, fs[i]? = some f ∧ f.offset = o ∧ f.type = t := fun i o t hi => by
    rw [← hf, List.getElem?_map, Option.map_eq_some_iff] at hi
    obtain ⟨f, h1, h2⟩ := hi
    rw [Array.getElem?_toList] at h1
    simp only [Prod.mk.injEq] at h2
    exact ⟨f, h1, h2.1, h2.2⟩
  have lw : ∀ v : Int, (Lit.int .i64 v).wf = true → F64 v := fun v hv => by
    unfold F64
    simpa [Lit.wf, IntKind.min, IntKind.max, IntKind.signed, IntKind.bits] using hv
  match cs, hl with
  | [c0, c1, c2, c3, c4, c5], _ =>
    match xs, (hlen.trans hfs) with
    | [x0, x1, x2, x3, x4, x5], _ =>
      obtain ⟨f0, i0, o0, t0⟩ := fld 0 0 3 rfl
      obtain ⟨f1, i1, o1, t1⟩ := fld 1 1 9 rfl
      obtain ⟨f2, i2, o2, t2⟩ := fld 2 2 9 rfl
      obtain ⟨f3, i3, o3, t3⟩ := fld 3 3 3 rfl
      obtain ⟨f4, i4, o4, t4⟩ := fld 4 4 2 rfl
      obtain ⟨f5, i5, o5, t5⟩ := fld 5 5 9 rfl
      have e0 := hx 0 f0 i0
      have e1 := hx 1 f1 i1
      have e2 := hx 2 f2 i2
      have e3 := hx 3 f3 i3
      have e4 := hx 4 f4 i4
      have e5 := hx 5 f5 i5
      rw [o0, t0, cells_TInt] at e0
      rw [o1, t1, cells_TStr] at e1
      rw [o2, t2, cells_TStr] at e2
      rw [o3, t3, cells_TInt] at e3
      rw [o4, t4, cells_TI64] at e4
      rw [o5, t5, cells_TStr] at e5
      simp at e0 e1 e2 e3 e4 e5
      obtain ⟨s0, a0, b0, w0⟩ := DataW.trod_int Try.underlying3 e0
      obtain ⟨s1, a1, b1, _⟩ := DataW.trod_string Try.underlying9 e1
      obtain ⟨s2, a2, b2, _⟩ := DataW.trod_string Try.underlying9 e2
      obtain ⟨s3, a3, b3, w3⟩ := DataW.trod_int Try.underlying3 e3
      obtain ⟨s4, a4, b4, w4⟩ := DataW.trod_int Try.underlying2 e4
      obtain ⟨s5, a5, b5, _⟩ := DataW.trod_string Try.underlying9 e5
      simp at a0 a1 a2 a3 a4 a5
      subst a0 a1 a2 a3 a4 a5
      refine ⟨⟨s0, s1, s2, s3, s4, s5⟩, rfl, ⟨lw _ w0, lw _ w3, lw _ w4⟩, ?_⟩
      simp [b0, b1, b2, b3, b4, b5]
theorem add_at (b off i : Nat) : ((⟨b, off, none⟩ : Addr).add i) = ⟨b, off + i, none⟩ := by unfold Addr.add; split <;> simp_all
instance : Inhabited En := ⟨⟨0, .empty, .empty, 0, 0, .empty⟩⟩
/-- What is known of an entry that came in. -/
def InE (D : List (DataW H)) (m : En) : Prop := (F64 m.kind ∧ F64 m.mode ∧ F64 m.time) ∧ DataW.agg [.lit (.int .i64 m.kind), .lit (.string m.path.data.toList), .lit (.string m.target.data.toList), .lit (.int .i64 m.mode), .lit (.int .i64 m.time), .lit (.string m.data.data.toList)] ∈ D
theorem open_ents {a : Option Addr} {len cap : Nat} {d : DataW H} {p : List MemPlace} (h : DataW.Trod enc Try.prog W 0 (fun _ => true) true 22 (.slice a len cap) d p) : ∃ es, len = es.length ∧ EntsIn W a es ∧ len ≤ cap ∧ ((es = [] ) ∨ ∃ D R, d = .slice D R ∧ es.length = D.length ∧ ∀ m ∈ es, InE D m) := by
  obtain ⟨fuel, hf⟩ := h
  rcases Deep.open_slice Try.underlying22 hf with ⟨hcs, _⟩ | ⟨ad, l, c, m, n, D, Pl, hcs, _, hl, hm, hmm, hx, hall⟩
  · simp [Value.cells] at hcs
    obtain ⟨rfl, rfl, rfl⟩ := hcs
    exact ⟨[], rfl, .inl rfl, Nat.le_refl _, .inl rfl⟩
  · simp [Value.cells] at hcs
    obtain ⟨rfl, rfl, rfl⟩ := hcs
    have hmc : m = cap := by simpa using hmm
    subst hmc
    have hx' := congrArg Prod.fst hx
    simp only at hx'
    subst hx'
    by_cases h0 : len = 0
    · exact ⟨[], h0, .inl rfl, hl, .inl rfl⟩
    · obtain ⟨b, off, spot⟩ := ad
      rw [cells_TEnt] at hall
      obtain ⟨cs0, hc0, _⟩ := hall 0 (by omega)
      obtain ⟨_, hl0, hcell0⟩ := World.cells?_some hc0
      have q0 := hcell0 0 (by omega)
      have hs0 : ∃ u, W.cell? (((⟨b, off, spot⟩ : Addr).add (0 * 6)).add 0) = some u := ⟨_, q0.trans (List.getElem?_eq_getElem (by omega))⟩
      obtain ⟨u0, hu0⟩ := hs0
      have hspot : spot = none := by simpa [Addr.add] using World.cell?_spot hu0
      subst hspot
      have hb : b < W.heap.size := by
        have := lt_of_cell hu0
        simpa [Addr.add] using this
      obtain ⟨f, hfs⟩ := Deep.choose_lt (n := len) (p := fun i (m : En) => (∀ j u, m.cells[j]? = some u → W.cell? ⟨b, off + i * 6 + j, none⟩ = some u) ∧ InE ((List.range len).map D) m) (fun i hi => by
        obtain ⟨cs, hc, ht⟩ := hall i (by omega)
        obtain ⟨m', hcs', htm, hxm⟩ := trod_ent ht
        obtain ⟨_, hl', hcell⟩ := World.cells?_some hc
        refine ⟨m', fun j u hj => ?_, htm, ?_⟩
        · have hj' : cs[j]? = some u := by rw [hcs', Array.getElem?_toList]; exact hj
          have hjl : j < cs.length := (List.getElem?_eq_some_iff.1 hj').1
          have := hcell j (by omega)
          rw [add_at, add_at] at this
          rw [this]; exact hj'
        · simp only at hxm
          rw [← hxm]
          exact List.mem_map.2 ⟨i, by simpa using hi, rfl⟩)
      refine ⟨(List.range len).map f, by simp, .inr ⟨b, off, hb, rfl, fun i m hr => ?_⟩, hl, .inr ⟨_, _, rfl, by simp, fun m hm => ?_⟩⟩
      · have hi : i < len := by have := (List.getElem?_eq_some_iff.1 hr).1; simpa using this
        have hfr : f i = m := by simpa [hi] using hr
        have := hfs i hi
        rw [hfr] at this
        exact this.1
      · obtain ⟨i, hi, rfl⟩ := List.mem_map.1 hm
        exact (hfs i (by simpa using hi)).2
theorem bulk_mem {x : DataW H} : ∀ {D : List (DataW H)}, x ∈ D → Rows.uptoBulk x ≤ Rows.uptoBulkAll D
  | y :: r, h => by
    simp only [Rows.uptoBulkAll]
    rcases List.mem_cons.1 h with rfl | h
    · omega
    · have := bulk_mem h; omega
theorem size_to (s : ByteArray) : s.data.toList.length = s.size := by simp
/-- Entries of bulk at most so much have no longer texts. -/
theorem ents_bulk {es : List En} {d : DataW H} {n : Nat} (h : (es = []) ∨ ∃ D R, d = .slice D R ∧ es.length = D.length ∧ ∀ m ∈ es, InE D m) (hb : Rows.uptoBulk d ≤ n) : ∀ m ∈ es, m.path.size ≤ n ∧ m.target.size ≤ n ∧ m.data.size ≤ n := by
  intro m hm
  rcases h with rfl | ⟨D, R, rfl, _, h⟩
  · cases hm
  · have h1 := bulk_mem (h m hm).2
    simp only [Rows.uptoBulk, Rows.uptoBulkAll, size_to] at h1 hb
    omega
theorem ents_times {es : List En} {d : DataW H} (h : (es = []) ∨ ∃ D R, d = .slice D R ∧ es.length = D.length ∧ ∀ m ∈ es, InE D m) : ∀ m ∈ es, -9223372036854775808 ≤ m.time ∧ m.time ≤ 9223372036854775807 := by
  intro m hm
  rcases h with rfl | ⟨D, R, rfl, _, h⟩
  · cases hm
  · exact (h m hm).1.2.2
theorem weights_mem {e : TypeId} {x : DataW H} {n : Nat} (hn : n ∈ x.weights Try.prog e) : ∀ {D : List (DataW H)}, x ∈ D → n ∈ DataW.weightsAll Try.prog e D
  | y :: r, h => by
    simp only [DataW.weightsAll, List.mem_append]
    rcases List.mem_cons.1 h with rfl | h
    · exact .inl hn
    · exact .inr (weights_mem hn h)
/-- Entries that came in have texts within reach. -/
theorem ents_reach {ts : List TypeId} {ds : List (DataW H)} {j : Nat} {es : List En} {d : DataW H} (hsz : (DataW.weightsEach Try.prog ts ds).all (· ≤ reachBytes) = true) (ht : ts[j]? = some 22) (hd : ds[j]? = some d)
    (h : (es = []) ∨ ∃ D R, d = .slice D R ∧ es.length = D.length ∧ ∀ m ∈ es, InE D m) : ∀ m ∈ es, m.path.size ≤ 140737488351232 ∧ m.target.size ≤ 140737488351232 ∧ m.data.size ≤ 140737488351232 := by
  intro m hm
  rcases h with rfl | ⟨D, R, rfl, _, h⟩
  · cases hm
  · obtain ⟨fs, hu, hf⟩ := entFields
    have hfs : fs.toList.map (fun f : Field => f.type) = [3, 9, 9, 3, 2, 9] := by
      have := congrArg (List.map Prod.snd) hf
      simpa [List.map_map, Function.comp_def] using this
    have key : ∀ n, n ∈ DataW.weights Try.prog 27 (DataW.agg [.lit (.int .i64 m.kind), .lit (.string m.path.data.toList), .lit (.string m.target.data.toList), .lit (.int .i64 m.mode), .lit (.int .i64 m.time), .lit (.string m.data.data.toList)] : DataW H) → n ≤ 140737488351232 := fun n hn => by
      have h2 : n ∈ DataW.weights Try.prog 22 (.slice D R) := by
        simp only [DataW.weights, Try.underlying22, List.mem_cons, List.mem_append]
        exact .inr (.inl (weights_mem hn (h m hm).2))
      have := List.all_eq_true.1 hsz _ (DataW.weights_mem_each ht hd n h2)
      exact of_decide_eq_true this
    simp only [DataW.weights, hu, hfs, DataW.weightsEach, List.nil_append, List.append_nil, List.mem_append, List.mem_singleton, size_to] at key
    exact ⟨key _ (.inl rfl), key _ (.inr (.inl rfl)), key _ (.inr (.inr rfl))⟩
end
end Go.Proofs.Ytlfffpgokemjbab.U
