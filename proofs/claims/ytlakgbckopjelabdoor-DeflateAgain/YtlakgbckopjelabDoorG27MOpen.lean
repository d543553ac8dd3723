/- Several texts, laid together: MTell, MTellR, MAlive, MOpen. -/
import Derived.Test.YtlakgbckopjelabDoorG26MFindW
import Derived.Laws.BytesArg
import Derived.Test.YtlakgbckopjelabDoorG23MSlot
import Derived.Lib.SlBytesConst
import Derived.ProofKit
import Derived.OpenShut
import Derived.ShutString
import Derived.ChangeOld
import Derived.SizedLaws
import Derived.Deep.Slices
import Derived.Deep.Strs
import Derived.Lib.SmallJoins
/- What tokens tell: the program's Tell and the reference's. -/
namespace Go.Proofs.YtlakgbckopjelabDoor.M
set_option maxRecDepth 100000
open Go Go.RowKit

theorem Tryd.info5 : (Tryd.prog.info? 5).map (fun i => (i.zero, i.size, i.bytes)) = some (some (.int .u8 0), 1, 1) := by kernel_rfl
/-- A slice value that owns bytes. -/
def OwnsB (w : World) (base : Nat) (v : Value) (D : List Int) : Prop := w.ownsRow base 5 1 v D.length (D.map (Value.int .u8))
theorem OwnsB.nil (w : World) (base : Nat) : OwnsB w base (.slice none 0 0) [] := World.ownsRow_nil _ _ _ _
theorem OwnsB.kept {M : Nat → Prop} {w w' : World} {base : Nat} {v : Value} {L : List Int} (h : OwnsB w base v L) (k : Kept M w w') (hn : ∀ g, v.ownBlock = some g → ¬ M g) : OwnsB w' base v L := ownsRow_kept h k hn
theorem OwnsB.stay {w w' : World} {base : Nat} {v : Value} {L : List Int} (h : OwnsB w base v L) (k : Below w.heap.size w w') : OwnsB w' base v L := h.kept (Kept.of_below k) (fun g hg e => by have := (ownsRow_lt h hg).2; omega)
theorem OwnsB.form {w : World} {base : Nat} {v : Value} {L : List Int} (h : OwnsB w base v L) : ∃ a cap, v = .slice a L.length cap := by
  rcases h.2 with ⟨rfl, h2⟩ | ⟨g, cap, cur, rfl, _⟩
  · exact ⟨none, 0, by rw [h2]⟩
  · exact ⟨_, _, rfl⟩
theorem OwnsB.at_ {w : World} {base : Nat} {a : Option Addr} {cap : Nat} {L : List Int} (h : OwnsB w base (.slice a L.length cap) L) {j : Nat} (hj : j < L.length) : ∃ g, a = some ⟨g, 0, none⟩ ∧ g < w.heap.size ∧ w.cell? ⟨g, j, none⟩ = some (.int .u8 (ln L j)) := by
  rcases h.2 with ⟨_, h2⟩ | ⟨g, cap', cur, hv, hg, hh, hr⟩
  · omega
  · simp at hv
    refine ⟨g, hv.1, lt_of_block hh, ?_⟩
    rw [hv.1] at h
    rw [World.ownsRow.cellAt h j (by omega)]
    simp [ln, List.getD, hj]
theorem one_byte (w : World) (x : Int) (n : Nat) (h : w.heap.size = n) : ∀ j u, ([.int .u8 x] : List Value)[j]? = some u → (w.alloc (.cells #[.int .u8 x] 5)).cell? ((⟨n, 0, none⟩ : Addr).add j) = some u := by
  subst h; exact World.news_of_block (heap_new w (.cells #[.int .u8 x] 5))
/-- A byte appended to a row of one's own. -/
theorem wpList_pushB {ops : Array Oper} {rest : List Oper} {o : Oper} {act : Act} {Q : Exit → Act → World → Prop} (w : World) (hgd : o.guard = none) (s x : Operand)
    (ho : o.op = .call { callee := .builtin .append, args := #[s, x], argTypes := #[22, 22] })
    (base : Nat) (v : Value) (X : List Int) (hs : act.eval s = v) (hown : OwnsB w base v X) (t : Int) (ad : Nat) (hx : act.eval x = .slice (some ⟨ad, 0, none⟩) 1 1)
    (hc : ∀ j u, ([.int .u8 t] : List Value)[j]? = some u → w.cell? ((⟨ad, 0, none⟩ : Addr).add j) = some u) (hb : X.length ≤ 1000000000) (hbase : base ≤ w.heap.size)
    (h : ∀ a' cap' w', OwnsB w' base (.slice a' (X.length + 1) cap') (X ++ [t]) → w.grownBy w' v.ownBlock → wpList Tryd.prog ops Q rest (act.put o.dst (.slice a' (X.length + 1) cap')) w') : wpList Tryd.prog ops Q (o :: rest) act w := by
  obtain ⟨i, hi, hz, hsz, hby⟩ := info_parts Tryd.info5
  refine wpList_append_own w hgd s x 22 ho base 5 i _ 1 1 Tryd.underlying22 hi hz hsz hby rfl (by decide) v X.length (X.map (Value.int .u8)) hs hown ⟨ad, 0, none⟩ 1 1 [.int .u8 t] hx rfl hc (by intro u hu; simp at hu; subst hu; rfl) (by unfold maxLen; omega) (by omega) hbase ?_
  intro v' w' h1 h2 _
  have h3 : OwnsB w' base v' (X ++ [t]) := by
    unfold OwnsB
    rw [List.length_append, List.length_singleton, List.map_append, List.map_singleton]
    exact h1
  obtain ⟨a', cap', rfl⟩ := h3.form
  rw [List.length_append, List.length_singleton] at h3 ⊢
  exact h a' cap' w' h3 h2
/-- Room for bytes. -/
theorem made_room (n : Nat) (hn : n ≤ 1000000000) (W : World) :
    (Instr.makeSlice 22 (.int .i64 0) (.int .i64 (n : Int))).run Tryd.prog W = .ok (.slice (some ⟨W.heap.size, 0, none⟩) 0 n) (W.alloc (.cells (List.replicate n (.int .u8 0)).toArray 5)) := by
  obtain ⟨i, hi, hz, hs, hb⟩ := info_parts Tryd.info5
  have := run_make (P := Tryd.prog) W 22 5 i (.int .u8 0) Tryd.underlying22 hi hz .i64 .i64 0 n (by omega) (by omega) (by rw [hb]; omega) (by omega)
  rw [this, hs]
  have e2 : madeCells (Value.int .u8 0).cells n = (List.replicate n (.int .u8 0)).toArray := by
    have := toList_madeCells_one (Value.int .u8 0) n
    rw [← Array.toList_inj]
    simpa [Value.cells] using this
  rw [Int.toNat_natCast, Nat.mul_one, e2]
  rfl
theorem own_room (n : Nat) (hn : n ≤ 1000000000) (W : World) {base : Nat} (hb : base ≤ W.heap.size) : OwnsB (W.alloc (.cells (List.replicate n (.int .u8 0)).toArray 5)) base (.slice (some ⟨W.heap.size, 0, none⟩) 0 n) [] :=
  ⟨rfl, .inr ⟨W.heap.size, n, _, rfl, hb, heap_new W _, Nat.zero_le _, by unfold maxLen; omega, by simp, rfl⟩⟩

/-- What Tell answers of tokens that may be. -/
def TellGot (xs : List Tk) (w : World) (v : Value) (w' : World) : Prop := OwnsB w' w.heap.size v (tel xs) ∧ Below w.heap.size w w'
theorem cpy_succ (out : List Int) (d n : Nat) : cpy out d (n + 1) = cpy out d n ++ [ln (cpy out d n) ((cpy out d n).length - d)] := rfl

/-- On its way through the tokens, in a world that has grown. -/
def TSt (w wx : World) (v : Value) (out : List Int) : Prop := OwnsB wx w.heap.size v out ∧ Below w.heap.size w wx
theorem TSt.alloc {w wx : World} {v : Value} {out : List Int} (h : TSt w wx v out) (o : Obj) : TSt w (wx.alloc o) v out :=
  ⟨h.1.stay ((Below.refl _ wx).alloc (Nat.le_refl _) _), h.2.alloc h.2.size _⟩
theorem TSt.push {w wx wy : World} {v v' : Value} {out out' : List Int} (h : TSt w wx v out) (ho : OwnsB wy w.heap.size v' out') (hg : wx.grownBy wy v.ownBlock) : TSt w wy v' out' :=
  ⟨ho, h.2.grown hg h.2.size (fun _ e => (ownsRow_lt h.1 e).1)⟩
theorem TSt.tok {w wx wy : World} {v : Value} {out : List Int} (h : TSt w wx v out) (hg : wx.grownBy wy v.ownBlock) {tb : Nat} {t : Tk} (hb : wx.heap[tb]? = some (tO t)) : wy.heap[tb]? = some (tO t) :=
  (Kept.of_grown hg).heap hb (fun e => ownsRow_apart h.1 hb (by decide) e.symm)
theorem tok_cells' {w7 : World} {tb : Nat} {b l k : Int} (hb : w7.heap[tb]? = some (tO (b, l, k))) : w7.cell? ⟨tb, 0, none⟩ = some (.int .u8 b) ∧ w7.cell? ⟨tb, 1, none⟩ = some (.int .i64 l) ∧ w7.cell? ⟨tb, 2, none⟩ = some (.int .i64 k) ∧ tb < w7.heap.size :=
  ⟨by rw [cells_of hb]; rfl, by rw [cells_of hb]; rfl, by rw [cells_of hb]; rfl, lt_of_block hb⟩

end Go.Proofs.YtlakgbckopjelabDoor.M

/- What tokens tell: the reference's Tell; bytes as texts. -/
namespace Go.Proofs.YtlakgbckopjelabDoor.M
set_option maxRecDepth 100000
open Go Go.RowKit

theorem conv_own {w : World} {base : Nat} {v : Value} {D : List Int} (h : OwnsB w base v D) : (convert 22 9 v).run Tryd.prog w = .ok (.string (strOfNums D)) w := by
  rcases h.2 with ⟨rfl, h2⟩ | ⟨g, cap, cur, rfl, hg, hh, hr⟩
  · have : D = [] := List.eq_nil_of_length_eq_zero h2
    subst this
    exact run_convert_bytes_nil w 22 5 Tryd.underlying22 Tryd.underlying5 0 0 9 Tryd.underlying9
  · refine run_convert_bytes_arg w 22 5 Tryd.underlying22 Tryd.underlying5 g 0 D.length cap D rfl (fun i hi => ?_) 9 Tryd.underlying9
    have := World.ownsRow.cellAt h i (by omega)
    rw [Nat.zero_add, this]
    simp [List.getD, hi]
theorem conv_bys {w : World} {a : Option Addr} {cap : Nat} {zs : List Int} (h : Bys w a zs) : (convert 22 9 (.slice a zs.length cap)).run Tryd.prog w = .ok (.string (strOfNums zs)) w := by
  rcases h.at_ with h3 | ⟨b, off, _, rfl, hc⟩
  · have hz : zs = [] := List.eq_nil_of_length_eq_zero h3
    subst hz
    show (convert 22 9 (.slice a 0 cap)).run Tryd.prog w = _
    cases a with
    | none => exact run_convert_bytes_nil w 22 5 Tryd.underlying22 Tryd.underlying5 0 cap 9 Tryd.underlying9
    | some ad =>
      rw [run_convert_bytes_string w 22 9 5 _ 0 cap Tryd.underlying22 Tryd.underlying5 Tryd.underlying9, run_bytesToString w ad 0 cap [] (by simpa using run_loadCells_list (P := Tryd.prog) w ad [] (by simp))]
      rfl
  · exact run_convert_bytes_arg w 22 5 Tryd.underlying22 Tryd.underlying5 b off zs.length cap zs rfl (fun i hi => by rw [hc i hi]; simp [ln]) 9 Tryd.underlying9
end Go.Proofs.YtlakgbckopjelabDoor.M

/- The laws' probe. -/
namespace Go.Proofs.YtlakgbckopjelabDoor.M
set_option maxRecDepth 100000
open Go Go.RowKit

abbrev lit3 : List Tk := [(97, 0, 0), (98, 0, 0), (0, 4, 2)]
abbrev lit8 : List Int := [97, 97, 97, 97, 97, 97, 97, 97]
abbrev lit3O : Obj := .cells #[.int .u8 97, .int .i64 0, .int .i64 0, .int .u8 98, .int .i64 0, .int .i64 0, .int .u8 0, .int .i64 4, .int .i64 2] 30
abbrev lit8O : Obj := .cells #[.int .u8 97, .int .u8 97, .int .u8 97, .int .u8 97, .int .u8 97, .int .u8 97, .int .u8 97, .int .u8 97] 5 (8, 9)
end Go.Proofs.YtlakgbckopjelabDoor.M

/- How the laws' arguments are opened: tokens, bytes. -/
namespace Go.Proofs.YtlakgbckopjelabDoor.M
set_option maxRecDepth 100000
open Go.ChangeShapes Go.WideShapes Go.ChangeAt Go.RowKit

theorem own : ownKnob Tryd.prog.godebug = none := by kernel_rfl
theorem laidOut : laidOutB Tryd.prog = true := by kernel_rfl
theorem Tryd.bytes5 : Tryd.prog.bytesOf 5 = 1 := by kernel_rfl
theorem Tryd.cells5 : Tryd.prog.cellsOf 5 = 1 := by kernel_rfl
theorem Tryd.cells3 : Tryd.prog.cellsOf 3 = 1 := by kernel_rfl
theorem Tryd.cells30 : Tryd.prog.cellsOf 30 = 3 := by kernel_rfl

section
variable {H : Type} {enc : TypeId × Value → H} {W : World}

theorem addr_plain (b off i : Nat) : ((⟨b, off, none⟩ : Addr).add i) = ⟨b, off + i, none⟩ := by unfold Addr.add; split <;> simp_all

/-- Bytes that came in. -/
structure BIn (W : World) (a : Option Addr) (cap : Nat) (zs : List Int) : Prop where
  by_ : Bys W a zs
  cap_ : zs.length ≤ cap
  most : cap ≤ 9223372036854775807
  nil : a = none → zs.length = 0 ∧ cap = 0
theorem trod_bys {fuel : Nat} {cs : List Value} {x : DataW H × List MemPlace} (h : DataW.trod enc Tryd.prog W 0 (fun _ => true) true fuel 22 cs = some x) :
    ∃ a cap zs, cs = [.slice a zs.length cap] ∧ BIn W a cap zs ∧ ((x.1 = .nil ∧ zs.length = 0) ∨ ∃ els sp, x.1 = .slice els sp ∧ els.length = zs.length) := by
  rcases open_ints Tryd.underlying22 Tryd.underlying5 Tryd.cells5 h with ⟨rfl, rfl⟩ | ⟨a, l, c, zs, rfl, _, hl, hm, hz, rfl, hcell, hwz⟩
  · exact ⟨none, 0, [], rfl, ⟨⟨.inl rfl, by intro i; simp [ln]⟩, Nat.zero_le _, by omega, fun _ => ⟨rfl, rfl⟩⟩, .inl ⟨rfl, rfl⟩⟩
  · have hz' : zs.length = c := by simpa using hz
    have hlen : (zs.take l).length = l := by simp; omega
    refine ⟨some a, c, zs.take l, by rw [hlen], ⟨⟨?_, ?_⟩, by omega, by unfold maxLen at hm; omega, fun e => by cases e⟩, .inr ⟨_, _, rfl, by simp [lits]⟩⟩
    · by_cases h0 : l = 0
      · left; rw [hlen]; exact h0
      · obtain ⟨b, off, spot⟩ := a
        have hc := hcell 0 (by omega)
        have hspot : spot = none := by simpa [Addr.add] using World.cell?_spot hc
        subst hspot
        refine .inr ⟨b, off, ?_, rfl, fun i hi => ?_⟩
        · have := lt_of_cell hc
          simpa [Addr.add] using this
        · rw [hlen] at hi
          have := hcell i (by omega)
          rw [addr_plain] at this
          rw [this]
          simp [ln, List.getD, hi]
    · intro i
      by_cases hi : i < (zs.take l).length
      · have hm := List.getElem_mem hi
        have hw := bounds_u8 (hwz _ (List.mem_of_mem_take hm))
        rw [ln_in hi]
        omega
      · simp [ln, List.getD, List.getElem?_eq_none (show (zs.take l).length ≤ i by omega)]
theorem open_bys {a : Option Addr} {len cap : Nat} {d : DataW H} {p : List MemPlace} (h : DataW.Trod enc Tryd.prog W 0 (fun _ => true) true 22 (.slice a len cap) d p) : ∃ zs, len = zs.length ∧ BIn W a cap zs := by
  obtain ⟨fuel, hf⟩ := h
  obtain ⟨a', cap', zs, hcs, hb, _⟩ := trod_bys hf
  simp [Value.cells] at hcs
  obtain ⟨rfl, rfl, rfl⟩ := hcs
  exact ⟨zs, rfl, hb⟩

/-- Tokens that came in. -/
structure TIn (W : World) (a : Option Addr) (cap : Nat) (xs : List Tk) : Prop where
  toks : Toks W a xs
  bt : Bt xs
  cap_ : xs.length ≤ cap
  nil : a = none → xs.length = 0 ∧ cap = 0
theorem open_tok {fuel b o : Nat} {cs : List Value} {x : DataW H × List MemPlace} (hc : W.cells? 0 ⟨b, o, none⟩ 3 = some cs) (h : DataW.trod enc Tryd.prog W 0 (fun _ => true) true fuel 30 cs = some x) :
    ∃ t : Tk, (0 ≤ t.1 ∧ t.1 ≤ 255) ∧ W.cell? ⟨b, o, none⟩ = some (.int .u8 t.1) ∧ W.cell? ⟨b, o + 1, none⟩ = some (.int .i64 t.2.1) ∧ W.cell? ⟨b, o + 2, none⟩ = some (.int .i64 t.2.2) := by
  obtain ⟨_, hl, hcell⟩ := World.cells?_some hc
  obtain ⟨y0, y1, y2, n, _, _, h0, h1, h2⟩ := Deep.trod_struct3 Tryd.underlying30 h
  match cs, hl with
  | [c0, c1, c2], _ =>
    simp only [Tryd.cells3, Tryd.cells5] at h0 h1 h2
    obtain ⟨k, e0, _, wf0⟩ := DataW.trod_int Tryd.underlying5 h0
    obtain ⟨v, e1, _, _⟩ := DataW.trod_int Tryd.underlying3 h1
    obtain ⟨m, e2, _, _⟩ := DataW.trod_int Tryd.underlying3 h2
    simp at e0 e1 e2
    subst e0 e1 e2
    have q0 := hcell 0 (by omega)
    have q1 := hcell 1 (by omega)
    have q2 := hcell 2 (by omega)
    rw [addr_plain] at q0 q1 q2
    have hb := bounds_u8 wf0
    exact ⟨(k, v, m), ⟨by simp only; omega, by simp only; omega⟩, by simpa using q0, by simpa using q1, by simpa using q2⟩
theorem open_toks {a : Option Addr} {len cap : Nat} {d : DataW H} {p : List MemPlace} (h : DataW.Trod enc Tryd.prog W 0 (fun _ => true) true 31 (.slice a len cap) d p) : ∃ xs, len = xs.length ∧ TIn W a cap xs := by
  obtain ⟨fuel, hf⟩ := h
  rcases Deep.open_slice Tryd.underlying31 hf with ⟨hcs, _⟩ | ⟨ad, l, c, m, n, D, Pl, hcs, _, hl, hm, hmm, _, hall⟩
  · simp [Value.cells] at hcs
    obtain ⟨rfl, rfl, rfl⟩ := hcs
    exact ⟨[], rfl, .inl rfl, Bt.nil, Nat.zero_le _, fun _ => ⟨rfl, rfl⟩⟩
  · simp [Value.cells] at hcs
    obtain ⟨rfl, rfl, rfl⟩ := hcs
    have hmc : m = cap := by simpa using hmm
    subst hmc
    by_cases h0 : len = 0
    · exact ⟨[], h0, .inl rfl, Bt.nil, Nat.zero_le _, fun e => by cases e⟩
    · obtain ⟨b, off, spot⟩ := ad
      rw [Tryd.cells30] at hall
      obtain ⟨cs0, hc0, _⟩ := hall 0 (by omega)
      obtain ⟨_, hl0, hcell0⟩ := World.cells?_some hc0
      have q0 := hcell0 0 (by omega)
      have hspot : spot = none := by
        match cs0, hl0 with
        | [c0, c1, c2], _ =>
          have q1 : W.cell? ((⟨b, off, spot⟩ : Addr).add (0 * 3) |>.add 0) = some c0 := by simpa using q0
          simpa [Addr.add] using World.cell?_spot q1
      subst hspot
      have hb : b < W.heap.size := by
        match cs0, hl0 with
        | [c0, c1, c2], _ =>
          have q1 : W.cell? ((⟨b, off, none⟩ : Addr).add (0 * 3) |>.add 0) = some c0 := by simpa using q0
          have := lt_of_cell q1
          simpa [Addr.add] using this
      obtain ⟨f, hfs⟩ := Deep.choose_lt (n := len) (p := fun i (t : Tk) => (0 ≤ t.1 ∧ t.1 ≤ 255) ∧ W.cell? ⟨b, off + i * 3, none⟩ = some (.int .u8 t.1) ∧ W.cell? ⟨b, off + i * 3 + 1, none⟩ = some (.int .i64 t.2.1) ∧ W.cell? ⟨b, off + i * 3 + 2, none⟩ = some (.int .i64 t.2.2)) (fun i hi => by
        obtain ⟨cs, hc, ht⟩ := hall i (by omega)
        rw [addr_plain] at hc
        exact open_tok hc ht)
      have hlen : ((List.range len).map f).length = len := by simp
      have hat : ∀ i, i < len → tk ((List.range len).map f) i = f i := fun i hi => by
        rw [tk_in (by rw [hlen]; exact hi)]; simp
      refine ⟨(List.range len).map f, hlen.symm, .inr ⟨b, off, hb, rfl, fun i hi => ?_⟩, fun i => ?_, by rw [hlen]; exact hl, fun e => by cases e⟩
      · rw [hlen] at hi
        rw [hat i hi]
        exact (hfs i hi).2
      · by_cases hi : i < len
        · rw [hat i hi]; exact (hfs i hi).1
        · unfold tk List.getD; rw [List.getElem?_eq_none (by rw [hlen]; omega)]; simp
end
/-- A law's call that answers true and writes nothing that was there. -/
def Yes (w : World) (e : Ending) (w' : World) : Prop := e = .returned (.bool true) ∧ Below w.heap.size w w'
end Go.Proofs.YtlakgbckopjelabDoor.M
