/- Several texts, laid together: MTellR, MAlive, MOpen, MFinds0, RState. -/
import Derived.Test.YtlakgbckopjelabGreatDoorG22MTell
import Derived.Test.YtlakgbckopjelabGreatDoorG10MSlot
import Derived.Lib.SlBytesConst
import Derived.ProofKit
import Derived.OpenShut
import Derived.ShutString
import Derived.ChangeOld
import Derived.SizedLaws
import Derived.Deep.Slices
import Derived.Deep.Strs
import Derived.Lib.SmallJoins
import Derived.Test.YtlakgbckopjelabGreatDoorG09PSpec
import Derived.Test.YtlakgbckopjelabGreatDoorG06HPut
import Derived.Handy
/- What tokens tell: the reference's Tell; bytes as texts. -/
namespace Go.Proofs.YtlakgbckopjelabGreatDoor.M
set_option maxRecDepth 100000
open Go Go.RowKit

theorem conv_own {w : World} {base : Nat} {v : Value} {D : List Int} (h : OwnsB w base v D) : (convert 23 9 v).run Tryz.prog w = .ok (.string (strOfNums D)) w := by
  rcases h.2 with ⟨rfl, h2⟩ | ⟨g, cap, cur, rfl, hg, hh, hr⟩
  · have : D = [] := List.eq_nil_of_length_eq_zero h2
    subst this
    exact run_convert_bytes_nil w 23 5 Tryz.underlying23 Tryz.underlying5 0 0 9 Tryz.underlying9
  · refine run_convert_bytes_arg w 23 5 Tryz.underlying23 Tryz.underlying5 g 0 D.length cap D rfl (fun i hi => ?_) 9 Tryz.underlying9
    have := World.ownsRow.cellAt h i (by omega)
    rw [Nat.zero_add, this]
    simp [List.getD, hi]
theorem conv_bys {w : World} {a : Option Addr} {cap : Nat} {zs : List Int} (h : Bys w a zs) : (convert 23 9 (.slice a zs.length cap)).run Tryz.prog w = .ok (.string (strOfNums zs)) w := by
  rcases h.at_ with h3 | ⟨b, off, _, rfl, hc⟩
  · have hz : zs = [] := List.eq_nil_of_length_eq_zero h3
    subst hz
    show (convert 23 9 (.slice a 0 cap)).run Tryz.prog w = _
    cases a with
    | none => exact run_convert_bytes_nil w 23 5 Tryz.underlying23 Tryz.underlying5 0 cap 9 Tryz.underlying9
    | some ad =>
      rw [run_convert_bytes_string w 23 9 5 _ 0 cap Tryz.underlying23 Tryz.underlying5 Tryz.underlying9, run_bytesToString w ad 0 cap [] (by simpa using run_loadCells_list (P := Tryz.prog) w ad [] (by simp))]
      rfl
  · exact run_convert_bytes_arg w 23 5 Tryz.underlying23 Tryz.underlying5 b off zs.length cap zs rfl (fun i hi => by rw [hc i hi]; simp [ln]) 9 Tryz.underlying9
end Go.Proofs.YtlakgbckopjelabGreatDoor.M

/- The laws' probe. -/
namespace Go.Proofs.YtlakgbckopjelabGreatDoor.M
set_option maxRecDepth 100000
open Go Go.RowKit

abbrev lit3 : List Tk := [(97, 0, 0), (98, 0, 0), (0, 4, 2)]
abbrev lit8 : List Int := [97, 97, 97, 97, 97, 97, 97, 97]
abbrev lit3O : Obj := .cells #[.int .u8 97, .int .i64 0, .int .i64 0, .int .u8 98, .int .i64 0, .int .i64 0, .int .u8 0, .int .i64 4, .int .i64 2] 31
abbrev lit8O : Obj := .cells #[.int .u8 97, .int .u8 97, .int .u8 97, .int .u8 97, .int .u8 97, .int .u8 97, .int .u8 97, .int .u8 97] 5 (8, 9)
end Go.Proofs.YtlakgbckopjelabGreatDoor.M

/- How the laws' arguments are opened: tokens, bytes. -/
namespace Go.Proofs.YtlakgbckopjelabGreatDoor.M
set_option maxRecDepth 100000
open Go.ChangeShapes Go.WideShapes Go.ChangeAt Go.RowKit

theorem own : ownKnob Tryz.prog.godebug = none := by kernel_rfl
theorem laidOut : laidOutB Tryz.prog = true := by kernel_rfl
theorem Tryz.bytes5 : Tryz.prog.bytesOf 5 = 1 := by kernel_rfl
theorem Tryz.cells5 : Tryz.prog.cellsOf 5 = 1 := by kernel_rfl
theorem Tryz.cells3 : Tryz.prog.cellsOf 3 = 1 := by kernel_rfl
theorem Tryz.cells31 : Tryz.prog.cellsOf 31 = 3 := by kernel_rfl

section
variable {H : Type} {enc : TypeId × Value → H} {W : World}

theorem addr_plain (b off i : Nat) : ((⟨b, off, none⟩ : Addr).add i) = ⟨b, off + i, none⟩ := by unfold Addr.add; split <;> simp_all

/-- Bytes that came in. -/
structure BIn (W : World) (a : Option Addr) (cap : Nat) (zs : List Int) : Prop where
  by_ : Bys W a zs
  cap_ : zs.length ≤ cap
  most : cap ≤ 9223372036854775807
  nil : a = none → zs.length = 0 ∧ cap = 0
theorem trod_bys {fuel : Nat} {cs : List Value} {x : DataW H × List MemPlace} (h : DataW.trod enc Tryz.prog W 0 (fun _ => true) true fuel 23 cs = some x) :
    ∃ a cap zs, cs = [.slice a zs.length cap] ∧ BIn W a cap zs ∧ ((x.1 = .nil ∧ zs.length = 0) ∨ ∃ els sp, x.1 = .slice els sp ∧ els.length = zs.length) := by
  rcases open_ints Tryz.underlying23 Tryz.underlying5 Tryz.cells5 h with ⟨rfl, rfl⟩ | ⟨a, l, c, zs, rfl, _, hl, hm, hz, rfl, hcell, hwz⟩
  · exact ⟨none, 0, [], rfl, ⟨⟨.inl rfl, by intro i; simp [ln]⟩, Nat.zero_le _, by omega, fun _ => ⟨rfl, rfl⟩⟩, .inl ⟨rfl, rfl⟩⟩
  · have hz' : zs.length = c := by simpa using hz
    have hlen : (zs.take l).length = l := by simp; omega
    refine ⟨some a, c, zs.take l, by rw [hlen], ⟨⟨?_, ?_⟩, by omega, by unfold maxLen at hm; omega, fun e => by cases e⟩, .inr ⟨_, _, rfl, by simp [lits]⟩⟩
    · by_cases h0 : l = 0
      · left; rw [hlen]; exact h0
      · obtain ⟨b, off, spot⟩ := a
        have hc := hcell 0 (by omega)
        have hspot : spot = none := by simpa [Addr.add] using World.cell?_spot hc
        subst hspot
        refine .inr ⟨b, off, ?_, rfl, fun i hi => ?_⟩
        · have := lt_of_cell hc
          simpa [Addr.add] using this
        · rw [hlen] at hi
          have := hcell i (by omega)
          rw [addr_plain] at this
          rw [this]
          simp [ln, List.getD, hi]
    · intro i
      by_cases hi : i < (zs.take l).length
      · have hm := List.getElem_mem hi
        have hw := bounds_u8 (hwz _ (List.mem_of_mem_take hm))
        rw [ln_in hi]
        omega
      · simp [ln, List.getD, List.getElem?_eq_none (show (zs.take l).length ≤ i by omega)]
theorem open_bys {a : Option Addr} {len cap : Nat} {d : DataW H} {p : List MemPlace} (h : DataW.Trod enc Tryz.prog W 0 (fun _ => true) true 23 (.slice a len cap) d p) : ∃ zs, len = zs.length ∧ BIn W a cap zs := by
  obtain ⟨fuel, hf⟩ := h
  obtain ⟨a', cap', zs, hcs, hb, _⟩ := trod_bys hf
  simp [Value.cells] at hcs
  obtain ⟨rfl, rfl, rfl⟩ := hcs
  exact ⟨zs, rfl, hb⟩

/-- Tokens that came in. -/
structure TIn (W : World) (a : Option Addr) (cap : Nat) (xs : List Tk) : Prop where
  toks : Toks W a xs
  bt : Bt xs
  cap_ : xs.length ≤ cap
  nil : a = none → xs.length = 0 ∧ cap = 0
theorem open_tok {fuel b o : Nat} {cs : List Value} {x : DataW H × List MemPlace} (hc : W.cells? 0 ⟨b, o, none⟩ 3 = some cs) (h : DataW.trod enc Tryz.prog W 0 (fun _ => true) true fuel 31 cs = some x) :
    ∃ t : Tk, (0 ≤ t.1 ∧ t.1 ≤ 255) ∧ W.cell? ⟨b, o, none⟩ = some (.int .u8 t.1) ∧ W.cell? ⟨b, o + 1, none⟩ = some (.int .i64 t.2.1) ∧ W.cell? ⟨b, o + 2, none⟩ = some (.int .i64 t.2.2) := by
  obtain ⟨_, hl, hcell⟩ := World.cells?_some hc
  obtain ⟨y0, y1, y2, n, _, _, h0, h1, h2⟩ := Deep.trod_struct3 Tryz.underlying31 h
  match cs, hl with
  | [c0, c1, c2], _ =>
    simp only [Tryz.cells3, Tryz.cells5] at h0 h1 h2
    obtain ⟨k, e0, _, wf0⟩ := DataW.trod_int Tryz.underlying5 h0
    obtain ⟨v, e1, _, _⟩ := DataW.trod_int Tryz.underlying3 h1
    obtain ⟨m, e2, _, _⟩ := DataW.trod_int Tryz.underlying3 h2
    simp at e0 e1 e2
    subst e0 e1 e2
    have q0 := hcell 0 (by omega)
    have q1 := hcell 1 (by omega)
    have q2 := hcell 2 (by omega)
    rw [addr_plain] at q0 q1 q2
    have hb := bounds_u8 wf0
    exact ⟨(k, v, m), ⟨by simp only; omega, by simp only; omega⟩, by simpa using q0, by simpa using q1, by simpa using q2⟩
theorem open_toks {a : Option Addr} {len cap : Nat} {d : DataW H} {p : List MemPlace} (h : DataW.Trod enc Tryz.prog W 0 (fun _ => true) true 32 (.slice a len cap) d p) : ∃ xs, len = xs.length ∧ TIn W a cap xs := by
  obtain ⟨fuel, hf⟩ := h
  rcases Deep.open_slice Tryz.underlying32 hf with ⟨hcs, _⟩ | ⟨ad, l, c, m, n, D, Pl, hcs, _, hl, hm, hmm, _, hall⟩
  · simp [Value.cells] at hcs
    obtain ⟨rfl, rfl, rfl⟩ := hcs
    exact ⟨[], rfl, .inl rfl, Bt.nil, Nat.zero_le _, fun _ => ⟨rfl, rfl⟩⟩
  · simp [Value.cells] at hcs
    obtain ⟨rfl, rfl, rfl⟩ := hcs
    have hmc : m = cap := by simpa using hmm
    subst hmc
    by_cases h0 : len = 0
    · exact ⟨[], h0, .inl rfl, Bt.nil, Nat.zero_le _, fun e => by cases e⟩
    · obtain ⟨b, off, spot⟩ := ad
      rw [Tryz.cells31] at hall
      obtain ⟨cs0, hc0, _⟩ := hall 0 (by omega)
      obtain ⟨_, hl0, hcell0⟩ := World.cells?_some hc0
      have q0 := hcell0 0 (by omega)
      have hspot : spot = none := by
        match cs0, hl0 with
        | [c0, c1, c2], _ =>
          have q1 : W.cell? ((⟨b, off, spot⟩ : Addr).add (0 * 3) |>.add 0) = some c0 := by simpa using q0
          simpa [Addr.add] using World.cell?_spot q1
      subst hspot
      have hb : b < W.heap.size := by
        match cs0, hl0 with
        | [c0, c1, c2], _ =>
          have q1 : W.cell? ((⟨b, off, none⟩ : Addr).add (0 * 3) |>.add 0) = some c0 := by simpa using q0
          have := lt_of_cell q1
          simpa [Addr.add] using this
      obtain ⟨f, hfs⟩ := Deep.choose_lt (n := len) (p := fun i (t : Tk) => (0 ≤ t.1 ∧ t.1 ≤ 255) ∧ W.cell? ⟨b, off + i * 3, none⟩ = some (.int .u8 t.1) ∧ W.cell? ⟨b, off + i * 3 + 1, none⟩ = some (.int .i64 t.2.1) ∧ W.cell? ⟨b, off + i * 3 + 2, none⟩ = some (.int .i64 t.2.2)) (fun i hi => by
        obtain ⟨cs, hc, ht⟩ := hall i (by omega)
        rw [addr_plain] at hc
        exact open_tok hc ht)
      have hlen : ((List.range len).map f).length = len := by simp
      have hat : ∀ i, i < len → tk ((List.range len).map f) i = f i := fun i hi => by
        rw [tk_in (by rw [hlen]; exact hi)]; simp
      refine ⟨(List.range len).map f, hlen.symm, .inr ⟨b, off, hb, rfl, fun i hi => ?_⟩, fun i => ?_, by rw [hlen]; exact hl, fun e => by cases e⟩
      · rw [hlen] at hi
        rw [hat i hi]
        exact (hfs i hi).2
      · by_cases hi : i < len
        · rw [hat i hi]; exact (hfs i hi).1
        · unfold tk List.getD; rw [List.getElem?_eq_none (by rw [hlen]; omega)]; simp
end
/-- A law's call that answers true and writes nothing that was there. -/
def Yes (w : World) (e : Ending) (w' : World) : Prop := e = .returned (.bool true) ∧ Below w.heap.size w w'
end Go.Proofs.YtlakgbckopjelabGreatDoor.M

/- What is found, whatever the level. -/
namespace Go.Proofs.YtlakgbckopjelabGreatDoor.M
set_option maxRecDepth 100000
open Go Go.RowKit

/-- What is found, whatever the level. -/
theorem FindOk.all {zs : List Int} {lv : Int} {w : World} {e : Ending} {w' : World} (h : FindOk zs lv w e w') (hz : ∀ i, 0 ≤ ln zs i ∧ ln zs i ≤ 255) : ∃ a cap xs, e = .returned (.slice a xs.length cap) ∧ Toks w' a xs ∧ Below w.heap.size w w' ∧ Rt xs ∧ Bt xs ∧ tel xs = zs ∧ xs.length ≤ zs.length ∧ (1 ≤ lv → FdTo zs zs.length xs) ∧ OwnsT w' w.heap.size (.slice a xs.length cap) xs := by
  obtain ⟨a, cap, xs, he, ho, hb, h0, h1⟩ := h
  obtain ⟨_, _, hv, htk, _, _, _⟩ := ho.form
  simp only [Value.slice.injEq] at hv
  obtain ⟨rfl, _, rfl⟩ := hv
  by_cases hlv : lv < 1
  · obtain rfl := h0 hlv
    exact ⟨_, _, _, he, htk, hb, alT_rt zs, alT_bt hz, alT_tell zs, by rw [alT_length]; exact Nat.le_refl _, h1, ho⟩
  · have hf := h1 (by omega)
    exact ⟨_, _, _, he, htk, hb, hf.rt, hf.bt, by rw [hf.tell, List.take_length], hf.many, h1, ho⟩

end Go.Proofs.YtlakgbckopjelabGreatDoor.M

/- The reference's state as it lies in memory: loaded and stored whole; fails and bits: contracts. -/
namespace Go.Proofs.YtlakgbckopjelabGreatDoor
set_option maxRecDepth 100000
open Go Go.RowKit

/-- A state's cells. -/
def sA (a : Option Addr) (al ac : Nat) (p : Int) (o : Option Addr) (ol oc : Nat) (m e : Int) : Array Value := #[.slice a al ac, .int .i64 p, .slice o ol oc, .int .i64 m, .int .i64 e]
theorem infoS : (Tryz.prog.info? 63).map (·.size) = some 5 := by rfl

theorem st_store {ops : Array Oper} {rest : List Oper} {op : Oper} {act : Act} {w : World} {Q : Exit → Act → World → Prop} (hgd : op.guard = none) (x y : Operand) (ho : op.op = .store 63 x y)
    (g : Nat) (hx : act.eval x = .pointer (some ⟨g, 0, none⟩)) (a o : Option Addr) (al ac ol oc : Nat) (p m e : Int) (hy : act.eval y = .agg (sA a al ac p o ol oc m e)) (old : Array Value) (hs : old.size = 5) (hg : w.heap[g]? = some (.cells old 63 (0, 0)))
    (h : ∀ w2 : World, w2.heap[g]? = some (.cells (sA a al ac p o ol oc m e) 63 (0, 0)) → Kept (fun i => i = g) w w2 → wpList Tryz.prog ops Q rest (act.put op.dst undef) w2) : wpList Tryz.prog ops Q (op :: rest) act w :=
  wpList_store_row hgd 63 x y ho g (sA a al ac p o ol oc m e) hx hy old 63 hg infoS (by rw [hs]; rfl) (by simp [sA, Value.oneCell']) _ rfl (h _ (setRow_heap w g _ _ _ _ hg) (kept_setRow _ _ _))
theorem st_load {ops : Array Oper} {rest : List Oper} {op : Oper} {act : Act} {w : World} {Q : Exit → Act → World → Prop} (hgd : op.guard = none) (x : Operand) (ho : op.op = .load 63 x)
    (g : Nat) (hx : act.eval x = .pointer (some ⟨g, 0, none⟩)) (a o : Option Addr) (al ac ol oc : Nat) (p m e : Int) (fr : Nat × Nat) (hg : w.heap[g]? = some (.cells (sA a al ac p o ol oc m e) 63 fr))
    (h : wpList Tryz.prog ops Q rest (act.put op.dst (.agg (sA a al ac p o ol oc m e))) w) : wpList Tryz.prog ops Q (op :: rest) act w :=
  wpList_load_row hgd 63 x ho g hx _ 63 fr hg _ Tryz.underlying63 rfl infoS h
theorem st_run {w : World} {g : Nat} {a o : Option Addr} {al ac ol oc : Nat} {p m e : Int} (hg : w.heap[g]? = some (.cells (sA a al ac p o ol oc m e) 63 (0, 0))) : (loadVar 63 ⟨g, 0, none⟩).run Tryz.prog w = .ok (.agg (sA a al ac p o ol oc m e)) w :=
  run_loadVar_row w g 63 63 _ (0, 0) _ hg Tryz.underlying63 rfl infoS

set_option maxHeartbeats 1000000 in
theorem rfails_c (a o : Option Addr) (al ac ol oc : Nat) (p m e f : Int) (w : World) :
    Calls Tryz.prog 36 #[.agg (sA a al ac p o ol oc m e), .int .i64 f] w fun x w' => x = .returned (.agg (sA a al ac p o ol oc m (if e = 0 then f else e))) ∧ Below w.heap.size w w' := by
  have HB : ∀ u v : Array Value, Hid (Below w.heap.size w ((w.alloc (.cells u 63)).alloc (.cells v 63))) := fun u v => ((Below.refl _ w).alloc (Nat.le_refl _) _).alloc (by simp) _
  unfold sA
  by_cases he : e = 0
  · subst he
    go_enter Tryz.func36, Tryz.ntmps36
    go_wp2
    go_returns
    exact ⟨rfl, (HB _ _).out⟩
  · go_enter Tryz.func36, Tryz.ntmps36
    go_wp2
    go_returns
    exact ⟨rfl, (HB _ _).out⟩

/-- The bits of L. -/
def lb (L : List Int) (i : Nat) : Nat := (ln L i).toNat
theorem lb_le {L : List Int} (hb : Bin L) (i : Nat) : lb L i ≤ 1 := by have := hb i; unfold lb ln; omega
theorem lb_int {L : List Int} (hb : Bin L) (i : Nat) : (lb L i : Int) = ln L i := by have := hb i; unfold lb ln; omega

set_option maxHeartbeats 2000000 in
theorem rbits_yes (lo hi : Nat) (a o : Option Addr) (ac ol oc : Nat) (L : List Int) (p n : Nat) (m : Int) (w : World) (hL : L.length ≤ 1000000) (hb : Bin L) (hi_ : Ints lo hi w a L) (hn : n ≤ 16) (hp : p + n ≤ L.length) :
    Calls Tryz.prog 30 #[.agg (sA a L.length ac p o ol oc m 0), .int .i64 (n : Int)] w fun x w' => x = .returned (.tuple #[.agg (sA a L.length ac ((p + n : Nat) : Int) o ol oc m 0), .int .i64 (iNum (lb L) p n : Int)]) ∧ Below w.heap.size w w' := by
  have HB : ∀ u v : Array Value, Hid (Below w.heap.size w ((w.alloc (.cells u 63)).alloc (.cells v 63))) := fun u v => ((Below.refl _ w).alloc (Nat.le_refl _) _).alloc (by simp) _
  have HI : Hid (Ints lo hi w a L) := hi_
  have HBin : Hid (Bin L) := hb
  have HE : ∀ k, Hid (iNum (lb L) p (k + 1) = iNum (lb L) p k + lb L (p + k) * 2 ^ k) := fun k => rfl
  have HLt : ∀ k, Hid (iNum (lb L) p k < 2 ^ k) := fun k => iNum_lt (lb_le hb) p k
  have hp' : ¬ ((L.length : Int) - p < n) := by omega
  have hp0 : (p : Int) ≤ 1000000 := by omega
  clear hb hi_
  unfold sA
  go_enter Tryz.func30, Tryz.ntmps30
  go_wp2
  go_loop [6, 7, 8] (fun v q i => ∃ k : Nat, k ≤ n ∧ i = .int .i64 k ∧ q = .int .i64 ((2 ^ k : Nat) : Int) ∧ v = .int .i64 (iNum (lb L) p k : Int)) (fun _ _ i => n - (intOf i).toNat)
  case atStart => exact ⟨0, by omega, rfl, rfl, rfl⟩
  case round =>
    obtain ⟨k, hk, rfl, rfl, rfl⟩ := hrel
    by_cases hlt : k < n
    · obtain ⟨b, off, _, _, hbw, rfl, hcell⟩ := HI.out.resolve_left (by omega)
      have hc := hcell (p + k) (by omega)
      have hx := HBin.out (p + k)
      have h2 : 2 ^ k ≤ 2 ^ 16 := Nat.pow_le_pow_right (by decide) (by omega)
      have h3 := (HLt k).out
      have hle := lb_int HBin.out (p + k)
      rw [← hle] at hc
      have hl1 := lb_le HBin.out (p + k)
      have h4 := (HE k).out
      have h5 : Hid (2 ^ (k + 1) = 2 ^ k * 2) := Nat.pow_succ 2 k
      have HK : Hid (iNum (lb L) p (k + 1) = iNum (lb L) p k + 2 ^ k * lb L (p + k)) := by rw [Nat.mul_comm]; exact h4
      clear hcell hx hle HBin h4
      generalize 2 ^ k = Q at h2 h3 h5 HK ⊢
      generalize iNum (lb L) p k = V at h3 HK ⊢
      generalize lb L (p + k) = X at hc hl1 HK
      rcases (show X = 0 ∨ X = 1 by omega) with rfl | rfl
      · go_wp2
        go_round
        case rel => exact ⟨k + 1, by omega, by go_num, by rw [h5.out]; go_num, by rw [HK.out]; go_num⟩
        case measure => simp [intOf]; omega
      · go_wp2
        go_round
        case rel => exact ⟨k + 1, by omega, by go_num, by rw [h5.out]; go_num, by rw [HK.out]; go_num⟩
        case measure => simp [intOf]; omega
    · obtain rfl : k = n := by omega
      go_wp2
      go_returns
      exact ⟨rfl, (HB _ _).out⟩

set_option maxHeartbeats 2000000 in
theorem rbits_no (a o : Option Addr) (al ac ol oc : Nat) (p n : Nat) (m e : Int) (w : World) (hn : n ≤ 16) (hp : p ≤ al) (he : e ≠ 0 ∨ al < p + n) :
    Calls Tryz.prog 30 #[.agg (sA a al ac p o ol oc m e), .int .i64 (n : Int)] w fun x w' => x = .returned (.tuple #[.agg (sA a al ac p o ol oc m (if e = 0 then 60 else e)), .int .i64 0]) ∧ Below w.heap.size w w' := by
  have HB : ∀ u v : Array Value, Hid (Below w.heap.size w ((w.alloc (.cells u 63)).alloc (.cells v 63))) := fun u v => ((Below.refl _ w).alloc (Nat.le_refl _) _).alloc (by simp) _
  have H1 : ∀ u v : Array Value, Hid (((w.alloc (.cells u 63)).alloc (.cells v 63)).heap[w.heap.size + 1]? = some (.cells v 63 (0, 0))) := fun u v => heap_new2 w _ _
  have HF := fun w' => hide (rfails_c a o al ac ol oc p m e 60 w')
  unfold sA at HF
  show Calls Tryz.prog 30 #[.agg #[.slice a al ac, .int .i64 (p : Int), .slice o ol oc, .int .i64 m, .int .i64 e], .int .i64 (n : Int)] w _
  by_cases h0 : e = 0
  case' pos =>
    subst h0
    have hp' : (al : Int) - p < n := by omega
  all_goals
    go_enter Tryz.func30, Tryz.ntmps30
    go_wp2_with (first
      | (go_at_call 36; refine (HF _).out.mono ?_; rintro x w1 ⟨rfl, hb⟩; have hbs := hb.block (w.heap.size + 1) (by simp))
      | (refine st_store rfl (.tmp 4) (.tmp 23) rfl (w.heap.size + 1) (by rfl) a o al ac ol oc p m _ (by rfl) _ (by rfl) (hbs.trans (H1 _ _).out) ?_; intro w2 hg2 hk2; have HG2 := hide hg2; have HK2 := hide hk2; clear hg2 hk2))
    refine bodyPost_ret (v := .tuple #[.agg (sA a al ac p o ol oc m _), .int .i64 0]) ?_ rfl ⟨rfl, ?_⟩
    · have hld := st_run HG2.out
      simp [results, asAddr, hld]
    · exact (((HB _ _).out.trans (hb.mono (by simp; omega))).trans (HK2.out.below (by have := hb.size; simp at this; omega) (fun i hi e => by omega)))
end Go.Proofs.YtlakgbckopjelabGreatDoor
