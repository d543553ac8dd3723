/- Several texts, laid together: PLaid, RState. -/
import Derived.Test.YtibolmgijaploaaDoorG23PAlive
import Derived.Test.YtibolmgijaploaaDoorG04Open
import Derived.Test.YtibolmgijaploaaDoorCards
import Derived.Test.YtibolmgijaploaaDoorTie
import Derived.LaidMore
import Derived.Lib.LaidTab
import Derived.Stop.Joined
import Derived.Lay
import Derived.ChangeMaps5
import Derived.SevenTiedAt
import Derived.JoinedCond
import Derived.Test.YtibolmgijaploaaDoorG10IStored
import Derived.Test.YtibolmgijaploaaDoorG12PState
import Derived.Handy
/- PROVED: where the listed variable reads as the program's text lays it, the order of lengths lies in its variable; the world that the program's own start leaves is such a world. How the laws' arguments are opened. -/
namespace Go.Proofs.YtibolmgijaploaaDoor
set_option maxRecDepth 100000
open Go Go.RowKit
set_option linter.unusedVariables false

/-- The name of the listed variable, as the row has it. -/
def vnO : String := ((Rows.inflateReadsRow.laid.map Prod.fst)[0]?).getD ""
theorem gO : Tryd.prog.globalNamed vnO = some 0 := by kernel_rfl
theorem tO : (Tryd.prog.globals[0]?).map (·.type) = some 94 := by kernel_rfl
theorem tabIs_of_vars {P : Program} {W : World} {name : String} {k : IntKind} {zs : List Int} {rest : List (String × DataW Unit)} {g : Nat} {t e : TypeId} {n : Nat} {ps : List MemPlace}
    (hg : P.globalNamed name = some g) (hty : (P.globals[g]?).map (·.type) = some t) (ht : P.underlying t = some (.array n e)) (he : P.underlying e = some (.int k)) (hce : P.cellsOf e = 1) (hct : P.cellsOf t = n)
    (h : DataW.LaidVars P W ((name, Lib.tabData k zs) :: rest) ps) : Lib.TabIs P W name k zs := by
  obtain ⟨g', t', cs, fuel, p, q, hg', ht', hvar, hd, _, _⟩ := h
  obtain rfl := Option.some.inj (hg.symm.trans hg')
  obtain rfl := Option.some.inj (hty.symm.trans ht')
  unfold Lib.TabIs
  rw [hvar, ← Lib.cells_of_tab ht he hce hct hd]
theorem laid_eq : ∃ r, Rows.inflateReadsRow.laid = (vnO, Lib.tabData .i64 (iOrd.map Int.ofNat)) :: r := ⟨_, rfl⟩
theorem cells19 : Tryd.prog.cellsOf 94 = 19 := by kernel_rfl
theorem tab_of_laid {W : World} (h : laidMetH Tryd.prog Rows.inflateReadsRow.laid W) : Tab W := by
  rw [MakeChecks.laidMetH_plain _ _ _ (by kernel_rfl)] at h
  obtain ⟨r, he⟩ := laid_eq
  rw [he] at h
  obtain ⟨ps, hl, _⟩ := h
  have hO := tabIs_of_vars gO tO Tryd.underlying94 Tryd.underlying3 Tryd.cells3 cells19 hl
  intro i hi
  have := hO.cell gO i (by rw [List.length_map]; exact hi)
  rw [this]
  congr 2
  have hi' : i < iOrd.length := hi
  simp [List.getD, hi']
theorem wit_met (os : Os) (args : Array Value) : laidMetH Tryd.prog Rows.inflateReadsRow.laid ((World.laidAll Tryd.prog os Rows.inflateReadsRow.laid).forCall (fun _ _ => 0) ⟨#[], args, []⟩).memory := by
  rw [MakeChecks.laidMetH_plain _ _ _ (by kernel_rfl)]
  exact laidMet_laidAll _ (by kernel_rfl) (by kernel_rfl)

section
open Go.ChangeShapes Go.WideShapes Go.ChangeAt
variable {H : Type} {enc : TypeId × Value → H} {W : World}
/-- Bytes that come in. -/
def BIn (W : World) (a : Option Addr) (len cap : Nat) (zs : List Int) : Prop := Text W.heap.size W a len zs ∧ len ≤ cap ∧ (a = none → len = 0 ∧ cap = 0)
theorem trod_bytes {fuel : Nat} {cs : List Value} {x : DataW H × List MemPlace} (h : DataW.trod enc Tryd.prog W 0 (fun _ => true) true fuel 22 cs = some x) :
    ∃ a len cap zs, cs = [.slice a len cap] ∧ BIn W a len cap zs ∧ ((x.1 = .nil ∧ len = 0) ∨ ∃ els sp, x.1 = .slice els sp ∧ els.length = len) := by
  rcases open_ints Tryd.underlying22 Tryd.underlying5 Tryd.cells5 h with ⟨rfl, rfl⟩ | ⟨a, l, c, zs, rfl, _, hl, hm, hz, rfl, hcell, hwz⟩
  · exact ⟨none, 0, 0, [], rfl, ⟨⟨rfl, by intro i; simp, .inl rfl⟩, Nat.le_refl _, fun _ => ⟨rfl, rfl⟩⟩, .inl ⟨rfl, rfl⟩⟩
  · have hz' : zs.length = c := by simpa using hz
    refine ⟨some a, l, c, zs.take l, rfl, ⟨⟨by simp; omega, ?_, ?_⟩, hl, fun e => by simp at e⟩, .inr ⟨_, _, rfl, by simp [lits]; omega⟩⟩
    · intro i
      by_cases hi : i < (zs.take l).length
      · have hm := List.getElem_mem hi
        have hw := bounds_u8 (hwz _ (List.mem_of_mem_take hm))
        simp only [List.getD, List.getElem?_eq_getElem hi, Option.getD_some]
        omega
      · simp [List.getD, List.getElem?_eq_none (show (zs.take l).length ≤ i by omega)]
    · by_cases h0 : l = 0
      · exact .inl h0
      · obtain ⟨b, off, spot⟩ := a
        have hc := hcell 0 (by omega)
        have hspot : spot = none := by simpa [Addr.add] using World.cell?_spot hc
        subst hspot
        refine .inr ⟨b, off, ?_, rfl, fun i hi => ?_⟩
        · have := lt_of_cell hc
          simpa [Addr.add] using this
        · have := hcell i (by omega)
          have e : ((⟨b, off, none⟩ : Addr).add i) = ⟨b, off + i, none⟩ := by unfold Addr.add; split <;> simp_all
          rw [e] at this
          rw [this]
          simp [List.getD, hi]
theorem open_bytes {ts : List TypeId} {ds : List (DataW H)} {j : Nat} {a : Option Addr} {len cap : Nat} {d : DataW H} {p : List MemPlace} (hsz : (DataW.weightsEach Tryd.prog ts ds).all (· ≤ reachBytes) = true) (ht : ts[j]? = some 22) (hd : ds[j]? = some d)
    (h : DataW.Trod enc Tryd.prog W 0 (fun _ => true) true 22 (.slice a len cap) d p) : ∃ zs, BIn W a len cap zs ∧ len ≤ 140737488351232 := by
  obtain ⟨fuel, hf⟩ := h
  obtain ⟨a', len', cap', zs, hcs, htx, hx⟩ := trod_bytes hf
  simp [Value.cells] at hcs
  obtain ⟨rfl, rfl, rfl⟩ := hcs
  refine ⟨zs, htx, ?_⟩
  rcases hx with ⟨_, h0⟩ | ⟨els, sp, hx, hl⟩
  · omega
  · simp only at hx
    subst hx
    have := sized_slice hsz ht hd Tryd.underlying22
    rw [Tryd.bytes5] at this
    simp only [reachBytes] at this
    omega
theorem bulk_one (d : DataW H) : 1 ≤ Rows.uptoBulk d := by
  cases d with
  | lit l => cases l <;> simp [Rows.uptoBulk]
  | nil => simp [Rows.uptoBulk]
  | ptr d => simp [Rows.uptoBulk]
  | slice elems spare => simp [Rows.uptoBulk]
  | agg parts => simp [Rows.uptoBulk]
  | iface t d => simp [Rows.uptoBulk]
  | map entries => simp [Rows.uptoBulk]
  | held h => simp [Rows.uptoBulk]
theorem bulk_len (l : List (DataW H)) : l.length ≤ Rows.uptoBulkAll l := by
  induction l with
  | nil => simp [Rows.uptoBulkAll]
  | cons x r ih => have := bulk_one x; simp only [Rows.uptoBulkAll, List.length_cons]; omega
theorem open_small {a : Option Addr} {len cap : Nat} {d : DataW H} {p : List MemPlace} (hk : Rows.uptoBulk d ≤ 1048576) (h : DataW.Trod enc Tryd.prog W 0 (fun _ => true) true 22 (.slice a len cap) d p) : ∃ zs, BIn W a len cap zs ∧ len ≤ 1048576 := by
  obtain ⟨fuel, hf⟩ := h
  obtain ⟨a', len', cap', zs, hcs, htx, hx⟩ := trod_bytes hf
  simp [Value.cells] at hcs
  obtain ⟨rfl, rfl, rfl⟩ := hcs
  refine ⟨zs, htx, ?_⟩
  rcases hx with ⟨_, h0⟩ | ⟨els, sp, hx, hl⟩
  · omega
  · simp only at hx
    subst hx
    have := bulk_len els
    simp only [Rows.uptoBulk] at hk
    omega
end
theorem BIn.stay {W W' : World} {a : Option Addr} {len cap : Nat} {zs : List Int} (h : BIn W a len cap zs) (k : Below W.heap.size W W') : BIn W' a len cap zs :=
  ⟨(h.1.kept (Kept.of_below k) (fun b hb e => by omega)).up k.size, h.2⟩
theorem inf_in {W : World} {a : Option Addr} {len cap : Nat} {zs : List Int} (h : BIn W a len cap zs) (hT : Tab W) (hl : len ≤ 140737488351232) (most : Int) (hm : most ≤ 10000000) : Calls Tryd.prog 10 #[.slice a len cap, .int .i64 most] W (InfOk W (iAns zs most.toNat)) :=
  inflate_c a len cap zs most W h.1 hT hl h.2.1 hm
theorem Tab.pos {w : World} (h : Tab w) : 0 < w.heap.size := lt_of_cell (h 0 (by decide))
theorem Tab.on {w w' : World} (h : Tab w) (k : Below w.heap.size w w') : Tab w' := h.below k h.pos
end Go.Proofs.YtibolmgijaploaaDoor

/- The reference's state as it lies in memory: loaded and stored whole; fails and bits: contracts. -/
namespace Go.Proofs.YtibolmgijaploaaDoor
set_option maxRecDepth 100000
open Go Go.RowKit

/-- A state's cells. -/
def sA (a : Option Addr) (al ac : Nat) (p : Int) (o : Option Addr) (ol oc : Nat) (m e : Int) : Array Value := #[.slice a al ac, .int .i64 p, .slice o ol oc, .int .i64 m, .int .i64 e]
theorem infoS : (Tryd.prog.info? 46).map (·.size) = some 5 := by rfl

theorem st_store {ops : Array Oper} {rest : List Oper} {op : Oper} {act : Act} {w : World} {Q : Exit → Act → World → Prop} (hgd : op.guard = none) (x y : Operand) (ho : op.op = .store 46 x y)
    (g : Nat) (hx : act.eval x = .pointer (some ⟨g, 0, none⟩)) (a o : Option Addr) (al ac ol oc : Nat) (p m e : Int) (hy : act.eval y = .agg (sA a al ac p o ol oc m e)) (old : Array Value) (hs : old.size = 5) (hg : w.heap[g]? = some (.cells old 46 (0, 0)))
    (h : ∀ w2 : World, w2.heap[g]? = some (.cells (sA a al ac p o ol oc m e) 46 (0, 0)) → Kept (fun i => i = g) w w2 → wpList Tryd.prog ops Q rest (act.put op.dst undef) w2) : wpList Tryd.prog ops Q (op :: rest) act w :=
  wpList_store_row hgd 46 x y ho g (sA a al ac p o ol oc m e) hx hy old 46 hg infoS (by rw [hs]; rfl) (by simp [sA, Value.oneCell']) _ rfl (h _ (setRow_heap w g _ _ _ _ hg) (kept_setRow _ _ _))
theorem st_load {ops : Array Oper} {rest : List Oper} {op : Oper} {act : Act} {w : World} {Q : Exit → Act → World → Prop} (hgd : op.guard = none) (x : Operand) (ho : op.op = .load 46 x)
    (g : Nat) (hx : act.eval x = .pointer (some ⟨g, 0, none⟩)) (a o : Option Addr) (al ac ol oc : Nat) (p m e : Int) (fr : Nat × Nat) (hg : w.heap[g]? = some (.cells (sA a al ac p o ol oc m e) 46 fr))
    (h : wpList Tryd.prog ops Q rest (act.put op.dst (.agg (sA a al ac p o ol oc m e))) w) : wpList Tryd.prog ops Q (op :: rest) act w :=
  wpList_load_row hgd 46 x ho g hx _ 46 fr hg _ Tryd.underlying46 rfl infoS h
theorem st_run {w : World} {g : Nat} {a o : Option Addr} {al ac ol oc : Nat} {p m e : Int} (hg : w.heap[g]? = some (.cells (sA a al ac p o ol oc m e) 46 (0, 0))) : (loadVar 46 ⟨g, 0, none⟩).run Tryd.prog w = .ok (.agg (sA a al ac p o ol oc m e)) w :=
  run_loadVar_row w g 46 46 _ (0, 0) _ hg Tryd.underlying46 rfl infoS

set_option maxHeartbeats 1000000 in
theorem rfails_c (a o : Option Addr) (al ac ol oc : Nat) (p m e f : Int) (w : World) :
    Calls Tryd.prog 22 #[.agg (sA a al ac p o ol oc m e), .int .i64 f] w fun x w' => x = .returned (.agg (sA a al ac p o ol oc m (if e = 0 then f else e))) ∧ Below w.heap.size w w' := by
  have HB : ∀ u v : Array Value, Hid (Below w.heap.size w ((w.alloc (.cells u 46)).alloc (.cells v 46))) := fun u v => ((Below.refl _ w).alloc (Nat.le_refl _) _).alloc (by simp) _
  unfold sA
  by_cases he : e = 0
  · subst he
    go_enter Tryd.func22, Tryd.ntmps22
    go_wp2
    go_returns
    exact ⟨rfl, (HB _ _).out⟩
  · go_enter Tryd.func22, Tryd.ntmps22
    go_wp2
    go_returns
    exact ⟨rfl, (HB _ _).out⟩

/-- The bits of L. -/
def lb (L : List Int) (i : Nat) : Nat := (ln L i).toNat
theorem lb_le {L : List Int} (hb : Bin L) (i : Nat) : lb L i ≤ 1 := by have := hb i; unfold lb ln; omega
theorem lb_int {L : List Int} (hb : Bin L) (i : Nat) : (lb L i : Int) = ln L i := by have := hb i; unfold lb ln; omega

set_option maxHeartbeats 2000000 in
theorem rbits_yes (lo hi : Nat) (a o : Option Addr) (ac ol oc : Nat) (L : List Int) (p n : Nat) (m : Int) (w : World) (hL : L.length ≤ 1000000) (hb : Bin L) (hi_ : Ints lo hi w a L) (hn : n ≤ 16) (hp : p + n ≤ L.length) :
    Calls Tryd.prog 16 #[.agg (sA a L.length ac p o ol oc m 0), .int .i64 (n : Int)] w fun x w' => x = .returned (.tuple #[.agg (sA a L.length ac ((p + n : Nat) : Int) o ol oc m 0), .int .i64 (iNum (lb L) p n : Int)]) ∧ Below w.heap.size w w' := by
  have HB : ∀ u v : Array Value, Hid (Below w.heap.size w ((w.alloc (.cells u 46)).alloc (.cells v 46))) := fun u v => ((Below.refl _ w).alloc (Nat.le_refl _) _).alloc (by simp) _
  have HI : Hid (Ints lo hi w a L) := hi_
  have HBin : Hid (Bin L) := hb
  have HE : ∀ k, Hid (iNum (lb L) p (k + 1) = iNum (lb L) p k + lb L (p + k) * 2 ^ k) := fun k => rfl
  have HLt : ∀ k, Hid (iNum (lb L) p k < 2 ^ k) := fun k => iNum_lt (lb_le hb) p k
  have hp' : ¬ ((L.length : Int) - p < n) := by omega
  have hp0 : (p : Int) ≤ 1000000 := by omega
  clear hb hi_
  unfold sA
  go_enter Tryd.func16, Tryd.ntmps16
  go_wp2
  go_loop [6, 7, 8] (fun v q i => ∃ k : Nat, k ≤ n ∧ i = .int .i64 k ∧ q = .int .i64 ((2 ^ k : Nat) : Int) ∧ v = .int .i64 (iNum (lb L) p k : Int)) (fun _ _ i => n - (intOf i).toNat)
  case atStart => exact ⟨0, by omega, rfl, rfl, rfl⟩
  case round =>
    obtain ⟨k, hk, rfl, rfl, rfl⟩ := hrel
    by_cases hlt : k < n
    · obtain ⟨b, off, _, _, hbw, rfl, hcell⟩ := HI.out.resolve_left (by omega)
      have hc := hcell (p + k) (by omega)
      have hx := HBin.out (p + k)
      have h2 : 2 ^ k ≤ 2 ^ 16 := Nat.pow_le_pow_right (by decide) (by omega)
      have h3 := (HLt k).out
      have hle := lb_int HBin.out (p + k)
      rw [← hle] at hc
      have hl1 := lb_le HBin.out (p + k)
      have h4 := (HE k).out
      have h5 : Hid (2 ^ (k + 1) = 2 ^ k * 2) := Nat.pow_succ 2 k
      have HK : Hid (iNum (lb L) p (k + 1) = iNum (lb L) p k + 2 ^ k * lb L (p + k)) := by rw [Nat.mul_comm]; exact h4
      clear hcell hx hle HBin h4
      generalize 2 ^ k = Q at h2 h3 h5 HK ⊢
      generalize iNum (lb L) p k = V at h3 HK ⊢
      generalize lb L (p + k) = X at hc hl1 HK
      rcases (show X = 0 ∨ X = 1 by omega) with rfl | rfl
      · go_wp2
        go_round
        case rel => exact ⟨k + 1, by omega, by go_num, by rw [h5.out]; go_num, by rw [HK.out]; go_num⟩
        case measure => simp [intOf]; omega
      · go_wp2
        go_round
        case rel => exact ⟨k + 1, by omega, by go_num, by rw [h5.out]; go_num, by rw [HK.out]; go_num⟩
        case measure => simp [intOf]; omega
    · obtain rfl : k = n := by omega
      go_wp2
      go_returns
      exact ⟨rfl, (HB _ _).out⟩

set_option maxHeartbeats 2000000 in
theorem rbits_no (a o : Option Addr) (al ac ol oc : Nat) (p n : Nat) (m e : Int) (w : World) (hn : n ≤ 16) (hp : p ≤ al) (he : e ≠ 0 ∨ al < p + n) :
    Calls Tryd.prog 16 #[.agg (sA a al ac p o ol oc m e), .int .i64 (n : Int)] w fun x w' => x = .returned (.tuple #[.agg (sA a al ac p o ol oc m (if e = 0 then 60 else e)), .int .i64 0]) ∧ Below w.heap.size w w' := by
  have HB : ∀ u v : Array Value, Hid (Below w.heap.size w ((w.alloc (.cells u 46)).alloc (.cells v 46))) := fun u v => ((Below.refl _ w).alloc (Nat.le_refl _) _).alloc (by simp) _
  have H1 : ∀ u v : Array Value, Hid (((w.alloc (.cells u 46)).alloc (.cells v 46)).heap[w.heap.size + 1]? = some (.cells v 46 (0, 0))) := fun u v => heap_new2 w _ _
  have HF := fun w' => hide (rfails_c a o al ac ol oc p m e 60 w')
  unfold sA at HF
  show Calls Tryd.prog 16 #[.agg #[.slice a al ac, .int .i64 (p : Int), .slice o ol oc, .int .i64 m, .int .i64 e], .int .i64 (n : Int)] w _
  by_cases h0 : e = 0
  case' pos =>
    subst h0
    have hp' : (al : Int) - p < n := by omega
  all_goals
    go_enter Tryd.func16, Tryd.ntmps16
    go_wp2_with (first
      | (go_at_call 22; refine (HF _).out.mono ?_; rintro x w1 ⟨rfl, hb⟩; have hbs := hb.block (w.heap.size + 1) (by simp))
      | (refine st_store rfl (.tmp 4) (.tmp 23) rfl (w.heap.size + 1) (by rfl) a o al ac ol oc p m _ (by rfl) _ (by rfl) (hbs.trans (H1 _ _).out) ?_; intro w2 hg2 hk2; have HG2 := hide hg2; have HK2 := hide hk2; clear hg2 hk2))
    refine bodyPost_ret (v := .tuple #[.agg (sA a al ac p o ol oc m _), .int .i64 0]) ?_ rfl ⟨rfl, ?_⟩
    · have hld := st_run HG2.out
      simp [results, asAddr, hld]
    · exact (((HB _ _).out.trans (hb.mono (by simp; omega))).trans (HK2.out.below (by have := hb.size; simp at this; omega) (fun i hi e => by omega)))
end Go.Proofs.YtibolmgijaploaaDoor
