/- Several texts, laid together: DAlive0, DLaid, DQSto, DCutN. -/
import Derived.Test.YtlakgbckopjelaaDoorE10DDef
import Derived.Test.YtlakgbckopjelaaDoorG08HBits
import Derived.Test.YtlakgbckopjelaaDoorG14PRunW
import Derived.Lib.SlBytesConst
import Derived.Test.YtlakgbckopjelaaDoorG03RefRow
import Derived.Test.YtlakgbckopjelaaDoorCards
import Derived.Test.YtlakgbckopjelaaDoorTie
import Derived.LaidMore
import Derived.Lib.LaidTab
import Derived.Stop.Joined
import Derived.Lay
import Derived.ChangeMaps5
import Derived.SevenTiedAt
import Derived.JoinedCond
import Derived.Laws.AppendOwnNone
/- alive: contract. -/
namespace Go.Proofs.YtlakgbckopjelaaDoor
set_option maxRecDepth 100000
open Go Go.RowKit
set_option linter.unusedVariables false

theorem text_lit {w : World} {g : Nat} {L : List Int} {cs : Array Value} {t : TypeId} {fr : Nat × Nat} (h : w.heap[g]? = some (.cells cs t fr)) (hc : cs = (L.map (Value.int .u8)).toArray) (hb : ∀ x ∈ L, 0 ≤ x ∧ x ≤ 255) : Text w.heap.size w (some ⟨g, 0, none⟩) L.length L := by
  refine ⟨rfl, fun i => ?_, .inr ⟨g, 0, lt_of_block h, rfl, fun i hi => ?_⟩⟩
  · by_cases hi : i < L.length
    · simp only [List.getD, List.getElem?_eq_getElem hi, Option.getD_some]
      exact hb _ (List.getElem_mem hi)
    · simp [List.getD, List.getElem?_eq_none (show L.length ≤ i by omega)]
  · subst hc
    simp [World.cell?, h, List.getD, hi]
abbrev tkA : List M.Tk := [(97, 0, 0)]
theorem fix_a : dataL (blB 1 true [] iFix iFive tkA) = [75, 4, 0] := by decide +kernel
theorem fix_none : (dataL (blB 1 true [] iFix iFive [])).length = 2 := by decide +kernel
theorem sz_none : szB 1 [] iFix iFive [] = 10 := by decide +kernel
theorem sto_a : stB [97] = [1, 1, 0, 254, 255, 97] := by rw [stB_small (by decide)]; rfl
theorem sto_none : (stB []).length = 5 := by rw [stB_small (by decide)]; rfl
theorem tk_in {w : World} {v : Array Value} (hv : v = #[.int .u8 97, .int .i64 0, .int .i64 0]) : TkIn (w.alloc (.cells v 32)) (some ⟨w.heap.size, 0, none⟩) tkA := by
  have hb : (w.alloc (.cells v 32)).heap[w.heap.size]? = some (.cells v 32 (0, 0)) := heap_new w _
  refine ⟨.inr ⟨w.heap.size, 0, lt_of_block hb, rfl, fun i hi => ?_⟩, fun b off e => ?_, fun t ht => ?_, by decide⟩
  · obtain rfl : i = 0 := by simpa using hi
    subst hv
    refine ⟨?_, ?_, ?_⟩ <;> rw [cells_of hb] <;> rfl
  · simp only [Option.some.injEq, Addr.mk.injEq, and_true] at e
    obtain ⟨rfl, _⟩ := e
    exact lt_of_block hb
  · simp at ht
    subst ht
    exact .inl ⟨rfl, by decide, by decide⟩
theorem rt_a : M.Rt tkA := fun j hj => by
  obtain rfl : j = 0 := by simpa using hj
  exact .inl ⟨rfl, rfl⟩
theorem dyn_len {S D H : List Int} {ts : List M.Tk} (hb : BkOk 2 ts S D) (hH : HdIs 2 S D H) : 29 ≤ 3 + H.length := by
  rcases hH with ⟨h, _⟩ | ⟨_, _, F, many, hll, rfl⟩
  · omega
  · have := hll.m0
    unfold hdB
    simp only [List.length_append, bitsN_length, innB_length]
    omega
theorem def_none {X : List Int} (h : DefIs [] 1 X) : X.length = 2 := by
  obtain ⟨ts, k, S, D, H0, H, hr, h8, htel, hle, _, hb, hH0, hH, hsz, hX⟩ := h.2 (by decide)
  have hts : ts = [] := List.eq_nil_of_length_eq_zero (by simpa using hle)
  subst hts
  rw [sz_none] at hsz
  have hn1 := mco_nonneg false (check_ok hb.cs).2.1 (emk [])
  have hn2 := mco_nonneg true (check_ok hb.cd).2.1 (emk [])
  rcases hb.kind with ⟨rfl, rfl, rfl⟩ | ⟨rfl, _⟩
  · obtain ⟨_, _, rfl⟩ := kind_one hb hH
    rcases hX with ⟨rfl, _⟩ | ⟨rfl, hlt⟩
    · exact fix_none
    · rw [fix_none, sto_none] at hlt; omega
  · have := dyn_len hb hH0
    unfold szB at hsz
    omega
set_option maxHeartbeats 4000000 in
theorem alive_c (w : World) (hT : Tab w) : Calls Tryd.prog 4 #[] w fun e w' => e = .returned (.bool true) ∧ Below w.heap.size w w' := by
  have h0 : 0 < w.heap.size := lt_of_cell (hT 0 (by decide))
  have HT := hide hT
  have HA1 : Hid (Calls Tryd.prog 9 #[.slice (some ⟨w.heap.size, 0, none⟩) 1 1] (w.alloc (.cells #[.int .u8 97] 5 (1, 2))) fun e w' => ∃ g c, e = .returned (.slice (some ⟨g, 0, none⟩) 6 c) ∧ OwnsB w' 0 (.slice (some ⟨g, 0, none⟩) 6 c) [1, 1, 0, 254, 255, 97] ∧ Below w.heap.size w w') := by
    have hb : Below w.heap.size w (w.alloc (.cells #[.int .u8 97] 5 (1, 2))) := (Below.refl _ w).alloc (Nat.le_refl _) _
    refine (stored_c _ (some ⟨w.heap.size, 0, none⟩) 1 [97] (text_lit (heap_new w _) rfl (by decide)) (fun e => by cases e) (by decide) (by decide)).mono ?_
    rintro e w' ⟨g, c, rfl, o, b⟩
    rw [sto_a] at o ⊢
    exact ⟨g, c, rfl, OwnsB.low o (Nat.zero_le _), hb.trans (b.mono hb.size)⟩
  have HA2 : Hid (∀ w1, Below w.heap.size w w1 → Calls Tryd.prog 7 #[.slice (some ⟨w1.heap.size, 0, none⟩) 1 1] (w1.alloc (.cells #[.int .u8 97, .int .i64 0, .int .i64 0] 32)) fun e w' => ∃ g c, e = .returned (.tuple #[.slice (some ⟨g, 0, none⟩) 3 c, .bool true]) ∧ OwnsB w' 0 (.slice (some ⟨g, 0, none⟩) 3 c) [75, 4, 0] ∧ Below w1.heap.size w1 w') := fun w1 hb1 => by
    have hb : Below w1.heap.size w1 (w1.alloc (.cells #[.int .u8 97, .int .i64 0, .int .i64 0] 32)) := (Below.refl _ w1).alloc (Nat.le_refl _) _
    have hb2 : Below w.heap.size w (w1.alloc (.cells #[.int .u8 97, .int .i64 0, .int .i64 0] 32)) := hb1.trans (hb.mono hb1.size)
    refine (fixed_yes _ (HT.out.below hb2 h0) (Nat.lt_of_lt_of_le h0 hb2.size) (some ⟨w1.heap.size, 0, none⟩) 1 tkA (tk_in rfl) rt_a).mono ?_
    rintro e w' ⟨S, D, H, g, c, hbk, _, hH, rfl, o, b⟩
    obtain ⟨rfl, rfl, rfl⟩ := kind_one hbk hH
    rw [fix_a] at o ⊢
    exact ⟨g, c, rfl, OwnsB.low o (Nat.zero_le _), hb.trans (b.mono hb.size)⟩
  have HA3 : Hid (∀ w1, Below w.heap.size w w1 → Calls Tryd.prog 10 #[.slice (some ⟨w1.heap.size, 0, none⟩) 1 1] (w1.alloc (.cells #[.int .u8 97, .int .i64 0, .int .i64 0] 32)) fun e w' => ∃ g c n, e = .returned (.tuple #[.slice (some ⟨g, 0, none⟩) n c, .bool true]) ∧ 3 < n ∧ Below w1.heap.size w1 w') := fun w1 hb1 => by
    have hb : Below w1.heap.size w1 (w1.alloc (.cells #[.int .u8 97, .int .i64 0, .int .i64 0] 32)) := (Below.refl _ w1).alloc (Nat.le_refl _) _
    have hb2 : Below w.heap.size w (w1.alloc (.cells #[.int .u8 97, .int .i64 0, .int .i64 0] 32)) := hb1.trans (hb.mono hb1.size)
    refine (dynamic_yes _ (HT.out.below hb2 h0) (Nat.lt_of_lt_of_le h0 hb2.size) (some ⟨w1.heap.size, 0, none⟩) 1 tkA (tk_in rfl) rt_a).mono ?_
    rintro e w' ⟨S, D, H, g, c, hbk, _, hH, rfl, o, b⟩
    refine ⟨g, c, _, rfl, ?_, hb.trans (b.mono hb.size)⟩
    have := dyn_len hbk hH
    rw [dataL_length]
    unfold blB
    rw [List.length_append, List.length_append, knd_length]
    omega
  have HA4 : Hid (∀ w1, Below w.heap.size w w1 → Calls Tryd.prog 5 #[.slice none 0 0, .int .i64 1] w1 fun e w' => ∃ g c, e = .returned (.slice (some ⟨g, 0, none⟩) 2 c) ∧ Below w1.heap.size w1 w') := fun w1 hb1 => by
    refine (deflate_c w1 (HT.out.below hb1 h0) (Nat.lt_of_lt_of_le h0 hb1.size) none 0 [] 1 ⟨rfl, fun i => by simp, .inl rfl⟩ (fun _ => ⟨rfl, rfl⟩) (by decide) (by decide) (by decide)).mono ?_
    rintro e w' ⟨g, c, X, rfl, o, hX, b⟩
    rw [def_none hX]
    exact ⟨g, c, rfl, b⟩
  have hcb := Lib.run_convert_bytes_const (P := Tryd.prog) w 22 5 #[.int .u8 97] 1 1 Tryd.underlying22 Tryd.underlying5
  change _ = Result.ok _ (w.alloc (.cells #[.int .u8 97] 5 (1, 2))) at hcb
  clear hT
  go_enter Tryd.func4, Tryd.ntmps4
  go_upto_region 2 with (go_at_call 9; refine HA1.out.mono ?_; rintro e w1 ⟨g1, c1, rfl, o1, b1⟩; have O1 := hide o1; have B1 := hide b1; have H2 := hide (HA2.out w1 b1); clear o1 b1 HA1 HA2)
  go_upto_region 3 with (go_at_call 7; refine H2.out.mono ?_; rintro e w2 ⟨g2, c2, rfl, o2, b2⟩; have O2 := hide o2; have O12 := hide (OwnsB.below O1.out b2); have B2 := hide (B1.out.trans (b2.mono B1.out.size)); have H3 := hide (HA3.out w2 B2.out); clear o2 b2 H2 HA3 O1)
  go_upto_region 4 with (go_at_call 10; refine H3.out.mono ?_; rintro e w3 ⟨g3, c3, n3, rfl, hn3, b3⟩; have O13 := hide (OwnsB.below O12.out b3); have O23 := hide (OwnsB.below O2.out b3); have B3 := hide (B2.out.trans (b3.mono B2.out.size)); have H4 := hide (HA4.out w3 B3.out); clear b3 H3 HA4 O12 O2)
  have k1 : (convert 22 9 (.slice (some ⟨g1, 0, none⟩) 6 c1)).run Tryd.prog w3 = .ok (.string ⟨#[1, 1, 0, 254, 255, 97]⟩) w3 := conv_own O13.out
  have k2 : (convert 22 9 (.slice (some ⟨g2, 0, none⟩) 3 c2)).run Tryd.prog w3 = .ok (.string ⟨#[75, 4, 0]⟩) w3 := conv_own O23.out
  have hn : (3 : Int) < (n3 : Int) := by omega
  clear O13 O23
  go_wp2_with (go_at_call 5; refine H4.out.mono ?_; rintro e w4 ⟨g4, c4, rfl, b4⟩; have B4 := hide (B3.out.trans (b4.mono B3.out.size)); clear b4 H4)
  go_ret
  exact ⟨rfl, B4.out⟩
end Go.Proofs.YtlakgbckopjelaaDoor

/- PROVED: where the listed variable reads as the program's text lays it, the order of lengths lies in its variable; the world that the program's own start leaves is such a world. How the laws' arguments are opened. -/
namespace Go.Proofs.YtlakgbckopjelaaDoor
set_option maxRecDepth 100000
open Go Go.RowKit
set_option linter.unusedVariables false

/-- The name of the listed variable, as the row has it. -/
def vnO : String := ((Rows.deflateShortRow.laid.map Prod.fst)[0]?).getD ""
theorem gO : Tryd.prog.globalNamed vnO = some 0 := by kernel_rfl
theorem tO : (Tryd.prog.globals[0]?).map (·.type) = some 114 := by kernel_rfl
theorem tabIs_of_vars {P : Program} {W : World} {name : String} {k : IntKind} {zs : List Int} {rest : List (String × DataW Unit)} {g : Nat} {t e : TypeId} {n : Nat} {ps : List MemPlace}
    (hg : P.globalNamed name = some g) (hty : (P.globals[g]?).map (·.type) = some t) (ht : P.underlying t = some (.array n e)) (he : P.underlying e = some (.int k)) (hce : P.cellsOf e = 1) (hct : P.cellsOf t = n)
    (h : DataW.LaidVars P W ((name, Lib.tabData k zs) :: rest) ps) : Lib.TabIs P W name k zs := by
  obtain ⟨g', t', cs, fuel, p, q, hg', ht', hvar, hd, _, _⟩ := h
  obtain rfl := Option.some.inj (hg.symm.trans hg')
  obtain rfl := Option.some.inj (hty.symm.trans ht')
  unfold Lib.TabIs
  rw [hvar, ← Lib.cells_of_tab ht he hce hct hd]
theorem laid_eq : ∃ r, Rows.deflateShortRow.laid = (vnO, Lib.tabData .i64 (iOrd.map Int.ofNat)) :: r := ⟨_, rfl⟩
theorem cells19 : Tryd.prog.cellsOf 114 = 19 := by kernel_rfl
theorem tab_of_laid {W : World} (h : laidMetH Tryd.prog Rows.deflateShortRow.laid W) : Tab W := by
  rw [MakeChecks.laidMetH_plain _ _ _ (by kernel_rfl)] at h
  obtain ⟨r, he⟩ := laid_eq
  rw [he] at h
  obtain ⟨ps, hl, _⟩ := h
  have hO := tabIs_of_vars gO tO Tryd.underlying114 Tryd.underlying3 Tryd.cells3 cells19 hl
  intro i hi
  have := hO.cell gO i (by rw [List.length_map]; exact hi)
  rw [this]
  congr 2
  have hi' : i < iOrd.length := hi
  simp [List.getD, hi']
theorem wit_met (os : Os) (args : Array Value) : laidMetH Tryd.prog Rows.deflateShortRow.laid ((World.laidAll Tryd.prog os Rows.deflateShortRow.laid).forCall (fun _ _ => 0) ⟨#[], args, []⟩).memory := by
  rw [MakeChecks.laidMetH_plain _ _ _ (by kernel_rfl)]
  exact laidMet_laidAll _ (by kernel_rfl) (by kernel_rfl)

section
open Go.ChangeShapes Go.WideShapes Go.ChangeAt
variable {H : Type} {enc : TypeId × Value → H} {W : World}
/-- Bytes that come in. -/
def BIn (W : World) (a : Option Addr) (len cap : Nat) (zs : List Int) : Prop := Text W.heap.size W a len zs ∧ len ≤ cap ∧ cap ≤ 9223372036854775807 ∧ (a = none → len = 0 ∧ cap = 0)
theorem trod_bytes {fuel : Nat} {cs : List Value} {x : DataW H × List MemPlace} (h : DataW.trod enc Tryd.prog W 0 (fun _ => true) true fuel 22 cs = some x) :
    ∃ a len cap zs, cs = [.slice a len cap] ∧ BIn W a len cap zs ∧ ((x.1 = .nil ∧ len = 0) ∨ ∃ els sp, x.1 = .slice els sp ∧ els.length = len) := by
  rcases open_ints Tryd.underlying22 Tryd.underlying5 Tryd.cells5 h with ⟨rfl, rfl⟩ | ⟨a, l, c, zs, rfl, _, hl, hm, hz, rfl, hcell, hwz⟩
  · exact ⟨none, 0, 0, [], rfl, ⟨⟨rfl, by intro i; simp, .inl rfl⟩, Nat.le_refl _, by omega, fun _ => ⟨rfl, rfl⟩⟩, .inl ⟨rfl, rfl⟩⟩
  · have hz' : zs.length = c := by simpa using hz
    refine ⟨some a, l, c, zs.take l, rfl, ⟨⟨by simp; omega, ?_, ?_⟩, hl, by unfold maxLen at hm; omega, fun e => by simp at e⟩, .inr ⟨_, _, rfl, by simp [lits]; omega⟩⟩
    · intro i
      by_cases hi : i < (zs.take l).length
      · have hm := List.getElem_mem hi
        have hw := bounds_u8 (hwz _ (List.mem_of_mem_take hm))
        simp only [List.getD, List.getElem?_eq_getElem hi, Option.getD_some]
        omega
      · simp [List.getD, List.getElem?_eq_none (show (zs.take l).length ≤ i by omega)]
    · by_cases h0 : l = 0
      · exact .inl h0
      · obtain ⟨b, off, spot⟩ := a
        have hc := hcell 0 (by omega)
        have hspot : spot = none := by simpa [Addr.add] using World.cell?_spot hc
        subst hspot
        refine .inr ⟨b, off, ?_, rfl, fun i hi => ?_⟩
        · have := lt_of_cell hc
          simpa [Addr.add] using this
        · have := hcell i (by omega)
          have e : ((⟨b, off, none⟩ : Addr).add i) = ⟨b, off + i, none⟩ := by unfold Addr.add; split <;> simp_all
          rw [e] at this
          rw [this]
          simp [List.getD, hi]
theorem open_bytes {ts : List TypeId} {ds : List (DataW H)} {j : Nat} {a : Option Addr} {len cap : Nat} {d : DataW H} {p : List MemPlace} (hsz : (DataW.weightsEach Tryd.prog ts ds).all (· ≤ reachBytes) = true) (ht : ts[j]? = some 22) (hd : ds[j]? = some d)
    (h : DataW.Trod enc Tryd.prog W 0 (fun _ => true) true 22 (.slice a len cap) d p) : ∃ zs, BIn W a len cap zs ∧ len ≤ 140737488351232 := by
  obtain ⟨fuel, hf⟩ := h
  obtain ⟨a', len', cap', zs, hcs, htx, hx⟩ := trod_bytes hf
  simp [Value.cells] at hcs
  obtain ⟨rfl, rfl, rfl⟩ := hcs
  refine ⟨zs, htx, ?_⟩
  rcases hx with ⟨_, h0⟩ | ⟨els, sp, hx, hl⟩
  · omega
  · simp only at hx
    subst hx
    have := sized_slice hsz ht hd Tryd.underlying22
    rw [Tryd.bytes5] at this
    simp only [reachBytes] at this
    omega
theorem bulk_one (d : DataW H) : 1 ≤ Rows.uptoBulk d := by
  cases d with
  | lit l => cases l <;> simp [Rows.uptoBulk]
  | nil => simp [Rows.uptoBulk]
  | ptr d => simp [Rows.uptoBulk]
  | slice elems spare => simp [Rows.uptoBulk]
  | agg parts => simp [Rows.uptoBulk]
  | iface t d => simp [Rows.uptoBulk]
  | map entries => simp [Rows.uptoBulk]
  | held h => simp [Rows.uptoBulk]
theorem bulk_len (l : List (DataW H)) : l.length ≤ Rows.uptoBulkAll l := by
  induction l with
  | nil => simp [Rows.uptoBulkAll]
  | cons x r ih => have := bulk_one x; simp only [Rows.uptoBulkAll, List.length_cons]; omega
theorem open_small {a : Option Addr} {len cap : Nat} {d : DataW H} {p : List MemPlace} (hk : Rows.uptoBulk d ≤ 1048576) (h : DataW.Trod enc Tryd.prog W 0 (fun _ => true) true 22 (.slice a len cap) d p) : ∃ zs, BIn W a len cap zs ∧ len ≤ 1048576 := by
  obtain ⟨fuel, hf⟩ := h
  obtain ⟨a', len', cap', zs, hcs, htx, hx⟩ := trod_bytes hf
  simp [Value.cells] at hcs
  obtain ⟨rfl, rfl, rfl⟩ := hcs
  refine ⟨zs, htx, ?_⟩
  rcases hx with ⟨_, h0⟩ | ⟨els, sp, hx, hl⟩
  · omega
  · simp only at hx
    subst hx
    have := bulk_len els
    simp only [Rows.uptoBulk] at hk
    omega
end
theorem text_up8 {B B' : Nat} {w : World} {a : Option Addr} {len : Nat} {zs : List Int} (h : Text B w a len zs) (hB : B ≤ B') : Text B' w a len zs := by
  obtain ⟨h1, h2, h3⟩ := h
  refine ⟨h1, h2, ?_⟩
  rcases h3 with h3 | ⟨b, off, hb, r⟩
  · exact .inl h3
  · exact .inr ⟨b, off, by omega, r⟩
theorem BIn.stay {W W' : World} {a : Option Addr} {len cap : Nat} {zs : List Int} (h : BIn W a len cap zs) (k : Below W.heap.size W W') : BIn W' a len cap zs :=
  ⟨text_up8 (h.1.kept (Kept.of_below k) (fun b hb e => by omega)) k.size, h.2⟩
theorem Tab.pos {w : World} (h : Tab w) : 0 < w.heap.size := lt_of_cell (h 0 (by decide))
theorem Tab.on {w w' : World} (h : Tab w) (k : Below w.heap.size w w') : Tab w' := h.below k h.pos
end Go.Proofs.YtlakgbckopjelaaDoor

/- The reference's Stored: contract. -/
namespace Go.Proofs.YtlakgbckopjelaaDoor
set_option maxRecDepth 100000
open Go Go.RowKit

theorem wpList_append_in {ops : Array Oper} {rest : List Oper} {o : Oper} {act : Act} {Q : Exit → Act → World → Prop} (w : World) (hgd : o.guard = none) (s x : Operand)
    (ho : o.op = .call { callee := .builtin .append, args := #[s, x], argTypes := #[22, 22] })
    (base : Nat) (v : Value) (X : List Int) (hs : act.eval s = v) (hown : OwnsB w base v X) (a : Option Addr) (len cap : Nat) (hx : act.eval x = .slice a len cap) (B : Nat) (Y XY : List Int) (hXY : X ++ Y = XY) (hb : Text B w a len Y)
    (hnone : a = none → len = 0 ∧ cap = 0) (hbound : X.length + len ≤ 140737488355328) (hbase : base ≤ w.heap.size)
    (h : ∀ a' c' w', OwnsB w' base (.slice a' XY.length c') XY → w.grownBy w' v.ownBlock → wpList Tryd.prog ops Q rest (act.put o.dst (.slice a' XY.length c')) w') : wpList Tryd.prog ops Q (o :: rest) act w := by
  obtain ⟨i5, hi5, hz5, hs5, hb5⟩ := info_parts Tryd.info5
  have hl := hb.1
  have fin : ∀ v' w', OwnsB w' base v' (X ++ Y) → w.grownBy w' v.ownBlock → wpList Tryd.prog ops Q rest (act.put o.dst v') w' := fun v' w' h1 h2 => by
    obtain ⟨a', c', rfl⟩ := own_form h1
    subst hXY
    exact h a' c' w' h1 h2
  cases a with
  | none =>
    obtain ⟨rfl, rfl⟩ := hnone rfl
    have hY := List.eq_nil_of_length_eq_zero hl
    subst hY
    refine wpList_append_own_none hgd s x 22 ho base 5 i5 1 Tryd.underlying22 hi5 v X.length (X.map (Value.int .u8)) hs hown hx ?_
    exact fin v w (by simpa using hown) ⟨rfl, rfl, rfl, Nat.le_refl _, fun _ _ _ => rfl⟩
  | some ad =>
    refine wpList_append_own w hgd s x 22 ho base 5 i5 (.int .u8 0) 1 1 Tryd.underlying22 hi5 hz5 hs5 hb5 rfl (by decide) v X.length (X.map (Value.int .u8)) hs hown ad len cap (Y.map (Value.int .u8)) hx (by simp; exact hl) hb.src (bytes_one Y) (by unfold maxLen; omega) (by omega) hbase ?_
    intro v' w' h1 h2 _
    refine fin v' w' ?_ h2
    unfold OwnsB
    rw [List.length_append, hl, List.map_append]
    exact h1
theorem OwnsB.nil8 (w : World) (base : Nat) : OwnsB w base (.slice none 0 0) [] := World.ownsRow_nil _ _ _ _
theorem gro {w wx wy : World} {v : Value} {D : List Int} (h : OwnsB wx w.heap.size v D) (hb : Below w.heap.size w wx) (hg : wx.grownBy wy v.ownBlock) : Below w.heap.size w wy :=
  hb.trans ((Kept.of_grown hg).below hb.size (fun i hi e => by have := (ownsRow_lt h e.symm).1; omega))
theorem hd_big : iHead 0 65535 = [0, 255, 255, 0, 0] := by decide
theorem alloc_own {w wx : World} {v : Value} {D : List Int} {o : Obj} (h : OwnsB wx w.heap.size v D) : OwnsB (wx.alloc o) w.heap.size v D := World.ownsRow.alloc h _
set_option maxHeartbeats 4000000 in
theorem qstored_c (w : World) (a : Option Addr) (cap : Nat) (zs : List Int) (ht : Text w.heap.size w a zs.length zs) (hnil : a = none → zs.length = 0 ∧ cap = 0) (hcap : zs.length ≤ cap) (hl : zs.length ≤ 1000000) :
    Calls Tryd.prog 6 #[.slice a zs.length cap] w fun e w' => ∃ a' c', e = .returned (.slice a' (stB zs).length c') ∧ OwnsB w' w.heap.size (.slice a' (stB zs).length c') (stB zs) ∧ Below w.heap.size w w' := by
  have hsl := stB_len _ zs rfl
  have HT := hide ht
  have HNIL := hide hnil
  obtain ⟨ST, hST⟩ : ∃ ST, stB zs = ST := ⟨_, rfl⟩
  have HS0 : Hid ([] ++ stB (zs.drop 0) = ST) := hide (by rw [← hST]; simp)
  rw [hST] at hsl ⊢
  clear ht hnil hST
  go_enter Tryd.func6, Tryd.ntmps6
  go_upto_region 2 with fail
  go_loopg [0, 3] zs.length (fun gk v0 v3 wx => ∃ (k : Nat) (a' : Option Addr) (c' : Nat) (Z : List Int) (a3 : Option Addr) (c3 : Nat), k + gk = zs.length ∧ gk ≤ c' ∧ v0 = .slice a' gk c' ∧ (a' = none → gk = 0 ∧ c' = 0) ∧ (gk = 0 ∨ ∃ b off, a = some ⟨b, off, none⟩ ∧ a' = some ⟨b, off + k, none⟩) ∧ v3 = .slice a3 Z.length c3 ∧ Hid (Z ++ stB (zs.drop k) = ST) ∧ Hid (OwnsB wx w.heap.size (.slice a3 Z.length c3) Z ∧ Below w.heap.size w wx))
  case atStart =>
    refine ⟨0, a, cap, [], none, 0, by omega, hcap, rfl, HNIL.out, ?_, rfl, HS0, OwnsB.nil8 _ _, Below.refl _ _⟩
    rcases HT.out.2.2 with h | ⟨b, off, _, e, _⟩
    · exact .inl h
    · exact .inr ⟨b, off, e, e⟩
  case round =>
    obtain ⟨k, a', c', Z, a3, c3, hkg, hgc, rfl, hn', ha', rfl, HZ, HO⟩ := hrel
    clear HS0
    have hZl : Z.length ≤ 3000000 := by have := congrArg List.length HZ.out; rw [List.length_append] at this; omega
    have hbl := HO.out.2
    have hbs := hbl.size
    have hTr : ∀ wy, Below w.heap.size w wy → Text w.heap.size wy a zs.length zs := fun wy hy => HT.out.kept (Kept.of_below hy) (fun b hb e => by omega)
    have hdl : (zs.drop k).length = gk := by rw [List.length_drop]; omega
    by_cases hbig : 65535 < gk
    · obtain ⟨b, off, rfl, rfl⟩ := ha'.resolve_left (by omega)
      have HTP : Hid (∀ wy, Below w.heap.size w wy → Text w.heap.size wy (some ⟨b, off + k, none⟩) 65535 ((zs.drop k).take 65535)) := fun wy hy => (hTr wy hy).part (n := 65535) k (by omega)
      have hZ := HZ.out
      rw [stB_big (by omega), List.drop_drop, hd_big] at hZ
      have HZ2 : Hid (Z ++ [0, 255, 255, 0, 0] ++ (zs.drop k).take 65535 ++ stB (zs.drop (k + 65535)) = ST) := hide (by rw [← hZ]; simp only [List.append_assoc])
      have HLT : Hid (Text (wr.alloc (.cells #[.int .u8 0, .int .u8 255, .int .u8 255, .int .u8 0, .int .u8 0] 5)).heap.size (wr.alloc (.cells #[.int .u8 0, .int .u8 255, .int .u8 255, .int .u8 0, .int .u8 0] 5)) (some ⟨wr.heap.size, 0, none⟩) 5 [0, 255, 255, 0, 0]) := text_lit (L := [0, 255, 255, 0, 0]) (heap_new wr _) rfl (by decide)
      have HBA : Hid (Below w.heap.size w (wr.alloc (.cells #[.int .u8 0, .int .u8 255, .int .u8 255, .int .u8 0, .int .u8 0] 5))) := hbl.alloc hbl.size _
      have HOA : Hid (OwnsB (wr.alloc (.cells #[.int .u8 0, .int .u8 255, .int .u8 255, .int .u8 0, .int .u8 0] 5)) w.heap.size (.slice a3 Z.length c3) Z) := alloc_own HO.out.1
      obtain ⟨Y, hY⟩ : ∃ Y, (zs.drop k).take 65535 = Y := ⟨_, rfl⟩
      obtain ⟨Z5, hZ5⟩ : ∃ Z5, Z ++ [0, 255, 255, 0, 0] = Z5 := ⟨_, rfl⟩
      obtain ⟨Z6, hZ6⟩ : ∃ Z6, Z5 ++ Y = Z6 := ⟨_, rfl⟩
      have hl5 : Z5.length ≤ 3000005 := by rw [← hZ5]; simp; omega
      rw [hY] at HTP
      rw [hZ5, hY, hZ6] at HZ2
      have HE5 := hide hZ5
      have HE6 := hide hZ6
      have hgt : (65535 : Int) < (gk : Int) := by omega
      have hc1 : (65535 : Int) ≤ (c' : Int) := by omega
      have hcn : ¬ (c' : Int) = 65535 := by omega
      have hcn2 : ¬ c' = 65535 := by omega
      have hc2 : 65535 ≤ c' := by omega
      have hc3 : 65535 ≤ gk := by omega
      clear hZ hbl hTr hdl HZ hn' ha' hbig HO hY hZ5 hZ6
      go_wp2_with (first
        | (at_builtin; refine wpList_append_in _ rfl (.tmp 8) (.tmp 9) rfl w.heap.size _ Z (by rfl) HOA.out _ 5 5 (by rfl) _ [0, 255, 255, 0, 0] Z5 HE5.out HLT.out (fun e => by cases e) (by omega) HBA.out.size ?_; intro a5 c5 w5 o5 g5; have O5 := hide o5; have B5 := hide (gro HOA.out HBA.out g5); clear o5 g5 HOA HBA HLT)
        | (at_builtin; refine wpList_append_in _ rfl (.tmp 11) (.tmp 13) rfl w.heap.size _ Z5 (by rfl) O5.out _ 65535 c' (by rfl) _ Y Z6 HE6.out (HTP.out _ B5.out) (fun e => by cases e) (by omega) B5.out.size ?_; intro a6 c6 w6 o6 g6; have O6 := hide (show OwnsB w6 w.heap.size (.slice a6 Z6.length c6) Z6 ∧ Below w.heap.size w w6 from ⟨o6, gro O5.out B5.out g6⟩); clear o6 g6 O5 B5))
      go_roundg (gk - 65535)
      case measure => omega
      case rel => exact ⟨k + 65535, some ⟨b, off + k + 65535, none⟩, c' - 65535, Z6, a6, c6, by omega, by omega, rfl, (fun e => by cases e), .inr ⟨b, off, rfl, by rw [Nat.add_assoc]⟩, rfl, HZ2, O6⟩
    · have hTP : Text w.heap.size wr a' gk (zs.drop k) ∧ ∀ wy, Below w.heap.size w wy → Text w.heap.size wy a' gk (zs.drop k) := by
        have key : ∀ wy, Below w.heap.size w wy → Text w.heap.size wy a' gk (zs.drop k) := fun wy hy => by
          rcases ha' with h0 | ⟨b, off, e1, e2⟩
          · subst h0
            refine ⟨hdl, fun i => ?_, .inl rfl⟩
            have := List.eq_nil_of_length_eq_zero hdl
            rw [this]; simp
          · subst e1 e2
            have := (hTr wy hy).part (n := gk) k (by omega)
            rwa [List.take_of_length_le (by omega)] at this
        exact ⟨key wr hbl, key⟩
      have HTP := hide hTP.2
      have hZ := HZ.out
      rw [stB_small (by omega), hdl] at hZ
      obtain ⟨y1, hy1⟩ : ∃ y1, gk % 256 = y1 := ⟨_, rfl⟩
      obtain ⟨y2, hy2⟩ : ∃ y2, gk / 256 = y2 := ⟨_, rfl⟩
      have hyb : y1 ≤ 255 ∧ y2 ≤ 255 := by omega
      have hh : iHead 1 gk = [1, (y1 : Int), (y2 : Int), 255 - (y1 : Int), 255 - (y2 : Int)] := by
        unfold iHead
        rw [hy1, hy2]
        simp only [List.cons.injEq, and_true]
        refine ⟨rfl, trivial, trivial, by omega, by omega⟩
      rw [hh] at hZ
      have e1 : (gk : Int) % 256 = (y1 : Int) := by omega
      have e2 : (gk : Int) / 256 = (y2 : Int) := by omega
      have HLT : Hid (Text (wr.alloc (.cells #[.int .u8 1, .int .u8 (y1 : Int), .int .u8 (y2 : Int), .int .u8 (255 - (y1 : Int)), .int .u8 (255 - (y2 : Int))] 5)).heap.size (wr.alloc (.cells #[.int .u8 1, .int .u8 (y1 : Int), .int .u8 (y2 : Int), .int .u8 (255 - (y1 : Int)), .int .u8 (255 - (y2 : Int))] 5)) (some ⟨wr.heap.size, 0, none⟩) 5 [1, (y1 : Int), (y2 : Int), 255 - (y1 : Int), 255 - (y2 : Int)]) := text_lit (L := [1, (y1 : Int), (y2 : Int), 255 - (y1 : Int), 255 - (y2 : Int)]) (heap_new wr _) rfl (by intro x hx; simp at hx; rcases hx with rfl | rfl | rfl | rfl | rfl <;> omega)
      have HBA : Hid (Below w.heap.size w (wr.alloc (.cells #[.int .u8 1, .int .u8 (y1 : Int), .int .u8 (y2 : Int), .int .u8 (255 - (y1 : Int)), .int .u8 (255 - (y2 : Int))] 5))) := hbl.alloc hbl.size _
      have HOA : Hid (OwnsB (wr.alloc (.cells #[.int .u8 1, .int .u8 (y1 : Int), .int .u8 (y2 : Int), .int .u8 (255 - (y1 : Int)), .int .u8 (255 - (y2 : Int))] 5)) w.heap.size (.slice a3 Z.length c3) Z) := alloc_own HO.out.1
      have hng : ¬ (65535 : Int) < (gk : Int) := by omega
      have HZ2 : Hid (Z ++ [1, (y1 : Int), (y2 : Int), 255 - (y1 : Int), 255 - (y2 : Int)] ++ zs.drop k = ST) := hide (by rw [← hZ]; simp only [List.append_assoc])
      have HNN := hide hn'
      obtain ⟨Y, hY⟩ : ∃ Y, zs.drop k = Y := ⟨_, rfl⟩
      obtain ⟨Z5, hZ5⟩ : ∃ Z5, Z ++ [1, (y1 : Int), (y2 : Int), 255 - (y1 : Int), 255 - (y2 : Int)] = Z5 := ⟨_, rfl⟩
      have hl5 : Z5.length ≤ 3000005 := by rw [← hZ5]; simp; omega
      rw [hY] at HTP
      rw [hZ5, hY] at HZ2
      have HE5 := hide hZ5
      clear hZ hbl hTr hdl HZ hn' ha' hbig HO hTP hy1 hy2 hh hY hZ5
      obtain ⟨hyb1, hyb2⟩ := hyb
      go_wp2_with (first
        | (at_builtin; refine wpList_append_in _ rfl (.tmp 19) (.tmp 34) rfl w.heap.size _ Z (by rfl) HOA.out _ 5 5 (by rfl) _ _ Z5 HE5.out HLT.out (fun e => by cases e) (by omega) HBA.out.size ?_; intro a5 c5 w5 o5 g5; have O5 := hide o5; have B5 := hide (gro HOA.out HBA.out g5); clear o5 g5 HOA HBA HLT)
        | (at_builtin; refine wpList_append_in _ rfl (.tmp 36) (.tmp 37) rfl w.heap.size _ Z5 (by rfl) O5.out _ gk c' (by rfl) _ Y ST HZ2.out (HTP.out _ B5.out) HNN.out (by omega) B5.out.size ?_; intro a6 c6 w6 o6 g6; have O6 := hide (show OwnsB w6 w.heap.size (.slice a6 ST.length c6) ST ∧ Below w.heap.size w w6 from ⟨o6, gro O5.out B5.out g6⟩); clear o6 g6 O5 B5))
      go_ret
      exact ⟨a6, c6, rfl, O6.out.1, O6.out.2⟩
end Go.Proofs.YtlakgbckopjelaaDoor

/- cut of tokens that make several rows, size of several blocks: contracts. -/
namespace Go.Proofs.YtlakgbckopjelaaDoor
set_option maxRecDepth 100000
open Go Go.RowKit

/-- How many rows; how many tokens the j-th has; which ones. -/
def nR (n : Nat) : Nat := (n - 1) / 16384 + 1
def rL (n j : Nat) : Nat := min 16384 (n - j * 16384)
def tsJ (ts : List M.Tk) (j : Nat) : List M.Tk := (ts.drop (j * 16384)).take 16384
theorem tsJ_length (ts : List M.Tk) (j : Nat) : (tsJ ts j).length = rL ts.length j := by simp [tsJ, rL]
theorem tsJ_tk (ts : List M.Tk) (j : Nat) {i : Nat} (h : i < (tsJ ts j).length) : M.tk (tsJ ts j) i = M.tk ts (j * 16384 + i) := by
  rw [tsJ_length] at h
  unfold rL at h
  unfold M.tk tsJ
  simp only [List.getD]
  rw [List.getElem?_take_of_lt (by omega), List.getElem?_drop]
theorem tsJ_sub {ts : List M.Tk} {j : Nat} {t : M.Tk} (h : t ∈ tsJ ts j) : t ∈ ts := List.mem_of_mem_drop (List.mem_of_mem_take h)
theorem TkIn.row {w : World} {b off : Nat} {ts : List M.Tk} (h : TkIn w (some ⟨b, off, none⟩) ts) (j : Nat) : TkIn w (some ⟨b, off + j * 49152, none⟩) (tsJ ts j) := by
  have hb := h.b b off rfl
  refine ⟨?_, fun b' off' e => ?_, fun t ht => h.ok t (tsJ_sub ht), ?_⟩
  · by_cases h0 : (tsJ ts j).length = 0
    · exact .inl h0
    · rcases h.t with h1 | ⟨b', off', _, e, hc⟩
      · exfalso
        rw [tsJ_length] at h0
        unfold rL at h0
        omega
      · simp only [Option.some.injEq, Addr.mk.injEq, and_true] at e
        obtain ⟨rfl, rfl⟩ := e
        refine .inr ⟨b, off + j * 49152, hb, rfl, fun i hi => ?_⟩
        have hl := hi
        rw [tsJ_length] at hl
        unfold rL at hl
        rw [tsJ_tk ts j hi]
        have := hc (j * 16384 + i) (by omega)
        rw [show off + (j * 16384 + i) * 3 = off + j * 49152 + i * 3 by omega] at this
        exact this
  · simp only [Option.some.injEq, Addr.mk.injEq, and_true] at e
    omega
  · have := h.len
    rw [tsJ_length]
    unfold rL
    omega
theorem tsJ_all (ts : List M.Tk) : ∀ n, ts.length ≤ n * 16384 → (List.range n).flatMap (tsJ ts) = ts := by
  have key : ∀ n, (List.range n).flatMap (tsJ ts) = ts.take (n * 16384) := by
    intro n
    induction n with
    | zero => simp
    | succ n ih =>
      rw [List.range_succ, List.flatMap_append, ih]
      simp only [List.flatMap_cons, List.flatMap_nil, List.append_nil]
      unfold tsJ
      rw [show (n + 1) * 16384 = n * 16384 + 16384 by omega, List.take_add]
  intro n h
  rw [key, List.take_of_length_le h]
/-- Rows as they are told. -/
def rV (b off n j : Nat) : Value := .slice (some ⟨b, off + j * 49152, none⟩) (rL n j) (rL n j)
def rVs (b off n i : Nat) : List Value := (List.range i).map (rV b off n)
theorem rVs_succ (b off n i : Nat) : rVs b off n (i + 1) = rVs b off n i ++ [rV b off n i] := by simp [rVs, List.range_succ]
theorem rVs_length (b off n i : Nat) : (rVs b off n i).length = i := by simp [rVs]
def CutN (w : World) (b off n : Nat) (e : Ending) (w' : World) : Prop := ∃ g cap, e = .returned (.slice (some ⟨g, 0, none⟩) (nR n) cap) ∧ w.heap.size ≤ g ∧ (∀ j, j < nR n → w'.cell? ⟨g, j, none⟩ = some (rV b off n j)) ∧ Below w.heap.size w w'
theorem cutN_of {w w' : World} {b off n : Nat} {v : Value} (ho : w'.ownsRow w.heap.size 28 1 v (nR n) (rVs b off n (nR n))) (hb : Below w.heap.size w w') : ∃ a cap, v = .slice a (nR n) cap ∧ CutN w b off n (.returned (.slice a (nR n) cap)) w' := by
  rcases ho.2 with ⟨_, h2⟩ | ⟨g, cap, cur, rfl, hg1, hh, _, _, _, h4⟩
  · unfold nR at h2; omega
  · refine ⟨_, cap, rfl, g, cap, rfl, hg1, fun j hj => ?_, hb⟩
    rw [cells_of hh]
    have e : (cur.toList.take (nR n * 1))[j]? = (rVs b off n (nR n))[j]? := by rw [h4]
    rw [List.getElem?_take_of_lt (by omega), Array.getElem?_toList] at e
    rw [e]
    simp [rVs, hj]
theorem rV_one (b off n j : Nat) : ∀ u ∈ [rV b off n j], u.oneCell' = true := by intro u hu; simp at hu; subst hu; rfl
set_option maxHeartbeats 2000000 in
theorem cut_many (w : World) (b off ct n : Nat) (h : 16384 < n) (hn : n ≤ 1000000) (hc : n ≤ ct) :
    Calls Tryd.prog 26 #[.slice (some ⟨b, off, none⟩) n ct, .int .i64 16384] w (CutN w b off n) := by
  obtain ⟨i0, hi, hz0, hz1, hz2⟩ := info_parts Tryd.infoToks
  have hnR : nR n ≤ 62 := by unfold nR; omega
  go_enter Tryd.func26, Tryd.ntmps26
  go_wp2_with fail
  go_loopg [0, 5] (nR n - 1) (fun gk v0 v5 wx => ∃ (i m cc o : Nat) (V5 : Value), i + gk + 1 = nR n ∧ m + i * 16384 = n ∧ cc + i * 16384 = ct ∧ o = off + i * 49152 ∧ v0 = .slice (some ⟨b, o, none⟩) m cc ∧ V5 = v5 ∧ Hid (wx.ownsRow w.heap.size 28 1 V5 i (rVs b off n i) ∧ Below w.heap.size w wx))
  case atStart => exact ⟨0, n, ct, off, .slice none 0 0, by unfold nR; omega, by omega, by omega, by omega, rfl, rfl, World.ownsRow_nil _ _ _ _, Below.refl _ _⟩
  case round =>
    obtain ⟨i, m, cc, o, V5, hig, hm, hcc, ho, rfl, rfl, HO⟩ := hrel
    have hmc : m ≤ cc := by omega
    have hFW : Hid (∀ (x : Value) (v9 : Value) (w9 : World), (wr.alloc (.cells #[x] 28)).grownBy w9 V5.ownBlock → Below w.heap.size w w9) := fun x v9 w9 hg => by
      have hk := Kept.of_grown hg
      have hW : Below w.heap.size w (wr.alloc (.cells #[x] 28)) := HO.out.2.alloc HO.out.2.size _
      exact hW.trans (hk.below hW.size (fun y hy e => by have := (ownsRow_lt HO.out.1 e.symm).1; omega))
    have hoz := HO.out.2.size
    cases gk with
    | zero =>
      have hR : nR n = i + 1 := by omega
      have hml : m ≤ 16384 := by unfold nR at hR; omega
      have hge : ¬ (16384 : Int) < (m : Int) := by omega
      have hv : rV b off n i = .slice (some ⟨b, o, none⟩) m m := by
        have e : rL n i = m := by unfold rL; omega
        unfold rV; rw [e, ho]
      have HV := hide hv
      have hown : Hid (∀ x, (wr.alloc (.cells #[x] 28)).ownsRow w.heap.size 28 1 V5 i (rVs b off n i)) := fun x => World.ownsRow.alloc HO.out.1 _
      have hone := rV_one b off n i
      rw [hv] at hone
      have HF : Hid (∀ (v9 : Value) (w9 : World), (wr.alloc (.cells #[.slice (some ⟨b, o, none⟩) m m] 28)).grownBy w9 V5.ownBlock → w9.ownsRow w.heap.size 28 1 v9 (i + 1) (rVs b off n i ++ [.slice (some ⟨b, o, none⟩) m m]) → ∃ a cap, v9 = .slice a (nR n) cap ∧ CutN w b off n (.returned (.slice a (nR n) cap)) w9) := fun v9 w9 hg hw => by
        rw [← HV.out, ← rVs_succ, ← hR] at hw
        exact cutN_of hw (hFW.out _ v9 w9 hg)
      have hib : i ≤ 62 := by omega
      obtain ⟨R, hRR⟩ : ∃ R, nR n = R := ⟨_, rfl⟩
      rw [hRR] at HF
      clear HO hm ho hv hR hig hnR hRR hcc
      go_wp2_with (at_builtin; refine wpList_append_own _ rfl (.tmp 20) (.tmp 27) 54 rfl w.heap.size 28 i0 (.slice none 0 0) 1 24 Tryd.underlying54 hi hz0 hz1 hz2 rfl (by decide) V5 i (rVs b off n i) (by rfl) (hown.out _) ⟨wr.heap.size, 0, none⟩ 1 1 [.slice (some ⟨b, o, none⟩) m m] (by rfl) (by rfl) (World.news_of_block (heap_new wr _)) hone (by unfold maxLen; omega) (by omega) (by simp; omega) ?_; intro v9 w9 ow9 gr9 nl9; obtain ⟨a9, c9, rfl, hq⟩ := HF.out v9 w9 gr9 ow9; have HQ := hide hq; clear ow9 gr9 nl9 hq)
      go_ret
      exact HQ.out
    | succ g1 =>
      have hml : 16384 < m := by have : nR n = i + g1 + 2 := by omega
                                 unfold nR at this; omega
      have hgt : (16384 : Int) < (m : Int) := by omega
      have hcg : (16384 : Int) ≤ (cc : Int) := by omega
      have hv : rV b off n i = .slice (some ⟨b, o, none⟩) 16384 16384 := by
        have e : rL n i = 16384 := by unfold rL; omega
        unfold rV; rw [e, ho]
      have HV := hide hv
      have hown : Hid (∀ x, (wr.alloc (.cells #[x] 28)).ownsRow w.heap.size 28 1 V5 i (rVs b off n i)) := fun x => World.ownsRow.alloc HO.out.1 _
      have hone := rV_one b off n i
      rw [hv] at hone
      have HF : Hid (∀ (v9 : Value) (w9 : World), (wr.alloc (.cells #[.slice (some ⟨b, o, none⟩) 16384 16384] 28)).grownBy w9 V5.ownBlock → w9.ownsRow w.heap.size 28 1 v9 (i + 1) (rVs b off n i ++ [.slice (some ⟨b, o, none⟩) 16384 16384]) → w9.ownsRow w.heap.size 28 1 v9 (i + 1) (rVs b off n (i + 1)) ∧ Below w.heap.size w w9) := fun v9 w9 hg hw => by
        rw [← HV.out, ← rVs_succ] at hw
        exact ⟨hw, hFW.out _ v9 w9 hg⟩
      have HM := hide hm
      have HCC := hide hcc
      have HOO := hide ho
      clear HO hm ho hv hcc
      go_wp2_with (at_builtin; refine wpList_append_own _ rfl (.tmp 10) (.tmp 15) 54 rfl w.heap.size 28 i0 (.slice none 0 0) 1 24 Tryd.underlying54 hi hz0 hz1 hz2 rfl (by decide) V5 i (rVs b off n i) (by rfl) (hown.out _) ⟨wr.heap.size, 0, none⟩ 1 1 [.slice (some ⟨b, o, none⟩) 16384 16384] (by rfl) (by rfl) (World.news_of_block (heap_new wr _)) hone (by unfold maxLen; omega) (by omega) (by simp; omega) ?_; intro v9 w9 ow9 gr9 nl9; have HQ := hide (HF.out v9 w9 gr9 ow9); clear ow9 gr9 nl9)
      go_roundg g1
      case measure => omega
      case rel =>
        have e1 := HM.out
        have e2 := HCC.out
        have e3 := HOO.out
        exact ⟨i + 1, m - 16384, cc - 16384, o + 49152, v9, by omega, by omega, by omega, by omega, rfl, rfl, HQ.out.1, HQ.out.2⟩
end Go.Proofs.YtlakgbckopjelaaDoor
