/- Several texts, laid together: DAlive, DLaid, DBack, DQSto. -/
import Derived.Test.YtlakgbckopjelaaGreatDoorK34DAns
import Derived.Test.YtlakgbckopjelaaGreatDoorKRInf
import Derived.Test.YtlakgbckopjelaaGreatDoorG16ReadMore
import Derived.Lib.SlBytesConst
import Derived.Test.YtlakgbckopjelaaGreatDoorG01Open
import Derived.Test.YtlakgbckopjelaaGreatDoorCards
import Derived.Test.YtlakgbckopjelaaGreatDoorTie
import Derived.LaidMore
import Derived.Lib.LaidTab
import Derived.Stop.Joined
import Derived.Lay
import Derived.ChangeMaps5
import Derived.SevenTiedAt
import Derived.JoinedCond
import Derived.Laws.AppendOwnNone
/- alive, tells: contracts. -/
namespace Go.Proofs.YtlakgbckopjelaaGreatDoor
set_option maxRecDepth 100000
open Go Go.RowKit
set_option linter.unusedVariables false

theorem text_lit {w : World} {g : Nat} {L : List Int} {cs : Array Value} {t : TypeId} {fr : Nat × Nat} (h : w.heap[g]? = some (.cells cs t fr)) (hc : cs = (L.map (Value.int .u8)).toArray) (hb : ∀ x ∈ L, 0 ≤ x ∧ x ≤ 255) : Text w.heap.size w (some ⟨g, 0, none⟩) L.length L := by
  refine ⟨rfl, fun i => ?_, .inr ⟨g, 0, lt_of_block h, rfl, fun i hi => ?_⟩⟩
  · by_cases hi : i < L.length
    · simp only [List.getD, List.getElem?_eq_getElem hi, Option.getD_some]
      exact hb _ (List.getElem_mem hi)
    · simp [List.getD, List.getElem?_eq_none (show L.length ≤ i by omega)]
  · subst hc
    simp [World.cell?, h, List.getD, hi]
abbrev tkA : List M.Tk := [(97, 0, 0)]
theorem fix_a : dataL (blB 1 true [] iFix iFive tkA) = [75, 4, 0] := by decide +kernel
theorem fix_none : (dataL (blB 1 true [] iFix iFive [])).length = 2 := by decide +kernel
theorem sz_none : szB 1 [] iFix iFive [] = 10 := by decide +kernel
theorem sto_a : stB [97] = [1, 1, 0, 254, 255, 97] := by rw [stB_small (by decide)]; rfl
theorem sto_none : (stB []).length = 5 := by rw [stB_small (by decide)]; rfl
theorem tk_in {w : World} {v : Array Value} (hv : v = #[.int .u8 97, .int .i64 0, .int .i64 0]) : TkIn (w.alloc (.cells v 38)) (some ⟨w.heap.size, 0, none⟩) tkA := by
  have hb : (w.alloc (.cells v 38)).heap[w.heap.size]? = some (.cells v 38 (0, 0)) := heap_new w _
  refine ⟨.inr ⟨w.heap.size, 0, lt_of_block hb, rfl, fun i hi => ?_⟩, fun b off e => ?_, fun t ht => ?_, by decide⟩
  · obtain rfl : i = 0 := by simpa using hi
    subst hv
    refine ⟨?_, ?_, ?_⟩ <;> rw [cells_of hb] <;> rfl
  · simp only [Option.some.injEq, Addr.mk.injEq, and_true] at e
    obtain ⟨rfl, _⟩ := e
    exact lt_of_block hb
  · simp at ht
    subst ht
    exact .inl ⟨rfl, by decide, by decide⟩
theorem rt_a : M.Rt tkA := fun j hj => by
  obtain rfl : j = 0 := by simpa using hj
  exact .inl ⟨rfl, rfl⟩
theorem dyn_len {S D H : List Int} {ts : List M.Tk} (hb : BkOk 2 ts S D) (hH : HdIs 2 S D H) : 29 ≤ 3 + H.length := by
  rcases hH with ⟨h, _⟩ | ⟨_, _, F, many, hll, rfl⟩
  · omega
  · have := hll.m0
    unfold hdB
    simp only [List.length_append, bitsN_length, innB_length]
    omega
theorem def_none {X : List Int} (h : DefIs [] 1 X) : X.length = 2 := by
  obtain ⟨ts, k, S, D, H0, H, hr, h8, htel, hle, _, hb, hH0, hH, hsz, hX⟩ := h.2 (by decide)
  have hts : ts = [] := List.eq_nil_of_length_eq_zero (by simpa using hle)
  subst hts
  rw [sz_none] at hsz
  have hn1 := mco_nonneg false (check_ok hb.cs).2.1 (emk [])
  have hn2 := mco_nonneg true (check_ok hb.cd).2.1 (emk [])
  rcases hb.kind with ⟨rfl, rfl, rfl⟩ | ⟨rfl, _⟩
  · obtain ⟨_, _, rfl⟩ := kind_one hb hH
    rcases hX with ⟨rfl, _⟩ | ⟨rfl, hlt⟩
    · exact fix_none
    · rw [fix_none, sto_none] at hlt; omega
  · have := dyn_len hb hH0
    unfold szB at hsz
    omega
set_option maxHeartbeats 4000000 in
theorem alive_c (w : World) (hT : Tab w) : Calls Tryz.prog 8 #[] w fun e w' => e = .returned (.bool true) ∧ Below w.heap.size w w' := by
  have h0 : 0 < w.heap.size := lt_of_cell (hT 0 (by decide))
  have HT := hide hT
  have HA1 : Hid (Calls Tryz.prog 9 #[.slice (some ⟨w.heap.size, 0, none⟩) 1 1] (w.alloc (.cells #[.int .u8 97] 5 (1, 2))) fun e w' => ∃ g c, e = .returned (.slice (some ⟨g, 0, none⟩) 6 c) ∧ OwnsB w' 0 (.slice (some ⟨g, 0, none⟩) 6 c) [1, 1, 0, 254, 255, 97] ∧ Below w.heap.size w w') := by
    have hb : Below w.heap.size w (w.alloc (.cells #[.int .u8 97] 5 (1, 2))) := (Below.refl _ w).alloc (Nat.le_refl _) _
    refine (stored_c _ (some ⟨w.heap.size, 0, none⟩) 1 [97] (text_lit (heap_new w _) rfl (by decide)) (fun e => by cases e) (by decide) (by decide)).mono ?_
    rintro e w' ⟨g, c, rfl, o, b⟩
    rw [sto_a] at o ⊢
    exact ⟨g, c, rfl, OwnsB.low o (Nat.zero_le _), hb.trans (b.mono hb.size)⟩
  have HA2 : Hid (∀ w1, Below w.heap.size w w1 → Calls Tryz.prog 13 #[.slice (some ⟨w1.heap.size, 0, none⟩) 1 1] (w1.alloc (.cells #[.int .u8 97, .int .i64 0, .int .i64 0] 38)) fun e w' => ∃ g c, e = .returned (.tuple #[.slice (some ⟨g, 0, none⟩) 3 c, .bool true]) ∧ OwnsB w' 0 (.slice (some ⟨g, 0, none⟩) 3 c) [75, 4, 0] ∧ Below w1.heap.size w1 w') := fun w1 hb1 => by
    have hb : Below w1.heap.size w1 (w1.alloc (.cells #[.int .u8 97, .int .i64 0, .int .i64 0] 38)) := (Below.refl _ w1).alloc (Nat.le_refl _) _
    have hb2 : Below w.heap.size w (w1.alloc (.cells #[.int .u8 97, .int .i64 0, .int .i64 0] 38)) := hb1.trans (hb.mono hb1.size)
    refine (fixed_yes _ (HT.out.below hb2 h0) (Nat.lt_of_lt_of_le h0 hb2.size) (some ⟨w1.heap.size, 0, none⟩) 1 tkA (tk_in rfl) rt_a).mono ?_
    rintro e w' ⟨S, D, H, g, c, hbk, _, hH, rfl, o, b⟩
    obtain ⟨rfl, rfl, rfl⟩ := kind_one hbk hH
    rw [fix_a] at o ⊢
    exact ⟨g, c, rfl, OwnsB.low o (Nat.zero_le _), hb.trans (b.mono hb.size)⟩
  have HA3 : Hid (∀ w1, Below w.heap.size w w1 → Calls Tryz.prog 17 #[.slice (some ⟨w1.heap.size, 0, none⟩) 1 1] (w1.alloc (.cells #[.int .u8 97, .int .i64 0, .int .i64 0] 38)) fun e w' => ∃ g c n, e = .returned (.tuple #[.slice (some ⟨g, 0, none⟩) n c, .bool true]) ∧ 3 < n ∧ Below w1.heap.size w1 w') := fun w1 hb1 => by
    have hb : Below w1.heap.size w1 (w1.alloc (.cells #[.int .u8 97, .int .i64 0, .int .i64 0] 38)) := (Below.refl _ w1).alloc (Nat.le_refl _) _
    have hb2 : Below w.heap.size w (w1.alloc (.cells #[.int .u8 97, .int .i64 0, .int .i64 0] 38)) := hb1.trans (hb.mono hb1.size)
    refine (dynamic_yes _ (HT.out.below hb2 h0) (Nat.lt_of_lt_of_le h0 hb2.size) (some ⟨w1.heap.size, 0, none⟩) 1 tkA (tk_in rfl) rt_a).mono ?_
    rintro e w' ⟨S, D, H, g, c, hbk, _, hH, rfl, o, b⟩
    refine ⟨g, c, _, rfl, ?_, hb.trans (b.mono hb.size)⟩
    have := dyn_len hbk hH
    rw [dataL_length]
    unfold blB
    rw [List.length_append, List.length_append, knd_length]
    omega
  have HA4 : Hid (∀ w1, Below w.heap.size w w1 → Calls Tryz.prog 23 #[.slice none 0 0, .int .i64 1] w1 fun e w' => ∃ g c, e = .returned (.slice (some ⟨g, 0, none⟩) 2 c) ∧ Below w1.heap.size w1 w') := fun w1 hb1 => by
    refine (deflate_c w1 (HT.out.below hb1 h0) (Nat.lt_of_lt_of_le h0 hb1.size) none 0 [] 1 ⟨rfl, fun i => by simp, .inl rfl⟩ (fun _ => ⟨rfl, rfl⟩) (by decide) (by decide) (by decide)).mono ?_
    rintro e w' ⟨g, c, X, rfl, o, hX, b⟩
    rw [def_none hX]
    exact ⟨g, c, rfl, b⟩
  have hcb := Lib.run_convert_bytes_const (P := Tryz.prog) w 22 5 #[.int .u8 97] 1 1 Tryz.underlying22 Tryz.underlying5
  change _ = Result.ok _ (w.alloc (.cells #[.int .u8 97] 5 (1, 2))) at hcb
  clear hT
  go_enter Tryz.func8, Tryz.ntmps8
  go_upto_region 2 with (go_at_call 9; refine HA1.out.mono ?_; rintro e w1 ⟨g1, c1, rfl, o1, b1⟩; have O1 := hide o1; have B1 := hide b1; have H2 := hide (HA2.out w1 b1); clear o1 b1 HA1 HA2)
  go_upto_region 3 with (go_at_call 13; refine H2.out.mono ?_; rintro e w2 ⟨g2, c2, rfl, o2, b2⟩; have O2 := hide o2; have O12 := hide (OwnsB.below O1.out b2); have B2 := hide (B1.out.trans (b2.mono B1.out.size)); have H3 := hide (HA3.out w2 B2.out); clear o2 b2 H2 HA3 O1)
  go_upto_region 4 with (go_at_call 17; refine H3.out.mono ?_; rintro e w3 ⟨g3, c3, n3, rfl, hn3, b3⟩; have O13 := hide (OwnsB.below O12.out b3); have O23 := hide (OwnsB.below O2.out b3); have B3 := hide (B2.out.trans (b3.mono B2.out.size)); have H4 := hide (HA4.out w3 B3.out); clear b3 H3 HA4 O12 O2)
  have k1 : (convert 22 9 (.slice (some ⟨g1, 0, none⟩) 6 c1)).run Tryz.prog w3 = .ok (.string ⟨#[1, 1, 0, 254, 255, 97]⟩) w3 := conv_own O13.out
  have k2 : (convert 22 9 (.slice (some ⟨g2, 0, none⟩) 3 c2)).run Tryz.prog w3 = .ok (.string ⟨#[75, 4, 0]⟩) w3 := conv_own O23.out
  have hn : (3 : Int) < (n3 : Int) := by omega
  clear O13 O23
  go_wp2_with (go_at_call 23; refine H4.out.mono ?_; rintro e w4 ⟨g4, c4, rfl, b4⟩; have B4 := hide (B3.out.trans (b4.mono B3.out.size)); clear b4 H4)
  go_ret
  exact ⟨rfl, B4.out⟩
end Go.Proofs.YtlakgbckopjelaaGreatDoor

/- PROVED: where the listed variable reads as the program's text lays it, the order of lengths lies in its variable; the world that the program's own start leaves is such a world. How the laws' arguments are opened. -/
namespace Go.Proofs.YtlakgbckopjelaaGreatDoor
set_option maxRecDepth 100000
open Go Go.RowKit
set_option linter.unusedVariables false

/-- The name of the listed variable, as the row has it. -/
def vnO : String := ((Rows.deflateBackRow.laid.map Prod.fst)[0]?).getD ""
theorem gO : Tryz.prog.globalNamed vnO = some 0 := by kernel_rfl
theorem tO : (Tryz.prog.globals[0]?).map (·.type) = some 153 := by kernel_rfl
theorem tabIs_of_vars {P : Program} {W : World} {name : String} {k : IntKind} {zs : List Int} {rest : List (String × DataW Unit)} {g : Nat} {t e : TypeId} {n : Nat} {ps : List MemPlace}
    (hg : P.globalNamed name = some g) (hty : (P.globals[g]?).map (·.type) = some t) (ht : P.underlying t = some (.array n e)) (he : P.underlying e = some (.int k)) (hce : P.cellsOf e = 1) (hct : P.cellsOf t = n)
    (h : DataW.LaidVars P W ((name, Lib.tabData k zs) :: rest) ps) : Lib.TabIs P W name k zs := by
  obtain ⟨g', t', cs, fuel, p, q, hg', ht', hvar, hd, _, _⟩ := h
  obtain rfl := Option.some.inj (hg.symm.trans hg')
  obtain rfl := Option.some.inj (hty.symm.trans ht')
  unfold Lib.TabIs
  rw [hvar, ← Lib.cells_of_tab ht he hce hct hd]
theorem laid_eq : ∃ r, Rows.deflateBackRow.laid = (vnO, Lib.tabData .i64 (iOrd.map Int.ofNat)) :: r := ⟨_, rfl⟩
theorem cells19 : Tryz.prog.cellsOf 153 = 19 := by kernel_rfl
theorem tab_of_laid {W : World} (h : laidMetH Tryz.prog Rows.deflateBackRow.laid W) : Tab W := by
  rw [MakeChecks.laidMetH_plain _ _ _ (by kernel_rfl)] at h
  obtain ⟨r, he⟩ := laid_eq
  rw [he] at h
  obtain ⟨ps, hl, _⟩ := h
  have hO := tabIs_of_vars gO tO Tryz.underlying153 Tryz.underlying3 Tryz.cells3 cells19 hl
  intro i hi
  have := hO.cell gO i (by rw [List.length_map]; exact hi)
  rw [this]
  congr 2
  have hi' : i < iOrd.length := hi
  simp [List.getD, hi']
theorem wit_met (os : Os) (args : Array Value) : laidMetH Tryz.prog Rows.deflateBackRow.laid ((World.laidAll Tryz.prog os Rows.deflateBackRow.laid).forCall (fun _ _ => 0) ⟨#[], args, []⟩).memory := by
  rw [MakeChecks.laidMetH_plain _ _ _ (by kernel_rfl)]
  exact laidMet_laidAll _ (by kernel_rfl) (by kernel_rfl)

section
open Go.ChangeShapes Go.WideShapes Go.ChangeAt
variable {H : Type} {enc : TypeId × Value → H} {W : World}
/-- Bytes that come in. -/
def BIn (W : World) (a : Option Addr) (len cap : Nat) (zs : List Int) : Prop := Text W.heap.size W a len zs ∧ len ≤ cap ∧ cap ≤ 9223372036854775807 ∧ (a = none → len = 0 ∧ cap = 0)
end
theorem BIn.stay {W W' : World} {a : Option Addr} {len cap : Nat} {zs : List Int} (h : BIn W a len cap zs) (k : Below W.heap.size W W') : BIn W' a len cap zs :=
  ⟨(h.1.kept (Kept.of_below k) (fun b hb e => by omega)).up k.size, h.2⟩
theorem Tab.pos {w : World} (h : Tab w) : 0 < w.heap.size := lt_of_cell (h 0 (by decide))
theorem Tab.on {w w' : World} (h : Tab w) (k : Below w.heap.size w w') : Tab w' := h.below k h.pos
end Go.Proofs.YtlakgbckopjelaaGreatDoor

/- Deflate of data that came in, and what it is read as. -/
namespace Go.Proofs.YtlakgbckopjelaaGreatDoor
set_option maxRecDepth 100000
open Go Go.RowKit

/-- The bytes of what Deflate made are bytes. -/
theorem DefIs.bytes {zs X : List Int} {lv : Int} (h : DefIs zs lv X) (hz : ∀ x ∈ zs, 0 ≤ x ∧ x ≤ 255) (i : Nat) : 0 ≤ X.getD i 0 ∧ X.getD i 0 ≤ 255 := by
  have key : ∀ Y : List Int, (∀ x ∈ Y, 0 ≤ x ∧ x ≤ 255) → 0 ≤ Y.getD i 0 ∧ Y.getD i 0 ≤ 255 := fun Y hY => by
    by_cases hi : i < Y.length
    · simp only [List.getD, List.getElem?_eq_getElem hi, Option.getD_some]
      exact hY _ (List.getElem_mem hi)
    · simp [List.getD, List.getElem?_eq_none (show Y.length ≤ i by omega)]
  by_cases hlv : lv < 1
  · rw [h.1 hlv]; exact key _ (stB_bytes _ zs rfl hz)
  · obtain ⟨ts, k, S, D, H0, H, _, _, _, _, _, _, _, hH, _, hX⟩ := h.2 (by omega)
    rcases hX with ⟨rfl, _⟩ | ⟨rfl, _⟩
    · exact dataL_bytes _ (bin_bl hH) i
    · exact key _ (stB_bytes _ zs rfl hz)
theorem DefIs.len {zs X : List Int} {lv : Int} (h : DefIs zs lv X) : X.length ≤ 2 * zs.length + 5 := by
  have hs := stB_len _ zs rfl
  by_cases hlv : lv < 1
  · rw [h.1 hlv]; exact hs
  · obtain ⟨ts, k, S, D, H0, H, _, _, _, _, _, _, _, _, _, hX⟩ := h.2 (by omega)
    rcases hX with ⟨rfl, hl⟩ | ⟨rfl, _⟩ <;> omega
end Go.Proofs.YtlakgbckopjelaaGreatDoor

/- The reference's Stored: contract. -/
namespace Go.Proofs.YtlakgbckopjelaaGreatDoor
set_option maxRecDepth 100000
open Go Go.RowKit

end Go.Proofs.YtlakgbckopjelaaGreatDoor
