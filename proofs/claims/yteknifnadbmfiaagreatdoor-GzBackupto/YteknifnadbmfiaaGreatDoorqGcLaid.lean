/- gz: qGcLaid. -/
import Derived.Test.YteknifnadbmfiaaGreatDoorqGaWt
import Derived.Test.YteknifnadbmfiaaGreatDoorqG7Rd
import Derived.Test.YteknifnadbmfiaaGreatDoorqGbData
import Derived.Test.YteknifnadbmfiaaGreatDoorpAg12HPut
import Derived.Test.YteknifnadbmfiaaGreatDoorpAg02HMath
import Derived.Test.YteknifnadbmfiaaGreatDoorCards
import Derived.Test.YteknifnadbmfiaaGreatDoorTie
import Derived.LaidMore
import Derived.Lib.LaidTab
import Derived.Stop.Joined
import Derived.Lay
import Derived.ChangeMaps5
import Derived.SevenTiedAt
import Derived.JoinedCond
namespace Go.Proofs.YteknifnadbmfiaaGreatDoor
set_option maxRecDepth 100000
open Go Go.RowKit
set_option linter.unusedVariables false

theorem nx9a : iNx iFix (ib [75, 4, 0]) 24 3 = .ok (11, 97) := iNx_ok (ib_le _) (n := 8) ⟨by decide, by rw [iFix_length]; decide, by decide, by decide +kernel, by decide +kernel⟩
theorem nx9b : iNx iFix (ib [75, 4, 0]) 24 11 = .ok (18, 256) := iNx_ok (ib_le _) (n := 7) ⟨by decide, by rw [iFix_length]; decide, by decide, by decide +kernel, by decide +kernel⟩
theorem ans9 : iAns [75, 4, 0] 9 = ([97], 3, 0) := by
 show iRes (iLoop 24 (iBlk (ib [75, 4, 0]) 24 9) 0 []) = _
 have hd : iDat iFix iFive (ib [75, 4, 0]) 24 9 3 [] = .ok (18, [97]) := by
  unfold iDat
  rw [iLoop_on (iOne_byte nx9a (by decide) (by decide)) (by decide) (by decide), iLoop_end (iOne_end nx9b)]
  rfl
 have h : iBlk (ib [75, 4, 0]) 24 9 0 [] = .ok (18, (false, [97])) := by
  unfold iBlk
  rw [iThen_of_ok (show iTk (ib [75, 4, 0]) 24 0 1 = .ok (1, 1) from rfl), iThen_of_ok (show iTk (ib [75, 4, 0]) 24 1 2 = .ok (3, 1) from rfl)]
  unfold iKind
  rw [if_neg (by decide), if_pos rfl, iThen_of_ok hd]
  rfl
 rw [iLoop_end h]
 rfl
def mbA : Mb := ⟨.empty, .empty, .empty, 0, false, ⟨#[97]⟩⟩
def bytesA : List Int := [31, 139, 8, 0, 0, 0, 0, 0, 0, 255, 75, 4, 0, 67, 190, 183, 232, 1, 0, 0, 0]
theorem head_a : gHead bytesA = .ok (⟨.empty, .empty, .empty, 0, false, .empty⟩, [75, 4, 0, 67, 190, 183, 232, 1, 0, 0, 0]) := by
 have e1 : gFirst bytesA = .ok [75, 4, 0, 67, 190, 183, 232, 1, 0, 0, 0] := by
  rw [gFirst, if_neg (by decide), if_pos (by decide)]
  rfl
 have e2 : gTexts (gFl bytesA) [75, 4, 0, 67, 190, 183, 232, 1, 0, 0, 0] = .ok (.empty, .empty, .empty, [75, 4, 0, 67, 190, 183, 232, 1, 0, 0, 0]) := by
  rw [show gFl bytesA = 0 by decide]; rfl
 have e3 : gSum (gB (gFl bytesA) 2) bytesA [75, 4, 0, 67, 190, 183, 232, 1, 0, 0, 0] = .ok [75, 4, 0, 67, 190, 183, 232, 1, 0, 0, 0] := by
  rw [show gFl bytesA = 0 by decide]; rfl
 rw [gHead_4 e1 e2 e3]
 rfl
theorem end_a : gEnd [97] [67, 190, 183, 232, 1, 0, 0, 0] = .ok [] := by
 rw [gEnd, if_neg (by decide), if_pos (by decide +kernel)]
 rfl
theorem member_a : gMember 9 bytesA = .ok (mbA, []) := by
 have h2 : iAns ([75, 4, 0] ++ [67, 190, 183, 232, 1, 0, 0, 0]) 9 = ([97], 3, 0) := by
  rcases iAns_more [75, 4, 0] [67, 190, 183, 232, 1, 0, 0, 0] 9 with h' | h'
  ·rw [ans9] at h'; simp at h'
  ·rw [h', ans9]
 have e2 : gStream 9 [75, 4, 0, 67, 190, 183, 232, 1, 0, 0, 0] = .ok ([97], [67, 190, 183, 232, 1, 0, 0, 0]) := by
  rw [show ([75, 4, 0, 67, 190, 183, 232, 1, 0, 0, 0] : List Int) = [75, 4, 0] ++ [67, 190, 183, 232, 1, 0, 0, 0] from rfl, gStream, h2]
  rfl
 rw [gMember_4 head_a e2 end_a]
 rfl
theorem read_a : gRead bytesA 9 = .ok [mbA] := by
 have := member_a
 rw [gRead, gRd, show (9 : Int).toNat = 9 from rfl, this]
 rfl
def mbN : Mb := ⟨⟨#[110]⟩, .empty, .empty, 0, false, ⟨#[97]⟩⟩
theorem may_n : gMay mbN := by decide
theorem len_n {X : List Int} (h : DefIs (sB mbN.data) 0 X) : (gHd mbN ++ X ++ gFt (sB mbN.data)).length = 26 := by
 rw [h.1 (by decide)]
 have h1 : (gHd mbN).length = 12 := by
  unfold gHd
  simp [leP_length, xtr, txt, mbN, sB]
  decide
 have h2 : (gFt (sB mbN.data)).length = 8 := by unfold gFt; simp [leP_length]
 have h3 : (stB (sB mbN.data)).length = 6 := by
  rw [show sB mbN.data = [97] from rfl, stB_small (by decide)]
  rfl
 rw [List.length_append, List.length_append, h1, h2, h3]
set_option maxHeartbeats 8000000 in
theorem alive_c (w : World) (hT : Tab w) (h2 : 2 < w.heap.size) : Calls Tryz.prog 4 #[] w fun e w' => e = .returned (.bool true) /\ Below w.heap.size w w' := by
 obtain ⟨W, hW⟩ : ∃ W, W = w.alloc (.cells #[.int .u8 31, .int .u8 139, .int .u8 8, .int .u8 0, .int .u8 0, .int .u8 0, .int .u8 0, .int .u8 0, .int .u8 0, .int .u8 255, .int .u8 75, .int .u8 4, .int .u8 0, .int .u8 67, .int .u8 190, .int .u8 183, .int .u8 232, .int .u8 1, .int .u8 0, .int .u8 0, .int .u8 0] 5 (21, 22)) := ⟨_, rfl⟩
 have kW : Kept (fun _ => False) w W := by rw [hW]; exact Kept.alloc _ (Kept.refl _ w) _
 have hbW : W.heap[w.heap.size]? = some (.cells (bytesA.map (Value.int .u8)).toArray 5 (21, 22)) := by rw [hW]; exact heap_new w _
 have hbi : Bi W W.heap.size (some ⟨w.heap.size, 0, none⟩) 21 bytesA := by
  refine ⟨⟨rfl, fun i => ?_, .inr ⟨w.heap.size, 0, lt_of_block hbW, rfl, fun i hi => ?_⟩⟩, by decide, by simp, by decide⟩
  ·by_cases hi : i < bytesA.length
   ·have : ∀ x ∈ bytesA, 0 <= x /\ x <= 255 := by decide
    simp only [List.getD, List.getElem?_eq_getElem hi, Option.getD_some]
    exact this _ (List.getElem_mem hi)
   ·simp [List.getD, List.getElem?_eq_none (show bytesA.length <= i by omega)]
  ·rw [C.cells_of hbW]
   simp [List.getD, hi]
 have hTW : Tab W := hT.kept kW ⟨fun e => e, fun e => e⟩
 have h2W : 2 < W.heap.size := Nat.lt_of_lt_of_le h2 kW.size
 have HR : Hid (Calls Tryz.prog 6 #[.slice (some ⟨w.heap.size, 0, none⟩) 21 21, .int .i64 9] W fun e w1 => ∃ g c, e = .returned (.tuple #[.slice (some ⟨g, 0, none⟩) 1 c, .int .i64 0]) /\ OwnsMb w1 W.heap.size (.slice (some ⟨g, 0, none⟩) 1 c) [mbA] /\ Below w.heap.size w w1) := by
  have := read_c W hTW h2W (some ⟨w.heap.size, 0, none⟩) 21 bytesA 9 hbi (by decide) (by decide)
  rw [read_a] at this
  refine this.mono ?_
  rintro e w1 (⟨ms, v, e1, rfl, ho, hb, _⟩ | ⟨er, e1, _⟩)
  ·cases e1
   obtain ⟨g, cap, rfl, _⟩ := OwnsMb.at ho (i := 0) (by decide)
   exact ⟨g, cap, rfl, ho, (kW.below (Nat.le_refl _) (fun _ _ e => e)).trans (hb.mono kW.size)⟩
  ·cases e1
 have HWr : Hid (∀ w1, Below w.heap.size w w1 -> Calls Tryz.prog 5 #[.agg mbN.cells, .int .i64 0] w1 fun e w2 => ∃ a c, e = .returned (.tuple #[.slice a 26 c, .bool true]) /\ Kept (fun _ => False) w1 w2) := fun w1 b1 => by
  refine (write_small mbN 0 w1 (hT.below b1 h2) (Nat.lt_of_lt_of_le h2 b1.size) may_n (by decide) (by decide) (by decide) (by decide)).mono ?_
  rintro e w2 ⟨v, X, rfl, ho, hX, _, k⟩
  obtain ⟨a, c, rfl⟩ := own_form ho
  rw [len_n hX]
  exact ⟨a, c, rfl, k⟩
 have HD : Hid (∀ w1 w2 v, OwnsMb w1 W.heap.size v [mbA] -> Kept (fun _ => False) w1 w2 -> Calls Tryz.prog 8 #[v] w2 fun e w3 => e = .returned (.string ⟨#[97]⟩) /\ Below w2.heap.size w2 w3) := fun w1 w2 v ho k => by
  exact gdata_c w2 W.heap.size v [mbA] (ho.kept k (fun _ _ e => e)) (by decide) (by decide) (by decide)
 have HC : Hid (∀ w1 w2 g c, OwnsMb w1 W.heap.size (.slice (some ⟨g, 0, none⟩) 1 c) [mbA] -> Kept (fun _ => False) w1 w2 -> w2.cell? ⟨g, 5, none⟩ = some (.string ⟨#[97]⟩)) := fun w1 w2 g c ho k => by
  obtain ⟨g', cap', e, _, _, hc⟩ := OwnsMb.at (ho.kept k (fun _ _ e => e)) (i := 0) (by decide)
  simp only [Value.slice.injEq, Option.some.injEq, Addr.mk.injEq] at e
  obtain ⟨⟨rfl, _⟩, _⟩ := e
  have := hc 5 (by decide)
  simpa [Mb.cells, mbA] using this
 have HE : Hid (w.alloc (.cells #[.int .u8 31, .int .u8 139, .int .u8 8, .int .u8 0, .int .u8 0, .int .u8 0, .int .u8 0, .int .u8 0, .int .u8 0, .int .u8 255, .int .u8 75, .int .u8 4, .int .u8 0, .int .u8 67, .int .u8 190, .int .u8 183, .int .u8 232, .int .u8 1, .int .u8 0, .int .u8 0, .int .u8 0] 5 (21, 22)) = W) := hW.symm
 have kc := fun (w : World) (C : Array Value) (n c : Nat) => Lib.run_convert_bytes_const (P := Tryz.prog) w 24 5 C n c Tryz.underlying24 Tryz.underlying5
 clear hT h2 kW hbW hbi hTW h2W hW
 go_enter Tryz.func4, Tryz.ntmps4
 go_upto_region 2 with (go_at_call 6; rw [HE.out]; refine HR.out.mono ?_; rintro e w1 ⟨g, c, rfl, o1, b1⟩; have O1 := hide o1; have B1 := hide b1; clear o1 b1 HR)
 clear kc HE
 have HW1 := hide (HWr.out w1 B1.out)
 clear HWr
 go_upto_region 3 with (go_at_call 5; refine HW1.out.mono ?_; rintro e w2 ⟨a2, c2, rfl, k2⟩; have K2 := hide k2; clear k2 HW1)
 have c5 := HC.out w1 w2 g c O1.out K2.out
 have HD2 := hide (HD.out w1 w2 _ O1.out K2.out)
 have B2 : Hid (Below w.heap.size w w2) := B1.out.trans (K2.out.below B1.out.size (fun _ _ e => e))
 clear HC HD O1
 go_wp2_with (go_at_call 8; refine HD2.out.mono ?_; rintro e w3 ⟨rfl, b3⟩; have B3 := hide (B2.out.trans (b3.mono B2.out.size)); clear b3 HD2)
 go_ret
 exact ⟨rfl, B3.out⟩
end Go.Proofs.YteknifnadbmfiaaGreatDoor

namespace Go.Proofs.YteknifnadbmfiaaGreatDoor
set_option maxRecDepth 100000
open Go Go.RowKit
set_option linter.unusedVariables false

def vn1 : String := ((Rows.gzBackRow.laid.map Prod.fst)[0]?).getD ""
def vn2 : String := ((Rows.gzBackRow.laid.map Prod.fst)[1]?).getD ""
theorem gn1 : Tryz.prog.globalNamed vn1 = some 2 := by kernel_rfl
theorem gn2 : Tryz.prog.globalNamed vn2 = some 1 := by kernel_rfl
theorem tn1 : (Tryz.prog.globals[2]?).map (·.type) = some 190 := by kernel_rfl
theorem tn2 : (Tryz.prog.globals[1]?).map (·.type) = some 190 := by kernel_rfl
theorem tabIs_of_vars {P : Program} {W : World} {name : String} {k : IntKind} {zs : List Int} {rest : List (String × DataW Unit)} {g : Nat} {t e : TypeId} {n : Nat} {ps : List MemPlace}
  (hg : P.globalNamed name = some g) (hty : (P.globals[g]?).map (·.type) = some t) (ht : P.underlying t = some (.array n e)) (he : P.underlying e = some (.int k)) (hce : P.cellsOf e = 1) (hct : P.cellsOf t = n)
  (h : DataW.LaidVars P W ((name, Lib.tabData k zs) :: rest) ps) : Lib.TabIs P W name k zs /\ ∃ q, DataW.LaidVars P W rest q := by
 obtain ⟨g', t', cs, fuel, p, q, hg', ht', hvar, hd, hq, _⟩ := h
 obtain rfl := Option.some.inj (hg.symm.trans hg')
 obtain rfl := Option.some.inj (hty.symm.trans ht')
 constructor
 ·unfold Lib.TabIs
  rw [hvar, <- Lib.cells_of_tab ht he hce hct hd]
 ·exact ⟨_, hq⟩
theorem laid_eq : ∃ r, Rows.gzBackRow.laid = (vn1, Lib.tabData .i64 (iOrd.map Int.ofNat)) :: (vn2, Lib.tabData .i64 (iOrd.map Int.ofNat)) :: r := ⟨_, rfl⟩
theorem cells_3 : Tryz.prog.cellsOf 3 = 1 := by kernel_rfl
theorem cells19 : Tryz.prog.cellsOf 190 = 19 := by kernel_rfl
theorem tab_at {W : World} {name : String} {g : Nat} (gn : Tryz.prog.globalNamed name = some g) (h : Lib.TabIs Tryz.prog W name .i64 (iOrd.map Int.ofNat)) : TabAt g W := fun i hi => by
 have := h.cell gn i (by rw [List.length_map]; exact hi)
 rw [this]
 congr 2
 have hi' : i < iOrd.length := hi
 simp [List.getD, hi']
theorem tab_of_laid {W : World} (h : laidMetH Tryz.prog Rows.gzBackRow.laid W) : Tab W := by
 rw [MakeChecks.laidMetH_plain _ _ _ (by kernel_rfl)] at h
 obtain ⟨r, he⟩ := laid_eq
 rw [he] at h
 obtain ⟨ps, hl, _⟩ := h
 obtain ⟨h1, q, hl2⟩ := tabIs_of_vars gn1 tn1 Tryz.underlying190 Tryz.underlying3 cells_3 cells19 hl
 obtain ⟨h2, _⟩ := tabIs_of_vars gn2 tn2 Tryz.underlying190 Tryz.underlying3 cells_3 cells19 hl2
 exact ⟨tab_at gn2 h2, tab_at gn1 h1⟩
theorem laidOut9 : laidOutB Tryz.prog = true := by kernel_rfl
theorem Tab.pos {w : World} (h : Tab w) : 2 < w.heap.size := lt_of_cell (h.2 0 (by decide))
theorem wit_met (os : Os) (args : Array Value) : laidMetH Tryz.prog Rows.gzBackRow.laid ((World.laidAll Tryz.prog os Rows.gzBackRow.laid).forCall (fun _ _ => 0) ⟨#[], args, []⟩).memory := by
 rw [MakeChecks.laidMetH_plain _ _ _ (by kernel_rfl)]
 exact laidMet_laidAll _ (by kernel_rfl) (by kernel_rfl)
section
open Go.ChangeShapes Go.WideShapes Go.ChangeAt
variable {H : Type} {enc : TypeId × Value -> H} {W : World}
theorem memFields : ∃ fs : Array Field, Tryz.prog.underlying 27 = some (.struct fs) /\ fs.toList.map (fun f : Field => (f.offset, f.type)) = [(0, 9), (1, 9), (2, 9), (3, 25), (4, 4), (5, 9)] := by
 have h : (Tryz.prog.underlying 27).bind (fun d => match d with | .struct fs => some (fs.toList.map (fun f : Field => (f.offset, f.type))) | _ => none) = some [(0, 9), (1, 9), (2, 9), (3, 25), (4, 4), (5, 9)] := by kernel_rfl
 cases hu : Tryz.prog.underlying 27 with
 | none => rw [hu] at h; cases h
 | some d =>
  rw [hu] at h
  cases d <;> simp at h
  exact ⟨_, rfl, h⟩
theorem cells_TU32 : Tryz.prog.cellsOf 25 = 1 := by kernel_rfl
theorem cells_9 : Tryz.prog.cellsOf 9 = 1 := by kernel_rfl
theorem cells_4 : Tryz.prog.cellsOf 4 = 1 := by kernel_rfl
theorem cells_Mem : Tryz.prog.cellsOf 27 = 6 := by kernel_rfl
theorem trod_mem {fuel : Nat} {cs : List Value} {x : DataW H × List MemPlace} {base : Nat} {sp : Nat -> Bool} {hd : Bool} (h : DataW.trod enc Tryz.prog W base sp hd fuel 27 cs = some x) :
  ∃ m : Mb, cs = m.cells.toList /\ m.time < 4294967296 /\ x.1 = .agg [.lit (.string m.name.data.toList), .lit (.string m.comment.data.toList), .lit (.string m.extra.data.toList), .lit (.int .u32 m.time), .lit (.bool m.text), .lit (.string m.data.data.toList)] := by
 obtain ⟨fs, hu, hf⟩ := memFields
 obtain ⟨xs, n, _, rfl, hl, hlen, hx⟩ := DataW.trod_struct hu h
 rw [cells_Mem] at hl
 have hfs : fs.size = 6 := by have := congrArg List.length hf; simpa using this
 have fld : ∀ i o t, ([(0, 9), (1, 9), (2, 9), (3, 25), (4, 4), (5, 9)] : List (Nat × TypeId))[i]? = some (o, t) -> ∃ f : Field, fs[i]? = some f /\ f.offset = o /\ f.type = t := fun i o t hi => by
  rw [<- hf, List.getElem?_map, Option.map_eq_some_iff] at hi
  obtain ⟨f, h1, h2⟩ := hi
  rw [Array.getElem?_toList] at h1
  simp only [Prod.mk.injEq] at h2
  exact ⟨f, h1, h2.1, h2.2⟩
 match cs, hl with
 | [c0, c1, c2, c3, c4, c5], _ =>
  match xs, (hlen.trans hfs) with
  | [x0, x1, x2, x3, x4, x5], _ =>
   obtain ⟨f0, i0, o0, t0⟩ := fld 0 0 9 rfl
   obtain ⟨f1, i1, o1, t1⟩ := fld 1 1 9 rfl
   obtain ⟨f2, i2, o2, t2⟩ := fld 2 2 9 rfl
   obtain ⟨f3, i3, o3, t3⟩ := fld 3 3 25 rfl
   obtain ⟨f4, i4, o4, t4⟩ := fld 4 4 4 rfl
   obtain ⟨f5, i5, o5, t5⟩ := fld 5 5 9 rfl
   have e0 := hx 0 f0 i0
   have e1 := hx 1 f1 i1
   have e2 := hx 2 f2 i2
   have e3 := hx 3 f3 i3
   have e4 := hx 4 f4 i4
   have e5 := hx 5 f5 i5
   rw [o0, t0, cells_9] at e0
   rw [o1, t1, cells_9] at e1
   rw [o2, t2, cells_9] at e2
   rw [o3, t3, cells_TU32] at e3
   rw [o4, t4, cells_4] at e4
   rw [o5, t5, cells_9] at e5
   simp at e0 e1 e2 e3 e4 e5
   obtain ⟨s0, a0, b0, _⟩ := DataW.trod_string Tryz.underlying9 e0
   obtain ⟨s1, a1, b1, _⟩ := DataW.trod_string Tryz.underlying9 e1
   obtain ⟨s2, a2, b2, _⟩ := DataW.trod_string Tryz.underlying9 e2
   obtain ⟨n3, a3, b3, w3⟩ := DataW.trod_int Tryz.underlying25 e3
   obtain ⟨s4, a4, b4⟩ := DataW.trod_bool Tryz.underlying4 e4
   obtain ⟨s5, a5, b5, _⟩ := DataW.trod_string Tryz.underlying9 e5
   have hw : 0 <= n3 /\ n3 <= 4294967295 := by
    simp only [Lit.wf, Bool.and_eq_true, decide_eq_true_eq] at w3
    exact w3
   obtain ⟨t, rfl⟩ : ∃ t : Nat, n3 = t := ⟨n3.toNat, by omega⟩
   simp only [List.cons.injEq, and_true] at a0 a1 a2 a3 a4 a5
   subst a0 a1 a2 a3 a4 a5 b0 b1 b2 b3 b4 b5
   exact ⟨⟨s0, s1, s2, t, s4, s5⟩, rfl, by show t < _; omega, rfl⟩
theorem open_mem {v : Value} {d : DataW H} {p : List MemPlace} {base : Nat} (hv : Value.okWide Tryz.prog W .any base 27 v) (h : DataW.Trod enc Tryz.prog W 0 (fun _ => true) true 27 v d p) (hk : Rows.uptoBulk d <= 1048576) :
  ∃ m : Mb, v = .agg m.cells /\ m.time < 4294967296 /\ m.name.size + m.comment.size + m.extra.size + m.data.size <= 1048576 := by
 obtain ⟨fs, hu, _⟩ := memFields
 obtain ⟨fuel, hf⟩ := h
 obtain ⟨m, hc, ht, hx⟩ := trod_mem hf
 simp only [Value.okWide, hu] at hv
 obtain ⟨cs, rfl, _⟩ := hv
 simp only [Value.cells] at hc
 refine ⟨m, ?_, ht, ?_⟩
 ·have : cs = m.cells := by rw [<- Array.toList_inj]; exact hc
  rw [this]
 ·simp only at hx
  subst hx
  simp only [Rows.uptoBulk, Rows.uptoBulkAll, Array.length_toList] at hk
  have e : ∀ s : ByteArray, s.size = s.data.size := fun s => rfl
  simp only [e]
  omega
end
end Go.Proofs.YteknifnadbmfiaaGreatDoor
