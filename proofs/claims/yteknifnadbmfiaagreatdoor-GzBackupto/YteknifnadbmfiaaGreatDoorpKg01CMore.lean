/- Several texts, laid together: CMath, CStep, CWhole, CMake, CMore. -/
import Derived.WalkKit
import Derived.Test.YteknifnadbmfiaaGreatDoorRows
import Derived.Deep.WholeRow
import Derived.Laws.ResultCell
import Derived.Deep.LoopGhost
import Derived.Deep.QuietTactic
import Derived.BigQuiet
import Derived.Deep.RegionHeld3
import Derived.OneCell
/- PROVED: arithmetic of a step of the sum, over natural numbers: steps treat each bit alone; what is shifted up by as many bits as there are steps comes back; a number below 2 to the 32nd that is not 0 is not 0 behind any steps. -/
namespace Go.Proofs.YteknifnadbmfiaaGreatDoor.C
set_option maxRecDepth 100000
open Go

def st (c : Nat) : Nat := if c % 2 = 1 then (c / 2) ^^^ 3988292384 else c / 2
def stN : Nat -> Nat -> Nat
 | 0, c => c
 | n + 1, c => stN n (st c)
def e8 (c : Nat) : Nat := stN 8 c
def nx (c x : Nat) : Nat := e8 (c ^^^ x)
def go (c : Nat) (bs : List Nat) : Nat := bs.foldl nx c
def tn (c : Nat) : Nat := 4294967295 - c
def mr (c : Nat) (bs : List Nat) : Nat := tn (go (tn c) bs)
def ms : List Nat -> Nat
 | [] => 0
 | x :: r => x ^^^ (ms r * 256)

theorem st_lt {c : Nat} (h : c < 4294967296) : st c < 4294967296 := by
 unfold st
 split
 ·have := @Nat.xor_lt_two_pow (c / 2) 3988292384 32 (by omega) (by omega)
  omega
 ·omega
theorem stN_lt : ∀ (n : Nat) {c : Nat}, c < 4294967296 -> stN n c < 4294967296
 | 0, _, h => h
 | n + 1, _, h => stN_lt n (st_lt h)
theorem e8_lt {c : Nat} (h : c < 4294967296) : e8 c < 4294967296 := stN_lt 8 h
theorem xor_lt {a b : Nat} (ha : a < 4294967296) (hb : b < 4294967296) : a ^^^ b < 4294967296 := by
 have := @Nat.xor_lt_two_pow a b 32 (by omega) (by omega)
 omega
theorem nx_lt {c x : Nat} (h : c < 4294967296) (hx : x < 256) : nx c x < 4294967296 := e8_lt (xor_lt h (by omega))
theorem tn_lt (c : Nat) : tn c < 4294967296 := by unfold tn; omega
theorem go_lt : ∀ (bs : List Nat) {c : Nat}, c < 4294967296 -> (∀ x ∈ bs, x < 256) -> go c bs < 4294967296
 | [], _, h, _ => h
 | x :: r, _, h, hx => go_lt r (c := nx _ x) (nx_lt h (hx x (by simp))) (fun y hy => hx y (by simp [hy]))
theorem mr_lt (c : Nat) (bs : List Nat) : mr c bs < 4294967296 := tn_lt _

theorem st_xor (a b : Nat) : st (a ^^^ b) = st a ^^^ st b := by
 have hd : (a ^^^ b) / 2 = a / 2 ^^^ b / 2 := Nat.xor_div_two
 have hm : (a ^^^ b) % 2 = (a + b) % 2 := by
  have h1 := @Nat.xor_mod_two_eq_one a b
  rcases Nat.mod_two_eq_zero_or_one (a ^^^ b) with h | h
  ·rw [h] at h1 ⊢; omega
  ·rw [h] at h1 ⊢; omega
 unfold st
 rw [hd, hm]
 rcases Nat.mod_two_eq_zero_or_one a with ha | ha <;> rcases Nat.mod_two_eq_zero_or_one b with hb | hb
 ·rw [if_neg (by omega), if_neg (by omega), if_neg (by omega)]
 ·rw [if_pos (by omega), if_neg (by omega), if_pos (by omega), Nat.xor_assoc]
 ·rw [if_pos (by omega), if_pos (by omega), if_neg (by omega), Nat.xor_assoc, Nat.xor_assoc, Nat.xor_comm (b / 2)]
 ·rw [if_neg (by omega), if_pos (by omega), if_pos (by omega)]
  rw [Nat.xor_assoc, <- Nat.xor_assoc 3988292384, Nat.xor_comm 3988292384, Nat.xor_assoc, Nat.xor_self, Nat.xor_zero]
theorem stN_xor : ∀ (n a b : Nat), stN n (a ^^^ b) = stN n a ^^^ stN n b
 | 0, _, _ => rfl
 | n + 1, a, b => by
  show stN n (st (a ^^^ b)) = stN n (st a) ^^^ stN n (st b)
  rw [st_xor, stN_xor n]
theorem stN_add : ∀ (a b c : Nat), stN (a + b) c = stN b (stN a c)
 | 0, b, c => by rw [Nat.zero_add]; rfl
 | a + 1, b, c => by
  rw [Nat.add_right_comm]
  exact stN_add a b (st c)
theorem st_two (m : Nat) : st (m * 2) = m := by
 unfold st
 rw [if_neg (by omega)]
 omega
theorem stN_up : ∀ (n m : Nat), stN n (m * 2 ^ n) = m
 | 0, m => by simp [stN]
 | n + 1, m => by
  show stN n (st (m * 2 ^ (n + 1))) = m
  rw [Nat.pow_succ, <- Nat.mul_assoc, st_two]
  exact stN_up n m
theorem low_high (c : Nat) : (c % 256) ^^^ (c / 256 * 256) = c := by
 apply Nat.eq_of_testBit_eq
 intro i
 rw [Nat.testBit_xor]
 have e1 : c % 256 = c % 2 ^ 8 := rfl
 have e2 : c / 256 * 256 = (c / 2 ^ 8) * 2 ^ 8 := rfl
 rw [e1, e2, Nat.testBit_mod_two_pow, Nat.testBit_mul_two_pow, Nat.testBit_div_two_pow]
 by_cases h : i < 8
 ·have h' : ¬ 8 <= i := by omega
  simp [h, h']
 ·have h' : 8 <= i := by omega
  simp [h, h', Nat.sub_add_cancel h']
theorem tab_step (c x : Nat) : e8 ((c % 256) ^^^ x) ^^^ (c / 256) = nx c x := by
 unfold nx e8
 have hc : c ^^^ x = ((c % 256) ^^^ x) ^^^ (c / 256 * 256) := by
  rw [Nat.xor_assoc, Nat.xor_comm x, <- Nat.xor_assoc, low_high]
 have hu : stN 8 (c / 256 * 256) = c / 256 := stN_up 8 (c / 256)
 rw [hc, stN_xor 8 (c % 256 ^^^ x), hu]

theorem tn_xor {c : Nat} (h : c < 4294967296) : tn c = c ^^^ 4294967295 := by
 have hb : (4294967296 - (c + 1)) = c ^^^ 4294967295 := by
  apply Nat.eq_of_testBit_eq
  intro i
  have e1 : (4294967296 : Nat) - (c + 1) = 2 ^ 32 - (c + 1) := rfl
  have e2 : (4294967295 : Nat) = 2 ^ 32 - 1 := rfl
  rw [e1, Nat.testBit_two_pow_sub_succ (by omega), Nat.testBit_xor, e2, Nat.testBit_two_pow_sub_one]
  by_cases hi : i < 32
  ·simp [hi]
  ·have : c.testBit i = false := Nat.testBit_lt_two_pow (Nat.lt_of_lt_of_le (show c < 2 ^ 32 by omega) (Nat.pow_le_pow_right (by omega) (by omega)))
   simp [hi, this]
 unfold tn
 omega
theorem go_append (c : Nat) (xs ys : List Nat) : go c (xs ++ ys) = go (go c xs) ys := List.foldl_append
end Go.Proofs.YteknifnadbmfiaaGreatDoor.C

/- PROVED: what step, eightSteps and the reference's Step and Eight answer: so many steps of the number, the world as it was. -/
namespace Go.Proofs.YteknifnadbmfiaaGreatDoor.C
set_option maxRecDepth 100000
open Go Go.RowKit

theorem ret_int {k : IntKind} {a b : Int} (h : a = b) : Ending.returned (.int k a) = .returned (.int k b) := by rw [h]
theorem ofInt32 (a : Nat) (ha : a < 4294967296) : (BitVec.ofInt 32 (a : Int)).toNat = a := by
 rw [BitVec.ofInt_natCast, BitVec.toNat_ofNat]; exact Nat.mod_eq_of_lt (by omega)
theorem wrap32 (n : Int) : IntKind.u32.wrap n = n % 4294967296 := by simp [IntKind.wrap, IntKind.signed, IntKind.bits]
theorem xor32 (a b : Nat) (ha : a < 4294967296) (hb : b < 4294967296) : bits .xor .u32 (a : Int) (b : Int) = ((a ^^^ b : Nat) : Int) := by
 have hx := xor_lt ha hb
 show IntKind.u32.wrap ((BitVec.ofInt 32 (a : Int) ^^^ BitVec.ofInt 32 (b : Int)).toNat : Int) = _
 rw [BitVec.toNat_xor, ofInt32 a ha, ofInt32 b hb, wrap32]
 omega
theorem and32 (a b : Nat) (ha : a < 4294967296) (hb : b < 4294967296) : bits .and .u32 (a : Int) (b : Int) = ((a &&& b : Nat) : Int) := by
 have hx : a &&& b < 2 ^ 32 := Nat.and_lt_two_pow _ (by omega)
 show IntKind.u32.wrap ((BitVec.ofInt 32 (a : Int) &&& BitVec.ofInt 32 (b : Int)).toNat : Int) = _
 rw [BitVec.toNat_and, ofInt32 a ha, ofInt32 b hb, wrap32]
 omega
theorem and32_one (a : Nat) (ha : a < 4294967296) : bits .and .u32 (a : Int) 1 = (a : Int) % 2 := by
 have := and32 a 1 ha (by omega)
 rw [Nat.and_one_is_mod] at this
 rw [show (1 : Int) = ((1 : Nat) : Int) from rfl, this]
 omega
theorem st_odd (c : Nat) (hc : c < 4294967296) (h : c % 2 = 1) : bits .xor .u32 ((c : Int) / 2) 3988292384 = (st c : Nat) := by
 have := xor32 (c / 2) 3988292384 (by omega) (by omega)
 unfold st
 rw [if_pos h, <- this]
 rfl
theorem st_even (c : Nat) (h : c % 2 = 0) : ((c : Int) / 2) = (st c : Nat) := by
 unfold st
 rw [if_neg (by omega)]
 omega

theorem step_c (c : Nat) (hc : c < 4294967296) (w : World) :
  Calls Tryz.prog 36 #[.int .u32 (c : Int)] w fun e w' => e = .returned (.int .u32 (st c : Nat)) /\ w' = w := by
 have h1 := and32_one c hc
 rcases Nat.mod_two_eq_zero_or_one c with hp | hp
 ·have hp' : (c : Int) % 2 = 0 := by omega
  have hs := st_even c hp
  have H : Hid (((c : Int) / 2) = (st c : Nat)) := hs
  clear hs
  go_enter Tryz.func36, Tryz.ntmps36
  go_wp2
  go_ret
  exact ⟨ret_int H.out, rfl⟩
 ·have hp' : (c : Int) % 2 = 1 := by omega
  have hs := st_odd c hc hp
  go_enter Tryz.func36, Tryz.ntmps36
  go_wp2
  go_ret
  exact ⟨rfl, rfl⟩

theorem stN_succ (n c : Nat) : stN (n + 1) c = st (stN n c) := stN_add n 1 c
theorem eight_c (c : Nat) (hc : c < 4294967296) (w : World) :
  Calls Tryz.prog 23 #[.int .u32 (c : Int)] w fun e w' => e = .returned (.int .u32 (e8 c : Nat)) /\ w' = w := by
 go_enter Tryz.func23, Tryz.ntmps23
 go_wp2_with fail
 go_loop [0, 3] (fun x i => ∃ k : Nat, k <= 8 /\ i = .int .i64 k /\ x = .int .u32 (stN k c : Nat)) (fun _ i => 8 - (intOf i).toNat)
 case atStart => exact ⟨0, by omega, rfl, rfl⟩
 case round =>
  obtain ⟨k, hk, rfl, rfl⟩ := hrel
  by_cases hlt : (k : Int) < 8
  ·go_wp2_with (go_at_call 36; refine (step_c _ (stN_lt k hc) _).mono ?_; rintro e w' ⟨rfl, rfl⟩)
   go_round
   case rel => exact ⟨k + 1, by omega, by go_num, by rw [stN_succ]⟩
   case measure => simp [intOf]; omega
  ·go_wp2
   go_ret
   exact ⟨ret_int (by rw [show k = 8 by omega]; rfl), rfl⟩

end Go.Proofs.YteknifnadbmfiaaGreatDoor.C

/- PROVED: laws for a whole array that is loaded out of a block, or stored into it, at a region's list of operations; which blocks a call may have written ('Kept'). No Go text in sight. -/
namespace Go.Proofs.YteknifnadbmfiaaGreatDoor.C
set_option maxRecDepth 100000
open Go Go.RowKit

theorem lt_of_block' {w : World} {b : Nat} {o : Obj} (h : w.heap[b]? = some o) : b < w.heap.size := by
 rcases Nat.lt_or_ge b w.heap.size with h' | h'
 ·exact h'
 ·rw [Array.getElem?_eq_none h'] at h; simp at h
theorem cells_of {w : World} {b : Nat} {cs : Array Value} {t : TypeId} {fr : Nat × Nat} (h : w.heap[b]? = some (.cells cs t fr)) (i : Nat) : w.cell? ⟨b, i, none⟩ = cs[i]? := by simp [World.cell?, h]
theorem free_of {w : World} {b : Nat} {cs : Array Value} {t : TypeId} (h : w.heap[b]? = some (.cells cs t (0, 0))) (i : Nat) : w.frozen? ⟨b, i, none⟩ = false := by simp [World.frozen?, h]
theorem set_of {w : World} {b : Nat} {cs : Array Value} {t : TypeId} {fr : Nat × Nat} (h : w.heap[b]? = some (.cells cs t fr)) (i : Nat) (u : Value) : (w.setCell ⟨b, i, none⟩ u).heap[b]? = some (.cells (cs.setIfInBounds i u) t fr) := by
 have hlt := lt_of_block' h
 have h' : w.heap[b] = .cells cs t fr := by simpa [Array.getElem?_eq_getElem hlt] using h
 show (w.heap.modify b _)[b]? = _
 rw [Array.getElem?_eq_getElem (by simpa using hlt), Array.getElem_modify_self, h']
 rfl
theorem heap_new (w : World) (o : Obj) : (w.alloc o).heap[w.heap.size]? = some o := by
 show (w.heap.push o)[w.heap.size]? = _
 simp
theorem heap_old {w : World} {o : Obj} {b : Nat} {p : Obj} (h : w.heap[b]? = some p) : (w.alloc o).heap[b]? = some p := by
 rw [Below.heap_alloc _ _ _ (lt_of_block' h)]; exact h
theorem setRow_alloc_old (w : World) (o : Obj) (g : Nat) (c : Array Value) (h : g < w.heap.size) : (w.alloc o).setRow g c = (w.setRow g c).alloc o := by
 simp only [World.setRow, World.alloc]
 congr 1
 apply Array.ext_getElem?
 intro i
 rw [Array.getElem?_modify, Array.getElem?_push, Array.getElem?_push, Array.getElem?_modify, Array.size_modify]
 by_cases h1 : i = w.heap.size
 ·have : ¬ g = i := by omega
  simp [h1]
  intro; omega
 ·simp [h1]

theorem wpList_load_row {P : Program} {ops : Array Oper} {rest : List Oper} {op : Oper} {a : Act} {w : World} {Q : Exit -> Act -> World -> Prop} (hgd : op.guard = none) (ty : TypeId) (x : Operand) (ho : op.op = .load ty x)
  (g : Nat) (hx : a.eval x = .pointer (some ⟨g, 0, none⟩)) (cs : Array Value) (t : TypeId) (fr : Nat × Nat) (hg : w.heap[g]? = some (.cells cs t fr)) (d : TypeDesc)
  (hu : P.underlying ty = some d) (hd : (match d with | .struct _ | .array _ _ => true | _ => false) = true) (hi : (P.info? ty).map (·.size) = some cs.size)
  (h : wpList P ops Q rest (a.put op.dst (.agg cs)) w) : wpList P ops Q (op :: rest) a w :=
 wpList_plain hgd fun _ hK => by
  unfold Oper.wp execOp
  simp only [ho, hx, Instr.loadAt, Instr.sureAddr, Sem.run_bind, Sem.run_pure, Result.andThen_ok, run_loadVar_row w g t ty cs fr d hg hu hd hi]
  exact hK _ _ h

theorem wpList_store_row {P : Program} {ops : Array Oper} {rest : List Oper} {op : Oper} {a : Act} {w : World} {Q : Exit -> Act -> World -> Prop} (hgd : op.guard = none) (ty : TypeId) (x y : Operand) (ho : op.op = .store ty x y)
  (g : Nat) (cells : Array Value) (hx : a.eval x = .pointer (some ⟨g, 0, none⟩)) (hy : a.eval y = .agg cells) (old : Array Value) (t : TypeId) (hg : w.heap[g]? = some (.cells old t (0, 0)))
  (hi : (P.info? ty).map (·.size) = some cells.size) (hs : old.size = cells.size) (h1 : cells.all (·.oneCell') = true) (w2 : World) (hw : w.setRow g cells = w2)
  (h : wpList P ops Q rest (a.put op.dst undef) w2) : wpList P ops Q (op :: rest) a w :=
 wpList_plain hgd fun _ hK => by
  unfold Oper.wp execOp
  simp only [ho, hx, hy, Instr.storeAt, Instr.sureAddr, Sem.run_bind, Sem.run_pure, Result.andThen_ok, run_storeVar_row w g t ty old cells hg hi hs h1]
  rw [hw]
  exact hK _ _ h
end Go.Proofs.YteknifnadbmfiaaGreatDoor.C

/- PROVED: Make answers the table of what eight steps make of each byte; two blocks more lie in memory. -/
namespace Go.Proofs.YteknifnadbmfiaaGreatDoor.C
set_option maxRecDepth 100000
open Go Go.RowKit

def tabL (k : Nat) : List Value := (List.range 256).map fun i => .int .u32 ((if i < k then e8 i else 0 : Nat) : Int)
def tabA (k : Nat) : Array Value := (tabL k).toArray
theorem tabA_size (k : Nat) : (tabA k).size = 256 := by simp [tabA, tabL]
theorem tabA_zero : tabA 0 = Array.replicate 256 (.int .u32 0) := by
 apply Array.ext_getElem?
 intro i
 simp only [tabA, tabL, List.getElem?_toArray, List.getElem?_map, Array.getElem?_replicate]
 by_cases h : i < 256
 ·simp [h]
 ·simp [h]
theorem tabA_at {k i : Nat} (h : i < 256) (hk : i < k) : (tabA k)[i]? = some (.int .u32 (e8 i : Nat)) := by
 simp [tabA, tabL, h, hk]
theorem tabA_not {k : Nat} (h : k < 256) : (tabA k)[k]? = some (.int .u32 0) := by
 simp [tabA, tabL, h]
theorem tabA_set {k : Nat} (h : k < 256) : (tabA k).setIfInBounds k (.int .u32 (e8 k : Nat)) = tabA (k + 1) := by
 apply Array.ext_getElem?
 intro i
 rw [Array.getElem?_setIfInBounds]
 by_cases hi : k = i
 ·subst hi
  simp [tabA, tabL, h]
 ·by_cases h2 : i < 256
  ·have : (i < k) ↔ (i < k + 1) := by omega
   simp [tabA, tabL, hi, h2, this]
  ·simp [tabA, tabL, hi, h2]
theorem tabA_one (k : Nat) : (tabA k).all (·.oneCell') = true := by
 simp [tabA, tabL, Value.oneCell']

theorem zeroT : (∀ w, (zeroValue 44).run Tryz.prog w = .ok (.agg (Array.replicate 256 (.int .u32 0))) w) /\ (Tryz.prog.info? 44).map (·.size) = some 256 :=
 zero_of_info (by kernel_rfl)

set_option maxRecDepth 100000 in
theorem make_c (w : World) :
  Calls Tryz.prog 12 #[] w fun e w' => e = .returned (.agg (tabA 256)) /\ w' = (w.alloc (.cells (tabA 256) 44)).alloc (.cells (tabA 256) 44) := by
 have hz := zeroT.1
 rw [<- tabA_zero] at hz
 go_enter Tryz.func12, Tryz.ntmps12
 go_wp2_with fail
 go_loopg [3] 256 (fun g s3 wx => ∃ i : Nat, i + g = 256 /\ s3 = .int .i64 i /\ wx = (w.alloc (.cells (tabA 0) 44)).alloc (.cells (tabA i) 44))
 case atStart => exact ⟨0, by omega, rfl, rfl⟩
 case round =>
  obtain ⟨i, hig, rfl, rfl⟩ := hrel
  cases gk with
  | zero =>
   obtain rfl : i = 256 := by omega
   have hb1 : ((w.alloc (.cells (tabA 0) 44)).alloc (.cells (tabA 256) 44)).heap[w.heap.size + 1]? = some (.cells (tabA 256) 44 (0, 0)) := by
    have := heap_new (w.alloc (.cells (tabA 0) 44)) (.cells (tabA 256) 44)
    simpa using this
   have hb0 : ((w.alloc (.cells (tabA 0) 44)).alloc (.cells (tabA 256) 44)).heap[w.heap.size]? = some (.cells (tabA 0) 44 (0, 0)) := heap_old (heap_new _ _)
   have hw2 : ((w.alloc (.cells (tabA 0) 44)).alloc (.cells (tabA 256) 44)).setRow w.heap.size (tabA 256) = (w.alloc (.cells (tabA 256) 44)).alloc (.cells (tabA 256) 44) := by
    rw [setRow_alloc_old _ _ _ _ (by simp), World.setRow_alloc_new]
   have hi24 : (Tryz.prog.info? 44).map (·.size) = some (tabA 256).size := by rw [tabA_size]; exact zeroT.2
   have H1 : Hid _ := hb1
   have H0 : Hid _ := hb0
   have HW : Hid _ := hw2
   have HI : Hid _ := hi24
   clear hb1 hb0 hw2 hi24
   go_wp2_with (first
    | (refine wpList_load_row rfl 44 (.tmp 1) rfl (w.heap.size + 1) (by rfl) (tabA 256) 44 (0, 0) H1.out _ Tryz.underlying44 rfl HI.out ?_)
    | (refine wpList_store_row rfl 44 (.tmp 0) (.tmp 12) rfl w.heap.size (tabA 256) (by rfl) (by rfl) (tabA 0) 44 H0.out HI.out (by rw [tabA_size, tabA_size]) (tabA_one _) _ HW.out ?_))
   have hld : (loadVar 44 ⟨w.heap.size, 0, none⟩).run Tryz.prog ((w.alloc (.cells (tabA 256) 44)).alloc (.cells (tabA 256) 44)) = .ok (.agg (tabA 256)) ((w.alloc (.cells (tabA 256) 44)).alloc (.cells (tabA 256) 44)) :=
    run_loadVar_row _ _ 44 44 (tabA 256) (0, 0) _ (heap_old (heap_new _ _)) Tryz.underlying44 rfl HI.out
   refine bodyPost_ret (v := .agg (tabA 256)) ?_ rfl ⟨rfl, rfl⟩
   simp [results, asAddr, hld]
  | succ g =>
   have hi : (i : Int) < 256 := by omega
   have hi32 : (i : Int) % 4294967296 = (i : Int) := by omega
   have hsz := tabA_size i
   have hset := @tabA_set i (by omega)
   have hcell := @tabA_not i (by omega)
   go_wp2_with (go_at_call 23; refine (eight_c _ (by omega) _).mono ?_; rintro e w' ⟨rfl, rfl⟩)
   go_roundg g
   case measure => omega
   case rel => exact ⟨i + 1, by omega, by go_num, rfl⟩
end Go.Proofs.YteknifnadbmfiaaGreatDoor.C

/- PROVED: More goes on with a sum as the document says, whatever the bytes, where the table lies in memory; so does Sum. -/
namespace Go.Proofs.YteknifnadbmfiaaGreatDoor.C
set_option maxRecDepth 100000
open Go Go.RowKit

theorem ofInt8 (a : Nat) (ha : a < 256) : (BitVec.ofInt 8 (a : Int)).toNat = a := by
 rw [BitVec.ofInt_natCast, BitVec.toNat_ofNat]; exact Nat.mod_eq_of_lt (by omega)
theorem wrap8 (n : Int) : IntKind.u8.wrap n = n % 256 := by simp [IntKind.wrap, IntKind.signed, IntKind.bits]
theorem xor8_lt {a b : Nat} (ha : a < 256) (hb : b < 256) : a ^^^ b < 256 := by
 have := @Nat.xor_lt_two_pow a b 8 (by omega) (by omega)
 omega
theorem xor8 (a b : Nat) (ha : a < 256) (hb : b < 256) : bits .xor .u8 (a : Int) (b : Int) = ((a ^^^ b : Nat) : Int) := by
 have hx := xor8_lt ha hb
 show IntKind.u8.wrap ((BitVec.ofInt 8 (a : Int) ^^^ BitVec.ofInt 8 (b : Int)).toNat : Int) = _
 rw [BitVec.toNat_xor, ofInt8 a ha, ofInt8 b hb, wrap8]
 omega

def TabIn (w : World) (b : Nat) (o : Nat := 0) : Prop := ∀ i, i < 256 -> w.cell? ⟨b, o + i, none⟩ = some (.int .u32 (e8 i : Nat))
theorem tabIn_of {w : World} {b : Nat} {t : TypeId} {fr : Nat × Nat} (h : w.heap[b]? = some (.cells (tabA 256) t fr)) : TabIn w b := fun i hi => by
 rw [Nat.zero_add, cells_of h, tabA_at hi hi]

def BytesAt (w : World) (v : Value) (xs : List Nat) : Prop :=
 (xs = [] /\ ∃ a c, v = .slice a 0 c) \/ ∃ b o c, v = .slice (some ⟨b, o, none⟩) xs.length c /\ ∀ i, i < xs.length -> w.cell? ⟨b, o + i, none⟩ = some (.int .u8 (xs.getD i 0 : Nat))

def ix (c x : Nat) : Nat := (c % 256) ^^^ x
theorem ix_lt (c : Nat) {x : Nat} (hx : x < 256) : ix c x < 256 := xor8_lt (by omega) hx
theorem ix_bits (c x : Nat) (hx : x < 256) : bits .xor .u8 ((c : Int) % 256) (x : Int) = (ix c x : Nat) := by
 have := xor8 (c % 256) x (by omega) hx
 unfold ix
 rw [<- this]
 rfl
theorem nx_bits (c x : Nat) (hc : c < 4294967296) (hx : x < 256) : bits .xor .u32 ((e8 (ix c x) : Nat) : Int) ((c : Int) / 256) = (nx c x : Nat) := by
 have h1 := e8_lt (c := ix c x) (by have := ix_lt c hx; omega)
 have := xor32 (e8 (ix c x)) (c / 256) h1 (by omega)
 rw [<- tab_step c x]
 unfold ix at this ⊢
 rw [<- this]
 rfl

theorem tn_bits (c : Nat) (hc : c < 4294967296) : bits .xor .u32 IntKind.u32.max (c : Int) = (tn c : Nat) := by
 have h1 : IntKind.u32.max = ((4294967295 : Nat) : Int) := by decide
 rw [h1, xor32 _ _ (by omega) hc, Nat.xor_comm, <- tn_xor hc]
theorem go_take {c : Nat} {xs : List Nat} {k : Nat} (h : k < xs.length) : go c (xs.take (k + 1)) = nx (go c (xs.take k)) (xs.getD k 0) := by
 rw [List.take_add_one, go_append, List.getD_eq_getElem?_getD, List.getElem?_eq_getElem h]
 rfl
theorem getD_mem_lt {xs : List Nat} (hx : ∀ x ∈ xs, x < 256) {k : Nat} (h : k < xs.length) : xs.getD k 0 < 256 := by
 rw [List.getD_eq_getElem?_getD, List.getElem?_eq_getElem h]
 exact hx _ (List.getElem_mem h)
theorem take_mem_lt {xs : List Nat} (hx : ∀ x ∈ xs, x < 256) (k : Nat) : ∀ x ∈ xs.take k, x < 256 := fun x h => hx x (List.mem_of_mem_take h)

theorem more_none {ot : Nat} (b : Nat) (c : Nat) (hc : c < 4294967296) (a : Option Addr) (c2 : Nat) (w : World) :
  Calls Tryz.prog 35 #[.pointer (some ⟨b, ot, none⟩), .int .u32 (c : Int), .slice a 0 c2] w fun e w' => e = .returned (.int .u32 (mr c [] : Nat)) /\ w' = w := by
 have h1 := tn_bits c hc
 have h2 := tn_bits (tn c) (tn_lt c)
 go_enter Tryz.func35, Tryz.ntmps35
 go_wp2_with fail
 go_loop [1, 13] (fun x i => i = .int .i64 0 /\ x = .int .u32 (tn c : Nat)) (fun _ i => (intOf i).toNat)
 case atStart => exact ⟨rfl, rfl⟩
 case round =>
  obtain ⟨rfl, rfl⟩ := hrel
  go_wp2
  go_ret
  exact ⟨rfl, rfl⟩

theorem more_some {ot : Nat} (b : Nat) (c : Nat) (hc : c < 4294967296) (bb o c2 : Nat) (xs : List Nat) (w : World) (ht : TabIn w b ot) (hcell : ∀ i, i < xs.length -> w.cell? ⟨bb, o + i, none⟩ = some (.int .u8 (xs.getD i 0 : Nat))) (hx : ∀ x ∈ xs, x < 256) (hl : xs.length <= 9223372036854775807) :
  Calls Tryz.prog 35 #[.pointer (some ⟨b, ot, none⟩), .int .u32 (c : Int), .slice (some ⟨bb, o, none⟩) xs.length c2] w fun e w' => e = .returned (.int .u32 (mr c xs : Nat)) /\ w' = w := by
 have h1 := tn_bits c hc
 have HT : Hid (TabIn w b ot) := ht
 have HC : Hid (∀ i, i < xs.length -> w.cell? ⟨bb, o + i, none⟩ = some (.int .u8 (xs.getD i 0 : Nat))) := hcell
 have HX : Hid (∀ x ∈ xs, x < 256) := hx
 clear ht hcell hx
 obtain ⟨n, hn⟩ : ∃ n, n = xs.length := ⟨_, rfl⟩
 rw [<- hn] at hl ⊢
 have HN : Hid (n = xs.length) := hn
 clear hn
 go_enter Tryz.func35, Tryz.ntmps35
 go_wp2_with fail
 go_loop [1, 13] (fun x i => ∃ k : Nat, k <= n /\ i = .int .i64 k /\ x = .int .u32 (go (tn c) (xs.take k) : Nat)) (fun _ i => n - (intOf i).toNat)
 case atStart => exact ⟨0, by omega, rfl, rfl⟩
 case round =>
  obtain ⟨k, hk, rfl, rfl⟩ := hrel
  have hd : go (tn c) (xs.take k) < 4294967296 := go_lt _ (tn_lt c) (take_mem_lt HX.out k)
  obtain ⟨d, hd'⟩ : ∃ d, d = go (tn c) (xs.take k) := ⟨_, rfl⟩
  rw [<- hd'] at hd ⊢
  have HD : Hid (d = go (tn c) (xs.take k)) := hd'
  clear hd'
  by_cases hlt : (k : Int) < (n : Int)
  ·have hk2 : k < xs.length := by have := HN.out; omega
   obtain ⟨x, hxe⟩ : ∃ x, x = xs.getD k 0 := ⟨_, rfl⟩
   have hx256 : x < 256 := by rw [hxe]; exact getD_mem_lt HX.out hk2
   have hc1 := HC.out k hk2
   rw [<- hxe] at hc1
   have HXE : Hid (x = xs.getD k 0) := hxe
   clear hxe
   have hc2 := HT.out (ix d x) (ix_lt d hx256)
   have hi1 := ix_bits d x hx256
   have hi2 : ((ix d x : Nat) : Int) < 256 := by have := ix_lt d hx256; omega
   have hn1 := nx_bits d x hd hx256
   have HK : Hid (k < xs.length) := hk2
   clear hk2
   go_wp2
   go_round
   case rel => exact ⟨k + 1, by omega, by go_num, by rw [go_take HK.out, <- HD.out, <- HXE.out]⟩
   case measure => simp [intOf]; omega
  ·have h2 := tn_bits d hd
   go_wp2
   go_ret
   refine ⟨ret_int ?_, rfl⟩
   have hkn : k = xs.length := by have := HN.out; omega
   rw [HD.out, hkn, List.take_length]
   rfl

theorem more_c {ot : Nat} (b : Nat) (c : Nat) (hc : c < 4294967296) (v : Value) (xs : List Nat) (w : World) (ht : TabIn w b ot) (hv : BytesAt w v xs) (hx : ∀ x ∈ xs, x < 256) (hl : xs.length <= 9223372036854775807) :
  Calls Tryz.prog 35 #[.pointer (some ⟨b, ot, none⟩), .int .u32 (c : Int), v] w fun e w' => e = .returned (.int .u32 (mr c xs : Nat)) /\ w' = w := by
 rcases hv with ⟨rfl, a, c2, rfl⟩ | ⟨bb, o, c2, rfl, hcell⟩
 ·exact more_none b c hc a c2 w
 ·exact more_some b c hc bb o c2 xs w ht hcell hx hl

theorem sum_c {ot : Nat} (b : Nat) (v : Value) (xs : List Nat) (w : World) (ht : TabIn w b ot) (hv : BytesAt w v xs) (hx : ∀ x ∈ xs, x < 256) (hl : xs.length <= 9223372036854775807) :
  Calls Tryz.prog 22 #[.pointer (some ⟨b, ot, none⟩), v] w fun e w' => e = .returned (.int .u32 (mr 0 xs : Nat)) /\ w' = w := by
 have hm := more_c b 0 (by omega) v xs w ht hv hx hl
 go_enter Tryz.func22, Tryz.ntmps22
 go_wp2_with (go_at_call 35; refine hm.mono ?_; rintro e w' ⟨rfl, rfl⟩)
 go_ret
 exact ⟨rfl, rfl⟩
end Go.Proofs.YteknifnadbmfiaaGreatDoor.C
