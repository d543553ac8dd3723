/- How many symbols each length has, as an array; whether a code is lone; the weight: contracts of count, isLone and weigh. -/
import Derived.Test.YteknifnadbmfiaaGreatDoorpAg02HMath
import Derived.Test.YteknifnadbmfiaaGreatDoorpAg00Row
import Derived.Deep.WholeRow
import Derived.Laws.ResultCell
import Derived.Deep.LoopGhost
namespace Go.Proofs.YteknifnadbmfiaaGreatDoor
set_option maxRecDepth 100000
open Go Go.RowKit

def Ints (lo hi : Nat) (w : World) (a : Option Addr) (ls : List Int) : Prop :=
 ls.length = 0 \/ ∃ b off, lo <= b /\ b < hi /\ b < w.heap.size /\ a = some ⟨b, off, none⟩ /\ ∀ i, i < ls.length -> w.cell? ⟨b, off + i, none⟩ = some (.int .i64 (ln ls i))

theorem Ints.kept {lo hi : Nat} {M : Nat -> Prop} {w w' : World} {a : Option Addr} {ls : List Int} (h : Ints lo hi w a ls) (k : Kept M w w') (hn : ∀ b, lo <= b -> b < hi -> ¬ M b) : Ints lo hi w' a ls := by
 rcases h with h | ⟨b, off, h1, h2, h3, ha, hc⟩
 ·exact .inl h
 ·exact .inr ⟨b, off, h1, h2, Nat.lt_of_lt_of_le h3 k.size, ha, fun i hi => (k.cell h3 (hn b h1 h2)).trans (hc i hi)⟩
theorem Ints.below {lo hi B : Nat} {w w' : World} {a : Option Addr} {ls : List Int} (h : Ints lo hi w a ls) (k : Below B w w') (hB : hi <= B) : Ints lo hi w' a ls :=
 h.kept (Kept.of_below k) (fun b _ h2 h3 => by omega)
theorem Ints.wide {lo hi lo' hi' : Nat} {w : World} {a : Option Addr} {ls : List Int} (h : Ints lo hi w a ls) (h1 : lo' <= lo) (h2 : hi <= hi') : Ints lo' hi' w a ls := by
 rcases h with h | ⟨b, off, k1, k2, r⟩
 ·exact .inl h
 ·exact .inr ⟨b, off, by omega, by omega, r⟩

theorem Ints.stay {lo hi : Nat} {w w' : World} {a : Option Addr} {ls : List Int} (h : Ints lo hi w a ls) (k : Below w.heap.size w w') : Ints lo hi w' a ls := by
 rcases h with h | ⟨b, off, h1, h2, h3, ha, hc⟩
 ·exact .inl h
 ·exact .inr ⟨b, off, h1, h2, Nat.lt_of_lt_of_le h3 k.size, ha, fun i hi => (k.cell (p := ⟨b, off + i, none⟩) h3).trans (hc i hi)⟩
theorem Ints.src {lo hi : Nat} {w : World} {a : Option Addr} {ls : List Int} (h : Ints lo hi w a ls) (h0 : 0 < ls.length) : ∃ ad, a = some ad /\ ∀ j u, (ls.map (Value.int .i64))[j]? = some u -> w.cell? (ad.add j) = some u := by
 obtain ⟨b, off, _, _, _, rfl, hc⟩ := h.resolve_left (by omega)
 refine ⟨_, rfl, fun j u hj => ?_⟩
 have hjl : j < ls.length := by
  rcases Nat.lt_or_ge j ls.length with h' | h'
  ·exact h'
  ·simp [List.getElem?_eq_none (show (ls.map (Value.int .i64)).length <= j by simpa using h')] at hj
 have e : ((⟨b, off, none⟩ : Addr).add j) = ⟨b, off + j, none⟩ := by unfold Addr.add; split <;> simp_all
 rw [e, hc j hjl]
 simp [hjl] at hj
 rw [<- hj]
 simp [ln, List.getD, hjl]

theorem lt_of_block' {w : World} {b : Nat} {o : Obj} (h : w.heap[b]? = some o) : b < w.heap.size := by
 rcases Nat.lt_or_ge b w.heap.size with h' | h'
 ·exact h'
 ·rw [Array.getElem?_eq_none h'] at h; simp at h
theorem heap_old {w : World} {o : Obj} {b : Nat} {p : Obj} (h : w.heap[b]? = some p) : (w.alloc o).heap[b]? = some p := by
 rw [Below.heap_alloc _ _ _ (lt_of_block' h)]; exact h
theorem setRow_alloc_old (w : World) (o : Obj) (g : Nat) (c : Array Value) (h : g < w.heap.size) : (w.alloc o).setRow g c = (w.setRow g c).alloc o := by
 simp only [World.setRow, World.alloc]
 congr 1
 apply Array.ext_getElem?
 intro i
 rw [Array.getElem?_modify, Array.getElem?_push, Array.getElem?_push, Array.getElem?_modify, Array.size_modify]
 by_cases h1 : i = w.heap.size
 ·have : ¬ g = i := by omega
  simp [h1]
  intro; omega
 ·simp [h1]
theorem wpList_load_row {P : Program} {ops : Array Oper} {rest : List Oper} {op : Oper} {a : Act} {w : World} {Q : Exit -> Act -> World -> Prop} (hgd : op.guard = none) (ty : TypeId) (x : Operand) (ho : op.op = .load ty x)
  (g : Nat) (hx : a.eval x = .pointer (some ⟨g, 0, none⟩)) (cs : Array Value) (t : TypeId) (fr : Nat × Nat) (hg : w.heap[g]? = some (.cells cs t fr)) (d : TypeDesc)
  (hu : P.underlying ty = some d) (hd : (match d with | .struct _ | .array _ _ => true | _ => false) = true) (hi : (P.info? ty).map (·.size) = some cs.size)
  (h : wpList P ops Q rest (a.put op.dst (.agg cs)) w) : wpList P ops Q (op :: rest) a w :=
 wpList_plain hgd fun _ hK => by
  unfold Oper.wp execOp
  simp only [ho, hx, Instr.loadAt, Instr.sureAddr, Sem.run_bind, Sem.run_pure, Result.andThen_ok, run_loadVar_row w g t ty cs fr d hg hu hd hi]
  exact hK _ _ h
theorem wpList_store_row {P : Program} {ops : Array Oper} {rest : List Oper} {op : Oper} {a : Act} {w : World} {Q : Exit -> Act -> World -> Prop} (hgd : op.guard = none) (ty : TypeId) (x y : Operand) (ho : op.op = .store ty x y)
  (g : Nat) (cells : Array Value) (hx : a.eval x = .pointer (some ⟨g, 0, none⟩)) (hy : a.eval y = .agg cells) (old : Array Value) (t : TypeId) (hg : w.heap[g]? = some (.cells old t (0, 0)))
  (hi : (P.info? ty).map (·.size) = some cells.size) (hs : old.size = cells.size) (h1 : cells.all (·.oneCell') = true) (w2 : World) (hw : w.setRow g cells = w2)
  (h : wpList P ops Q rest (a.put op.dst undef) w2) : wpList P ops Q (op :: rest) a w :=
 wpList_plain hgd fun _ hK => by
  unfold Oper.wp execOp
  simp only [ho, hx, hy, Instr.storeAt, Instr.sureAddr, Sem.run_bind, Sem.run_pure, Result.andThen_ok, run_storeVar_row w g t ty old cells hg hi hs h1]
  rw [hw]
  exact hK _ _ h

theorem wpList_load_row_if {P : Program} {ops : Array Oper} {rest : List Oper} {op : Oper} {a : Act} {w : World} {Q : Exit -> Act -> World -> Prop} (ty : TypeId) (x : Operand) (ho : op.op = .load ty x) (hw : Region.wanted op (yielded ops a.tmps) = true)
  (g : Nat) (hx : a.eval x = .pointer (some ⟨g, 0, none⟩)) (cs : Array Value) (t : TypeId) (fr : Nat × Nat) (hg : w.heap[g]? = some (.cells cs t fr)) (d : TypeDesc)
  (hu : P.underlying ty = some d) (hd : (match d with | .struct _ | .array _ _ => true | _ => false) = true) (hi : (P.info? ty).map (·.size) = some cs.size)
  (h : wpList P ops Q rest (a.put op.dst (.agg cs)) w) : wpList P ops Q (op :: rest) a w :=
 wpList_step fun _ hK => by
  rw [if_pos hw]
  unfold Oper.wp execOp
  simp only [ho, hx, Instr.loadAt, Instr.sureAddr, Sem.run_bind, Sem.run_pure, Result.andThen_ok, run_loadVar_row w g t ty cs fr d hg hu hd hi]
  exact hK _ _ h

def manyL (ls : List Int) : List Value := (List.range 16).map fun (k : Nat) => .int .i64 ((ls.count (k : Int) : Nat) : Int)
def manyA (ls : List Int) : Array Value := (manyL ls).toArray
theorem manyA_size (ls : List Int) : (manyA ls).size = 16 := by simp [manyA, manyL]
theorem manyA_nil : manyA [] = Array.replicate 16 (.int .i64 0) := by rfl
theorem manyA_at (ls : List Int) {k : Nat} (h : k < 16) : (manyA ls)[k]? = some (.int .i64 ((ls.count (k : Int) : Nat) : Int)) := by
 simp [manyA, manyL, h]
theorem manyA_one (ls : List Int) : (manyA ls).all (·.oneCell') = true := by
 simp [manyA, manyL, Value.oneCell']
theorem manyA_set (ls : List Int) (i x : Nat) (hi : i < ls.length) (hx : ln ls i = (x : Int)) (h15 : x < 16) : (manyA (ls.take i)).setIfInBounds x (.int .i64 (((ls.take i).count (x : Int) : Nat) + 1 : Int)) = manyA (ls.take (i + 1)) := by
 apply Array.ext_getElem?
 intro k
 rw [Array.getElem?_setIfInBounds]
 by_cases hk : k < 16
 ·rw [manyA_at (ls.take i) hk, manyA_at (ls.take (i + 1)) hk, take_count_succ ls i _ hi, hx]
  by_cases e : x = k
  ·subst e
   simp [manyA_size, h15]
  ·have : ¬ (x : Int) = (k : Int) := by omega
   simp [e, this]
 ·have e : x ≠ k := by omega
  simp [e, manyA, manyL, hk]
theorem zeroM : (∀ w, (zeroValue 156).run Tryz.prog w = .ok (.agg (manyA [])) w) /\ (Tryz.prog.info? 156).map (·.size) = some 16 := by
 rw [manyA_nil]
 exact zero_of_info (by kernel_rfl)
theorem infoM (ls : List Int) : (Tryz.prog.info? 156).map (·.size) = some (manyA ls).size := by rw [manyA_size]; exact zeroM.2

set_option maxRecDepth 100000 in
theorem count_yes (B : Nat) (a : Option Addr) (cap : Nat) (ls : List Int) (w : World) (hn : ls.length <= 320) (hf : Fit ls) (hi : Ints 0 B w a ls) :
  Calls Tryz.prog 83 #[.slice a ls.length cap] w fun e w' => e = .returned (.tuple #[.agg (manyA ls), .bool true]) /\ Below w.heap.size w w' := by
 have hz := zeroM.1
 go_enter Tryz.func83, Tryz.ntmps83
 go_wp2_with fail
 go_loopg [13] ls.length (fun g s3 wx => ∃ i : Nat, i + g = ls.length /\ s3 = .int .i64 i /\ wx = (w.alloc (.cells (manyA []) 156)).alloc (.cells (manyA (ls.take i)) 156))
 case atStart => exact ⟨0, by omega, rfl, by simp⟩
 case round =>
  obtain ⟨i, hig, rfl, rfl⟩ := hrel
  cases gk with
  | zero =>
   obtain rfl : i = ls.length := by omega
   rw [List.take_length]
   have hb1 : ((w.alloc (.cells (manyA []) 156)).alloc (.cells (manyA ls) 156)).heap[w.heap.size + 1]? = some (.cells (manyA ls) 156 (0, 0)) := by
    have := heap_new (w.alloc (.cells (manyA []) 156)) (.cells (manyA ls) 156)
    simpa using this
   have hb0 : ((w.alloc (.cells (manyA []) 156)).alloc (.cells (manyA ls) 156)).heap[w.heap.size]? = some (.cells (manyA []) 156 (0, 0)) := heap_old (heap_new _ _)
   have hw2 : ((w.alloc (.cells (manyA []) 156)).alloc (.cells (manyA ls) 156)).setRow w.heap.size (manyA ls) = (w.alloc (.cells (manyA ls) 156)).alloc (.cells (manyA ls) 156) := by
    rw [setRow_alloc_old _ _ _ _ (by simp), World.setRow_alloc_new]
   have H1 : Hid _ := hb1
   have H0 : Hid _ := hb0
   have HW : Hid _ := hw2
   have HI : Hid _ := infoM ls
   clear hb1 hb0 hw2
   go_wp2_with (first
    | (refine wpList_load_row rfl 156 (.tmp 4) rfl (w.heap.size + 1) (by rfl) (manyA ls) 156 (0, 0) H1.out _ Tryz.underlying156 rfl HI.out ?_)
    | (refine wpList_store_row rfl 156 (.tmp 2) (.tmp 30) rfl w.heap.size (manyA ls) (by rfl) (by rfl) (manyA []) 156 H0.out HI.out (by rw [manyA_size, manyA_size]) (manyA_one _) _ HW.out ?_))
   have hld : (loadVar 156 ⟨w.heap.size, 0, none⟩).run Tryz.prog ((w.alloc (.cells (manyA ls) 156)).alloc (.cells (manyA ls) 156)) = .ok (.agg (manyA ls)) ((w.alloc (.cells (manyA ls) 156)).alloc (.cells (manyA ls) 156)) :=
    run_loadVar_row _ _ 156 156 (manyA ls) (0, 0) _ (heap_old (heap_new _ _)) Tryz.underlying156 rfl HI.out
   refine bodyPost_ret (v := .tuple #[.agg (manyA ls), .bool true]) ?_ rfl ⟨rfl, ((Below.refl _ w).alloc (Nat.le_refl _) _).alloc (by simp) _⟩
   simp [results, asAddr, hld]
  | succ g =>
   obtain ⟨b, off, _, _, hb, rfl, hcell⟩ := hi.resolve_left (by omega)
   have hlt : i < ls.length := by omega
   have hc := hcell i hlt
   have hx := ln_fit hf i
   obtain ⟨x, hX⟩ := Int.eq_ofNat_of_zero_le hx.1
   have hset := manyA_set ls i x hlt hX (by omega)
   rw [hX] at hc hx
   have HX : Hid (ln ls i = (x : Int)) := hX
   clear hX hcell hi
   have hsz := manyA_size (ls.take i)
   have hat : ∀ h : x < (manyA (ls.take i)).size, (manyA (ls.take i))[x]'h = .int .i64 (((ls.take i).count (x : Int) : Nat) : Int) := fun h => by
    have := manyA_at (ls.take i) (show x < 16 by omega)
    rw [Array.getElem?_eq_getElem h] at this
    simpa using this
   have hx15 : x < 16 := by omega
   have hcnt : (ls.take i).count (x : Int) <= 320 := by have := take_count_le ls i (x : Int); have := List.count_le_length (a := (x : Int)) (l := ls); omega
   go_wp2
   go_roundg g
   case measure => omega
   case rel => exact ⟨i + 1, by omega, by go_num, by first | rfl | rw [hset]⟩

theorem setRow_zero (w : World) (ls : List Int) : ((w.alloc (.cells (manyA []) 156)).alloc (.cells (manyA ls) 156)).setRow w.heap.size (manyA []) = (w.alloc (.cells (manyA []) 156)).alloc (.cells (manyA ls) 156) := by
 rw [setRow_alloc_old _ _ _ _ (by simp), World.setRow_alloc_new]
theorem load_zero (w : World) (ls : List Int) : (loadVar 156 ⟨w.heap.size, 0, none⟩).run Tryz.prog ((w.alloc (.cells (manyA []) 156)).alloc (.cells (manyA ls) 156)) = .ok (.agg (manyA [])) ((w.alloc (.cells (manyA []) 156)).alloc (.cells (manyA ls) 156)) :=
 run_loadVar_row _ _ 156 156 (manyA []) (0, 0) _ (heap_old (heap_new _ _)) Tryz.underlying156 rfl (infoM [])

set_option maxRecDepth 100000 in
theorem count_no (B : Nat) (a : Option Addr) (cap : Nat) (ls : List Int) (w : World) (hn : 320 < ls.length \/ ¬ Fit ls) (hi : Ints 0 B w a ls) :
  Calls Tryz.prog 83 #[.slice a ls.length cap] w fun e w' => e = .returned (.tuple #[.agg (manyA []), .bool false]) /\ Below w.heap.size w w' := by
 have hz := zeroM.1
 have HI : Hid _ := infoM []
 have HB : ∀ l : List Int, Hid (Below w.heap.size w ((w.alloc (.cells (manyA []) 156)).alloc (.cells (manyA l) 156))) := fun l => ((Below.refl _ w).alloc (Nat.le_refl _) _).alloc (by simp) _
 have H0 : ∀ l : List Int, Hid (((w.alloc (.cells (manyA []) 156)).alloc (.cells (manyA l) 156)).heap[w.heap.size]? = some (.cells (manyA []) 156 (0, 0))) := fun l => heap_old (heap_new _ _)
 by_cases h3 : 320 < ls.length
 ·go_enter Tryz.func83, Tryz.ntmps83
  go_wp2_with (refine wpList_store_row rfl 156 (.tmp 2) (.tmp 10) rfl w.heap.size (manyA []) (by rfl) (by rfl) (manyA []) 156 (H0 []).out HI.out (by rw [manyA_size]) (manyA_one _) _ (setRow_zero w []) ?_)
  refine bodyPost_ret (v := .tuple #[.agg (manyA []), .bool false]) ?_ rfl ⟨rfl, (HB []).out⟩
  have hld := load_zero w []
  simp [results, asAddr, hld]
 ·have hf : ¬ Fit ls := hn.resolve_left h3
  have HF : Hid (¬ Fit ls) := hf
  have h3' : ls.length <= 320 := by omega
  clear hn hf h3
  go_enter Tryz.func83, Tryz.ntmps83
  go_wp2_with fail
  go_loopg [13] ls.length (fun g s3 wx => ∃ i : Nat, i + g = ls.length /\ s3 = .int .i64 i /\ (∀ j, j < i -> 0 <= ln ls j /\ ln ls j <= 15) /\ wx = (w.alloc (.cells (manyA []) 156)).alloc (.cells (manyA (ls.take i)) 156))
  case atStart => exact ⟨0, by omega, rfl, fun j h => absurd h (by omega), by simp⟩
  case round =>
   obtain ⟨i, hig, rfl, hsofar, rfl⟩ := hrel
   cases gk with
   | zero =>
    exfalso
    apply HF.out
    intro x hx
    obtain ⟨j, hj, rfl⟩ := List.getElem_of_mem hx
    have := hsofar j (by omega)
    simpa [ln, List.getD, hj] using this
   | succ g =>
    obtain ⟨b, off, _, _, hb, rfl, hcell⟩ := hi.resolve_left (by omega)
    have hlt : i < ls.length := by omega
    have hc := hcell i hlt
    have HSO : Hid (∀ j, j < i -> 0 <= ln ls j /\ ln ls j <= 15) := hsofar
    clear hcell hi hsofar
    by_cases hx0 : ln ls i < 0
    case' pos =>
     obtain ⟨X, hX⟩ : ∃ X, X = ln ls i := ⟨_, rfl⟩
     rw [<- hX] at hc hx0
     clear hX
     go_wp2_with (refine wpList_store_row rfl 156 (.tmp 2) (.tmp 23) rfl w.heap.size (manyA []) (by rfl) (by rfl) (manyA []) 156 (H0 _).out HI.out (by rw [manyA_size]) (manyA_one _) _ (setRow_zero w _) ?_)
    case' neg =>
     by_cases hx1 : 15 < ln ls i
     case' pos =>
      obtain ⟨X, hX⟩ : ∃ X, X = ln ls i := ⟨_, rfl⟩
      rw [<- hX] at hc hx0 hx1
      have hx0' : 0 <= X := by omega
      clear hX hx0
      go_wp2_with (refine wpList_store_row rfl 156 (.tmp 2) (.tmp 23) rfl w.heap.size (manyA []) (by rfl) (by rfl) (manyA []) 156 (H0 _).out HI.out (by rw [manyA_size]) (manyA_one _) _ (setRow_zero w _) ?_)
     case' neg =>
      obtain ⟨x, hX⟩ := Int.eq_ofNat_of_zero_le (show 0 <= ln ls i by omega)
      have hset := manyA_set ls i x hlt hX (by omega)
      rw [hX] at hc hx0 hx1
      have HX : Hid (ln ls i = (x : Int)) := hX
      clear hX
      have hsz := manyA_size (ls.take i)
      have hx15 : x < 16 := by omega
      have hat : ∀ h : x < (manyA (ls.take i)).size, (manyA (ls.take i))[x]'h = .int .i64 (((ls.take i).count (x : Int) : Nat) : Int) := fun h => by
       have := manyA_at (ls.take i) hx15
       rw [Array.getElem?_eq_getElem h] at this
       simpa using this
      have hcnt : (ls.take i).count (x : Int) <= 320 := by have := take_count_le ls i (x : Int); have := List.count_le_length (a := (x : Int)) (l := ls); omega
      clear hx0 hx1
      go_wp2
      go_roundg g
      case measure => omega
      case rel =>
       refine ⟨i + 1, by omega, by go_num, fun j hj => ?_, by first | rfl | rw [hset]⟩
       by_cases e : j = i
       ·subst e; rw [HX.out]; omega
       ·exact HSO.out j (by omega)
    all_goals
     refine bodyPost_ret (v := .tuple #[.agg (manyA []), .bool false]) ?_ rfl ⟨rfl, (HB _).out⟩
     have hld := load_zero w (ls.take i)
     simp [results, asAddr, hld]

theorem ct_le (ls : List Int) (n : Nat) : ct ls n <= ls.length := by
 cases n with
 | zero => simp [ct]
 | succ n => exact List.count_le_length
theorem manyA_ct (ls : List Int) {k : Nat} (h : k < 16) (h1 : 1 <= k) : (manyA ls)[k]? = some (.int .i64 (ct ls k : Int)) := by
 rw [manyA_at ls h, ct_eq ls k h1]
theorem manyA_get (ls : List Int) {k : Nat} (h : k < 16) (h1 : 1 <= k) : ∀ h : k < (manyA ls).size, (manyA ls)[k]'h = .int .i64 (ct ls k : Int) := fun h' => by
 have := manyA_ct ls h h1
 rw [Array.getElem?_eq_getElem h'] at this
 simpa using this
theorem sh_le (ls : List Int) (hn : ls.length <= 320) (n : Nat) (h : n <= 15) : sh ls n <= n * 320 := by
 induction n with
 | zero => simp [sh]
 | succ n ih => have := ih (by omega); have := ct_le ls (n + 1); rw [sh]; omega
def loneB (ls : List Int) : Bool := decide (sh ls 15 = 0) || (decide (sh ls 15 = 1) && decide (ct ls 1 = 1))

set_option maxRecDepth 100000 in
theorem lone_any (ls : List Int) (w : World) (hn : ls.length <= 320) :
  Calls Tryz.prog 112 #[.agg (manyA ls)] w fun e w' => e = .returned (.bool (loneB ls)) /\ w' = w.alloc (.cells (manyA ls) 156) := by
 have hsz := manyA_size ls
 have HN : Hid (loneB ls = (decide (sh ls 15 = 0) || (decide (sh ls 15 = 1) && decide (ct ls 1 = 1)))) := rfl
 generalize loneB ls = LB at HN
 go_enter Tryz.func112, Tryz.ntmps112
 go_wp2
 go_loop [3, 8] (fun s i => ∃ k : Nat, k <= 15 /\ i = .int .i64 k /\ s = .int .i64 (sh ls k : Int)) (fun _ i => 15 - (intOf i).toNat)
 case atStart => exact ⟨0, by omega, rfl, rfl⟩
 case round =>
  obtain ⟨k, hk, rfl, rfl⟩ := hrel
  have hs := sh_le ls hn k hk
  by_cases hlt : k < 15
  ·have hg := manyA_ct ls (show 1 + k < 16 by omega) (by omega)
   have hc := ct_le ls (k + 1)
   have hc' := ct_le ls (1 + k)
   have HS : Hid (sh ls (k + 1) = sh ls k + ct ls (k + 1)) := rfl
   have hcc : ct ls (1 + k) = ct ls (k + 1) := by rw [Nat.add_comm]
   go_wp2
   go_round
   case rel => exact ⟨k + 1, by omega, by go_num, by rw [HS.out]; push_cast; rfl⟩
   case measure => simp [intOf]; omega
  ·obtain rfl : k = 15 := by omega
   have hg := manyA_get ls (show 1 < 16 by omega) (by omega)
   have hct := ct_le ls 1
   generalize sh ls 15 = S at HN hs ⊢
   generalize ct ls 1 = C at HN hg hct
   rcases S with _ | _ | S
   ·have hLB : LB = true := by rw [HN.out]; simp
    subst hLB
    go_wp2
    go_ret
    exact ⟨rfl, rfl⟩
   ·have hLB : LB = ((C : Int) == 1) := by rw [HN.out, Bool.eq_iff_iff]; simp; omega
    subst hLB
    go_wp2
    go_ret
    exact ⟨rfl, rfl⟩
   ·have hLB : LB = false := by rw [HN.out]; simp
    subst hLB
    have q0 : (((S + 1 + 1 : Nat) : Int) == 0) = false := by simp; omega
    have q1 : (((S + 1 + 1 : Nat) : Int) == 1) = false := by simp; omega
    generalize ((S + 1 + 1 : Nat) : Int) = T at q0 q1 ⊢
    have q0' : ¬ T = 0 := by simpa using q0
    have q1' : ¬ T = 1 := by simpa using q1
    go_wp2
    go_ret
    exact ⟨by simp, rfl⟩

theorem ws_le (ls : List Int) (hn : ls.length <= 320) (n : Nat) (h : n <= 15) : ws ls n <= n * 10485760 := by
 induction n with
 | zero => simp [ws]
 | succ n ih =>
  have := ih (by omega)
  have c := ct_le ls (n + 1)
  have p : 2 ^ (15 - (n + 1)) <= 2 ^ 15 := Nat.pow_le_pow_right (by decide) (by omega)
  have m : ct ls (n + 1) * 2 ^ (15 - (n + 1)) <= 320 * 2 ^ 15 := Nat.mul_le_mul (by omega) p
  rw [ws]; omega
def amiss (ls : List Int) (lone : Bool) : Int := if 32768 < ws ls 15 then 40 else if ws ls 15 < 32768 /\ ¬ (lone = true /\ loneB ls = true) then 41 else 0

set_option maxRecDepth 100000 in
theorem weigh_any (ls : List Int) (lone : Bool) (w : World) (hn : ls.length <= 320) :
  Calls Tryz.prog 84 #[.agg (manyA ls), .bool lone] w fun e w' => e = .returned (.int .i64 (amiss ls lone)) /\ Below w.heap.size w w' := by
 have hsz := manyA_size ls
 have HI : Hid _ := infoM ls
 have HB : Hid (Below w.heap.size w (w.alloc (.cells (manyA ls) 156))) := (Below.refl _ w).alloc (Nat.le_refl _) _
 have HA : Hid (amiss ls lone = if 32768 < ws ls 15 then 40 else if ws ls 15 < 32768 /\ ¬ (lone = true /\ loneB ls = true) then 41 else 0) := rfl
 generalize amiss ls lone = AM at HA ⊢
 have HL : ∀ W, Hid (Calls Tryz.prog 112 #[.agg (manyA ls)] W fun e w' => e = .returned (.bool (loneB ls)) /\ w' = W.alloc (.cells (manyA ls) 156)) := fun W => lone_any ls W hn
 generalize loneB ls = LB at HA HL
 have HG : ∀ k, k < 15 -> Hid ((manyA ls)[k + 1]? = some (.int .i64 (ct ls (k + 1) : Int))) := fun k hk => manyA_ct ls (by omega) (by omega)
 generalize manyA ls = MA at *
 go_enter Tryz.func84, Tryz.ntmps84
 go_wp2
 go_loop [5, 6] (fun s i => ∃ k : Nat, k <= 15 /\ i = .int .i64 ((k : Int) + 1) /\ s = .int .i64 (ws ls k : Int)) (fun _ i => 16 - (intOf i).toNat)
 case atStart => exact ⟨0, by omega, rfl, rfl⟩
 case round =>
  obtain ⟨k, hk, rfl, rfl⟩ := hrel
  have hs := ws_le ls hn k hk
  by_cases hlt : k < 15
  ·have hg := (HG k hlt).out
   have hc := ct_le ls (k + 1)
   have hs1 := ws_le ls hn (k + 1) (by omega)
   obtain ⟨P, hP⟩ : ∃ P : Nat, P = ct ls (k + 1) * 2 ^ (15 - (k + 1)) := ⟨_, rfl⟩
   have HS : Hid (ws ls (k + 1) = ws ls k + P) := by rw [hP]; rfl
   have hp : P <= 10485760 := by
    have p : 2 ^ (15 - (k + 1)) <= 2 ^ 15 := Nat.pow_le_pow_right (by decide) (by omega)
    have m : ct ls (k + 1) * 2 ^ (15 - (k + 1)) <= 320 * 2 ^ 15 := Nat.mul_le_mul (by omega) p
    omega
   have hpi : ((ct ls (k + 1) : Int)) * 2 ^ (15 - ((k : Int) + 1)).toNat = (P : Int) := by
    rw [hP, show (15 - ((k : Int) + 1)).toNat = 15 - (k + 1) by omega]; push_cast; rfl
   clear hP
   go_wp2
   go_round
   case rel => exact ⟨k + 1, by omega, by go_num, by rw [HS.out]; push_cast; rfl⟩
   case measure => simp [intOf]; omega
  ·obtain rfl : k = 15 := by omega
   generalize ws ls 15 = S at HA hs ⊢
   rcases Nat.lt_trichotomy S 32768 with hlt | heq | hgt
   ·have hlt' : (S : Int) < 32768 := by omega
    have hnn : ¬ 32768 < S := by omega
    cases lone with
    | false =>
     have : AM = 41 := by rw [HA.out]; simp [hnn, hlt]
     subst this
     clear HA hnn hlt hs
     generalize (S : Int) = T at hlt' ⊢
     go_wp2
     go_ret
     exact ⟨rfl, HB.out⟩
    | true =>
     have HB2 : Hid (Below w.heap.size w ((w.alloc (.cells MA 156)).alloc (.cells MA 156))) := HB.out.alloc (by simp) _
     cases LB with
     | true =>
      have : AM = 0 := by rw [HA.out]; simp [hnn]
      subst this
      clear HA hnn hlt hs
      generalize (S : Int) = T at hlt' ⊢
      go_wp2_with (first
       | (refine wpList_load_row_if 156 (.tmp 2) rfl (by rfl) w.heap.size (by rfl) MA 156 (0, 0) (heap_new _ _) _ Tryz.underlying156 rfl HI.out ?_)
       | (go_at_call 112; refine (HL _).out.mono ?_; rintro e w' ⟨rfl, rfl⟩))
      go_ret
      exact ⟨rfl, HB2.out⟩
     | false =>
      have : AM = 41 := by rw [HA.out]; simp [hnn, hlt]
      subst this
      clear HA hnn hlt hs
      generalize (S : Int) = T at hlt' ⊢
      go_wp2_with (first
       | (refine wpList_load_row_if 156 (.tmp 2) rfl (by rfl) w.heap.size (by rfl) MA 156 (0, 0) (heap_new _ _) _ Tryz.underlying156 rfl HI.out ?_)
       | (go_at_call 112; refine (HL _).out.mono ?_; rintro e w' ⟨rfl, rfl⟩))
      go_ret
      exact ⟨rfl, HB2.out⟩
   ·subst heq
    have : AM = 0 := by rw [HA.out]; simp
    subst this
    go_wp2
    go_ret
    exact ⟨rfl, HB.out⟩
   ·have hgt' : 32768 < (S : Int) := by omega
    have : AM = 40 := by rw [HA.out]; simp [hgt]
    subst this
    go_wp2
    go_ret
    exact ⟨rfl, HB.out⟩
end Go.Proofs.YteknifnadbmfiaaGreatDoor
