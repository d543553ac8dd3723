/- gz: qG8Wr. -/
import Derived.Test.YteknifnadbmfiaaGreatDoorqG3Hd
import Derived.Test.YteknifnadbmfiaaGreatDoorpKg00FPut
import Derived.Test.YteknifnadbmfiaaGreatDoorpAg04ISpec
import Derived.Laws.AppendOwnNone
import Derived.Lib.AtoiErrMem
import Derived.Lib.BytesEntry
namespace Go.Proofs.YteknifnadbmfiaaGreatDoor
set_option maxRecDepth 100000
open Go Go.RowKit
set_option linter.unusedVariables false

def sB (s : ByteArray) : List Int := s.data.toList.map fun b => (b.toNat : Int)
theorem sB_length (s : ByteArray) : (sB s).length = s.size := by unfold sB; rw [List.length_map, Array.length_toList]; rfl
theorem sB_mem (s : ByteArray) : ∀ x ∈ sB s, 0 <= x /\ x <= 255 := fun x hx => by
 obtain ⟨b, _, rfl⟩ := List.mem_map.1 hx
 have := b.toNat_lt
 omega
theorem nums_sB (s : ByteArray) : strOfNums (sB s) = s := by
 apply ByteArray.ext
 rw [<- Array.toList_inj]
 show (List.map (fun n : Int => UInt8.ofNat n.toNat) (s.data.toList.map fun b => (b.toNat : Int))) = s.data.toList
 rw [List.map_map]
 conv => rhs; rw [<- List.map_id s.data.toList]
 refine List.map_congr_left fun b _ => ?_
 simp
theorem sB_getD (s : ByteArray) {i : Nat} (h : i < s.size) : (sB s).getD i 0 = ((s.data.toList.getD i 0).toNat : Int) := by
 have h' : i < s.data.toList.length := by rw [Array.length_toList]; exact h
 simp only [sB, List.getD, List.getElem?_map, List.getElem?_eq_getElem h', Option.map_some, Option.getD_some]
theorem conv_str (s : ByteArray) (hs : s.size <= 1000000000000) (W : World) : ∃ c W7, (convert 9 24 (.string s)).run Tryz.prog W = .ok (.slice (some ⟨W.heap.size, 0, none⟩) s.size c) W7 /\ Bi W7 (W.heap.size + 1) (some ⟨W.heap.size, 0, none⟩) c (sB s) /\ Kept (fun _ => False) W W7 /\ W.heap.size < W7.heap.size := by
 have hc := Lib.run_convert_string_bytes (P := Tryz.prog) W 9 24 5 s (u := .string) Tryz.underlying9 Tryz.underlying24 Tryz.underlying5
 have hsz : W.heap.size < (Lib.bytesWorld W 5 s).heap.size := by rw [Lib.bytesWorld_size]; omega
 refine ⟨_, _, hc, ⟨⟨rfl, fun i => ?_, .inr ⟨W.heap.size, 0, by omega, rfl, fun i hi => ?_⟩⟩, ?_, by simp, ?_⟩, ?_, hsz⟩
 ·by_cases hi : i < (sB s).length
  ·have := sB_mem s (sB s)[i] (List.getElem_mem hi)
   simpa [List.getD, hi] using this
  ·simp [List.getD, List.getElem?_eq_none (Nat.not_lt.1 hi)]
 ·rw [sB_length] at hi
  rw [Nat.zero_add, Lib.bytesWorld_cell W 5 s i hi, sB_getD s hi]
 ·rw [sB_length]; exact grownCap_ge _ _ _ _
 ·exact Nat.le_trans (grownCap_le_maxLen _ _ _ _ (by unfold maxLen; omega)) (by unfold maxLen; omega)
 ·have := Kept.of_below (Lib.bytesWorld_below W 5 s)
  exact this.mono (fun i hi e => by omega)
def leP (v n : Nat) : List Int := (F.putN v n).map fun b => (b.toNat : Int)
theorem leP_length (v n : Nat) : (leP v n).length = n := by unfold leP; rw [List.length_map, F.putN_length]
theorem leP_mem (v n : Nat) : ∀ x ∈ leP v n, 0 <= x /\ x <= 255 := fun x hx => by
 obtain ⟨b, _, rfl⟩ := List.mem_map.1 hx
 have := b.toNat_lt
 omega
theorem own_leP {w : World} {s : Value} {B v n : Nat} (h : F.Own w s B (F.putN v n)) : OwnsB w B s (leP v n) := by
 have e : F.asB (F.putN v n) = (leP v n).map (Value.int .u8) := by simp [F.asB, leP]
 unfold OwnsB
 rw [leP_length, <- e]
 unfold F.Own at h
 rwa [F.putN_length] at h

structure Wt (base : Nat) (W : World) (bw : Nat) (g : Option Nat) (X : List Int) : Prop where
 h : ∃ v, W.heap[bw]? = some (.cells #[v] 39 (0, 0)) /\ OwnsB W base v X /\ v.ownBlock = g
 lt : base <= bw
structure LK (bw : Nat) (g : Option Nat) (W : World) (g' : Option Nat) (W' : World) : Prop where
 k : Kept (fun b => b = bw \/ some b = g) W W'
 n : g' = g \/ ∀ k, g' = some k -> W.heap.size <= k
theorem LK.refl (bw : Nat) (g : Option Nat) (W : World) : LK bw g W g W := ⟨Kept.refl _ _, .inl rfl⟩
theorem LK.trans {bw : Nat} {g g1 g2 : Option Nat} {W W1 W2 : World} (h : LK bw g W g1 W1) (k : LK bw g1 W1 g2 W2) : LK bw g W g2 W2 := by
 refine ⟨h.k.trans k.k (fun i hi e => ?_), ?_⟩
 ·rcases e with e | e
  ·exact .inl e
  ·rcases h.n with rfl | hn
   ·exact .inr e
   ·have := hn i e.symm; omega
 ·rcases k.n with rfl | kn
  ·exact h.n
  ·exact .inr fun j e => Nat.le_trans h.k.size (kn j e)
theorem LK.pre {bw : Nat} {g g' : Option Nat} {W W1 W2 : World} (h : Kept (fun _ => False) W W1) (k : LK bw g W1 g' W2) : LK bw g W g' W2 :=
 ⟨(h.mono (fun _ _ e => e.elim)).trans k.k (fun _ _ e => e), k.n.imp id (fun f j e => Nat.le_trans h.size (f j e))⟩
theorem Wt.kept {M : Nat -> Prop} {base : Nat} {W W' : World} {bw : Nat} {g : Option Nat} {X : List Int} (h : Wt base W bw g X) (k : Kept M W W') (h1 : ¬ M bw) (h2 : ∀ j, g = some j -> ¬ M j) : Wt base W' bw g X := by
 obtain ⟨v, hv, ho, hg⟩ := h.h
 exact ⟨⟨v, k.heap hv h1, ownsRow_kept ho k (fun j hj => h2 j (hg ▸ hj)), hg⟩, h.lt⟩
theorem Wt.stay {base : Nat} {W W' : World} {bw : Nat} {g : Option Nat} {X : List Int} (h : Wt base W bw g X) (k : Kept (fun _ => False) W W') : Wt base W' bw g X := h.kept k (fun e => e) (fun _ _ e => e)
theorem wt_ne : (5 : TypeId) ≠ 39 := by decide
theorem Wt.apart {base : Nat} {W : World} {bw : Nat} {g : Option Nat} {X : List Int} (h : Wt base W bw g X) : ∀ j, g = some j -> base <= j /\ j < W.heap.size /\ j ≠ bw := fun j hj => by
 obtain ⟨v, hv, ho, hg⟩ := h.h
 rw [<- hg] at hj
 have := ownsRow_lt ho hj
 refine ⟨this.1, this.2, fun e => ?_⟩
 rcases ho.2 with ⟨rfl, _⟩ | ⟨g', cap, cur, rfl, _, hh, _⟩
 ·simp [Value.ownBlock] at hj
 ·simp [Value.ownBlock] at hj
  subst hj
  subst e
  rw [hh] at hv
  simp only [Option.some.injEq, Obj.cells.injEq] at hv
  exact wt_ne hv.2.1
theorem wpList_appB {ops : Array Oper} {rest : List Oper} {o : Oper} {act : Act} {Q : Exit -> Act -> World -> Prop} (w : World) (hgd : o.guard = none) (s x : Operand)
  (ho : o.op = .call { callee := .builtin .append, args := #[s, x], argTypes := #[24, 24] })
  (base : Nat) (v : Value) (X : List Int) (hs : act.eval s = v) (hown : OwnsB w base v X) (a : Option Addr) (len cap : Nat) (hx : act.eval x = .slice a len cap) (B : Nat) (Y : List Int) (hb : Text B w a len Y)
  (hnone : a = none -> len = 0 /\ cap = 0) (hbound : X.length + len <= 140737488355328) (hbase : base <= w.heap.size)
  (h : ∀ v' w', OwnsB w' base v' (X ++ Y) -> w.grownBy w' v.ownBlock -> (v'.ownBlock = v.ownBlock \/ v'.ownBlock = some w.heap.size) -> wpList Tryz.prog ops Q rest (act.put o.dst v') w') : wpList Tryz.prog ops Q (o :: rest) act w := by
 obtain ⟨i5, hi5, hz5, hs5, hb5⟩ := info_parts Tryz.info5
 have hl := hb.1
 cases a with
 | none =>
  obtain ⟨rfl, rfl⟩ := hnone rfl
  have hY := List.eq_nil_of_length_eq_zero hl
  subst hY
  refine wpList_append_own_none hgd s x 24 ho base 5 i5 1 Tryz.underlying24 hi5 v X.length (X.map (Value.int .u8)) hs hown hx ?_
  exact h v w (by simpa using hown) ⟨rfl, rfl, rfl, Nat.le_refl _, fun _ _ _ => rfl⟩ (.inl rfl)
 | some ad =>
  refine wpList_append_own_at w hgd s x 24 ho base 5 i5 (.int .u8 0) 1 1 Tryz.underlying24 hi5 hz5 hs5 hb5 rfl (by decide) v X.length (X.map (Value.int .u8)) hs hown ad len cap (Y.map (Value.int .u8)) hx (by simp; exact hl) hb.src (bytes_one Y) (by unfold maxLen; omega) (by omega) hbase ?_
  intro v' w' h1 h2 _ h4
  refine h v' w' ?_ h2 h4
  unfold OwnsB
  rw [List.length_append, hl, List.map_append]
  exact h1
def LyOk (base : Nat) (W : World) (bw : Nat) (g : Option Nat) (X : List Int) (e : Ending) (W' : World) : Prop := e = .returned (.tuple #[]) /\ ∃ g', Wt base W' bw g' X /\ LK bw g W g' W'
theorem wt_grown {base : Nat} {W W1 : World} {bw : Nat} {v v' : Value} {X Y : List Int} (hv : W.heap[bw]? = some (.cells #[v] 39 (0, 0))) (ho : OwnsB W base v X) (hlt : base <= bw) (h1 : OwnsB W1 base v' Y) (hg : W.grownBy W1 v.ownBlock) (hat : v'.ownBlock = v.ownBlock \/ v'.ownBlock = some W.heap.size) :
  (W1.cell? ⟨bw, 0, none⟩ = some v /\ W1.frozen? ⟨bw, 0, none⟩ = false) /\ LyOk base W bw v.ownBlock Y (.returned (.tuple #[])) (W1.setCell ⟨bw, 0, none⟩ v') := by
 have hne : ∀ j, v.ownBlock = some j -> j ≠ bw := fun j hj => (Wt.apart ⟨⟨v, hv, ho, rfl⟩, hlt⟩ j hj).2.2
 have hb1 := (Kept.of_grown hg).heap hv (fun e => hne bw e.symm rfl)
 have k2 : Kept (fun b => b = bw) W1 (W1.setCell ⟨bw, 0, none⟩ v') := (Kept.refl (fun b => b = bw) W1).setCell (p := ⟨bw, 0, none⟩) (fun _ => rfl) _
 have hne' : ∀ j, v'.ownBlock = some j -> j ≠ bw := fun j hj e => by
  have hlt := lt_of_block hv
  rcases hat with h | h
  ·exact hne j (h ▸ hj) e
  ·rw [h] at hj; simp at hj; omega
 refine ⟨⟨(cells_of hb1 0).trans rfl, free_of hb1 0⟩, rfl, v'.ownBlock, ⟨⟨v', by rw [set_of hb1]; rfl, ownsRow_kept h1 k2 (fun j hj e => hne' j hj e), rfl⟩, hlt⟩, ?_, own_after hat⟩
 exact ((Kept.of_grown hg).mono (fun i _ e => .inr e)).trans k2 (fun i _ e => .inl e)
set_option maxHeartbeats 2000000 in
theorem wlay_c {base : Nat} {W : World} {bw : Nat} {g : Option Nat} {X Y : List Int} (h : Wt base W bw g X) (hbase : base <= W.heap.size) {a : Option Addr} {c B : Nat} (hb : Bi W B a c Y) (hl : X.length + Y.length <= 1000000000000) :
  Calls Tryz.prog 17 #[.pointer (some ⟨bw, 0, none⟩), .slice a Y.length c] W (LyOk base W bw g (X ++ Y)) := by
 obtain ⟨v, hv, ho, rfl⟩ := h.h
 have c0 := cells_of hv 0
 simp at c0
 have HV := hide hv
 have HO := hide ho
 have HB := hide hb
 have hlt := h.lt
 obtain ⟨a1, cp1, rfl⟩ := own_form ho
 clear h hv ho hb
 go_enter Tryz.func17, Tryz.ntmps17
 go_wp2_with (at_builtin; refine wpList_appB _ rfl (.tmp 8) (.tmp 9) rfl base _ X (by rfl) HO.out a Y.length c (by rfl) B Y HB.out.t (fun e => by have := HB.out.nil e; have := HB.out.le; omega) (by omega) hbase ?_; intro v' W1 o1 g1 t1; obtain ⟨a2, cp2, rfl⟩ := own_form o1; have Q1 := hide (wt_grown HV.out HO.out hlt o1 g1 t1); have q1 := Q1.out.1.1; have q2 := Q1.out.1.2; clear o1 g1 t1)
 go_end0
 have h9 := Q1.out.2
 rw [List.length_append] at h9
 exact h9
theorem LyOk.trans {base : Nat} {W W1 : World} {bw : Nat} {g g1 : Option Nat} {Y : List Int} (k : LK bw g W g1 W1) {e : Ending} {W2 : World} (h : LyOk base W1 bw g1 Y e W2) : LyOk base W bw g Y e W2 := by
 obtain ⟨rfl, g2, h2, k2⟩ := h
 exact ⟨rfl, g2, h2, k.trans k2⟩
theorem owns_bi' {w : World} {base : Nat} {s : Value} {d : List Int} (h : OwnsB w base s d) (hb : ∀ x ∈ d, 0 <= x /\ x <= 255) : ∃ a c, s = .slice a d.length c /\ Bi w w.heap.size a c d := by
 have hg : ∀ i, 0 <= d.getD i 0 /\ d.getD i 0 <= 255 := fun i => by
  by_cases hi : i < d.length
  ·simp only [List.getD, List.getElem?_eq_getElem hi, Option.getD_some]
   exact hb _ (List.getElem_mem hi)
  ·simp [List.getD, List.getElem?_eq_none (show d.length <= i by omega)]
 rcases h.2 with ⟨rfl, h0⟩ | ⟨g, cap, cur, rfl, hgb, hh, hc, hm, hr⟩
 ·have hd : d = [] := List.eq_nil_of_length_eq_zero h0
  subst hd
  exact ⟨none, 0, rfl, Bi.none (by omega) (fun _ => rfl)⟩
 ·refine ⟨_, cap, rfl, ⟨rfl, hg, .inr ⟨g, 0, lt_of_block hh, rfl, fun i hi => ?_⟩⟩, hc, by simp, by unfold maxLen at hm; omega⟩
  rw [Nat.zero_add, World.ownsRow.cellAt h i (by omega)]
  simp [List.getD, hi]
theorem kept_of_new {W W1 : World} (h : Below W.heap.size W W1) : Kept (fun _ => False) W W1 := (Kept.of_below h).mono (fun i hi e => by omega)
set_option maxHeartbeats 2000000 in
theorem wnumber_c {base : Nat} {W : World} {bw : Nat} {g : Option Nat} {X : List Int} (h : Wt base W bw g X) (hbase : base <= W.heap.size) (v n : Nat) (hv : v < 18446744073709551616) (hn : n <= 64) (hl : X.length <= 100000000000) :
  Calls Tryz.prog 19 #[.pointer (some ⟨bw, 0, none⟩), .int .u64 (v : Int), .int .i64 (n : Int)] W (LyOk base W bw g (X ++ leP v n)) := by
 have HP : Hid (Calls Tryz.prog 30 #[.int .u64 (v : Int), .int .i64 (n : Int)] W fun e W1 => ∃ a c, e = .returned (.slice a (leP v n).length c) /\ Calls Tryz.prog 17 #[.pointer (some ⟨bw, 0, none⟩), .slice a (leP v n).length c] W1 (LyOk base W bw g (X ++ leP v n))) := by
  refine (F.putLe_c v hv (n : Int) (by omega) W).mono ?_
  rw [show (min (n : Int) 64).toNat = n by omega]
  rintro e W1 ⟨s, rfl, ho, hb⟩
  obtain ⟨a, c, rfl, hbi⟩ := owns_bi' (own_leP ho) (leP_mem v n)
  refine ⟨a, c, rfl, (wlay_c (h.stay (kept_of_new hb)) (Nat.le_trans hbase hb.size) hbi (by rw [leP_length]; omega)).mono fun e W2 h2 => ?_⟩
  exact LyOk.trans (LK.pre (kept_of_new hb) (LK.refl _ _ _)) h2
 clear h
 go_enter Tryz.func19, Tryz.ntmps19
 go_wp2_with (first
  | (go_at_call 30; refine HP.out.mono ?_; rintro e W1 ⟨a, c, rfl, h1⟩; have H1 := hide h1; clear h1 HP)
  | (go_at_call 17; refine H1.out.mono ?_; rintro e W2 ⟨rfl, h2⟩; have H2 := hide h2; clear h2 H1))
 go_end0
 exact ⟨rfl, H2.out⟩
def txt (s : ByteArray) : List Int := if s.size = 0 then [] else sB s ++ [0]
theorem str_empty {s : ByteArray} (h : s.size = 0) : s = ⟨#[]⟩ := by
 apply ByteArray.ext
 exact Array.eq_empty_of_size_eq_zero h
theorem toList_ne {s : ByteArray} (h : s.size ≠ 0) : s.toList.isEmpty = false := by
 rw [Lib.toList_data]
 cases hd : s.data.toList with
 | nil => exact absurd (show s.size = 0 by have := congrArg List.length hd; simpa using this) h
 | cons x l => rfl
set_option maxHeartbeats 2000000 in
theorem wtext_c {base : Nat} {W : World} {bw : Nat} {g : Option Nat} {X : List Int} (h : Wt base W bw g X) (hbase : base <= W.heap.size) (s : ByteArray) (hs : s.size <= 100000000000) (hl : X.length <= 100000000000) :
  Calls Tryz.prog 20 #[.pointer (some ⟨bw, 0, none⟩), .string s] W (LyOk base W bw g (X ++ txt s)) := by
 by_cases h0 : s.size = 0
 ·have e : s = ⟨#[]⟩ := str_empty h0
  subst e
  have HR : Hid (LyOk base W bw g (X ++ txt ⟨#[]⟩) (.returned (.tuple #[])) W) := ⟨rfl, g, by rw [show txt ⟨#[]⟩ = [] from rfl, List.append_nil]; exact h, LK.refl _ _ _⟩
  clear h
  go_enter Tryz.func20, Tryz.ntmps20
  go_wp2_with fail
  go_end0
  exact HR.out
 ·have hne := toList_ne h0
  obtain ⟨c, W7, hcv, hb7, k7, z7⟩ := conv_str s (by omega) W
  rw [<- sB_length s] at hcv
  have HL1 := hide (wlay_c (h.stay k7) (Nat.le_trans hbase k7.size) hb7 (by rw [sB_length]; omega))
  have HL2 : Hid (∀ W2 g2, Wt base W2 bw g2 (X ++ sB s) -> LK bw g W g2 W2 -> Calls Tryz.prog 17 #[.pointer (some ⟨bw, 0, none⟩), .slice (some ⟨W2.heap.size, 0, none⟩) 1 1] (W2.alloc (.cells #[.int .u8 0] 5)) (LyOk base W bw g (X ++ txt s))) := fun W2 g2 h2 k2 => by
   have ka : Kept (fun _ => False) W2 (W2.alloc (.cells #[.int .u8 0] 5)) := Kept.alloc _ (Kept.refl _ W2) _
   have hbi : Bi (W2.alloc (.cells #[.int .u8 0] 5)) (W2.heap.size + 1) (some ⟨W2.heap.size, 0, none⟩) 1 [0] := by
    refine ⟨⟨rfl, fun i => ?_, .inr ⟨W2.heap.size, 0, by omega, rfl, fun i hi => ?_⟩⟩, by simp, by simp, by omega⟩
    ·rcases i with _ | i <;> simp
    ·have : i = 0 := by simpa using hi
     subst this
     rw [cells_of (heap_new W2 _)]; rfl
   have := wlay_c (h2.stay ka) (Nat.le_trans hbase (Nat.le_trans k2.k.size ka.size)) hbi (by simp [sB_length]; omega)
   refine this.mono fun e W3 h3 => ?_
   rw [show X ++ txt s = X ++ sB s ++ [0] by rw [txt, if_neg h0, List.append_assoc]]
   exact LyOk.trans k2 (LyOk.trans (LK.pre ka (LK.refl _ _ _)) h3)
  have HK7 := hide k7
  clear h hb7 k7
  go_enter Tryz.func20, Tryz.ntmps20
  go_wp2_with (first
   | (go_at_call 17; refine HL1.out.mono ?_; rintro e W2 ⟨rfl, g2, h2, k2⟩; have HL3 := hide (HL2.out W2 g2 h2 (LK.pre HK7.out k2)); clear h2 k2 HL1 HL2)
   | (go_at_call 17; refine HL3.out.mono ?_; rintro e W3 ⟨rfl, h3⟩; have H3 := hide h3; clear h3 HL3))
  go_end0
  exact ⟨rfl, H3.out⟩
end Go.Proofs.YteknifnadbmfiaaGreatDoor
