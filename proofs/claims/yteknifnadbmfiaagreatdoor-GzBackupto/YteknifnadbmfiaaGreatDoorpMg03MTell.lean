/- Several texts, laid together: MFind, MRight, MFindW, MTell. -/
import Derived.Test.YteknifnadbmfiaaGreatDoorpMRunW
import Derived.Test.YteknifnadbmfiaaGreatDoorpMg01MRun
import Derived.Test.YteknifnadbmfiaaGreatDoorpMg00MSlot
import Derived.Laws.BytesArg
/- Bytes alone; Find: contracts. -/
namespace Go.Proofs.YteknifnadbmfiaaGreatDoor.M
set_option maxRecDepth 100000
open Go Go.RowKit

theorem wpList_push {ops : Array Oper} {rest : List Oper} {o : Oper} {act : Act} {Q : Exit -> Act -> World -> Prop} (w : World) (hgd : o.guard = none) (s x : Operand)
  (ho : o.op = .call { callee := .builtin .append, args := #[s, x], argTypes := #[79, 79] })
  (base : Nat) (v : Value) (X : List Tk) (hs : act.eval s = v) (hown : OwnsT w base v X) (t : Tk) (ad : Nat) (hx : act.eval x = .slice (some ⟨ad, 0, none⟩) 1 1)
  (hc : ∀ j u, ([.int .u8 t.1, .int .i64 t.2.1, .int .i64 t.2.2] : List Value)[j]? = some u -> w.cell? ((⟨ad, 0, none⟩ : Addr).add j) = some u) (hb : X.length <= 1000000000) (hbase : base <= w.heap.size)
  (h : ∀ a' cap' w', OwnsT w' base (.slice a' (X.length + 1) cap') (X ++ [t]) -> w.grownBy w' v.ownBlock -> wpList Tryz.prog ops Q rest (act.put o.dst (.slice a' (X.length + 1) cap')) w') : wpList Tryz.prog ops Q (o :: rest) act w := by
 obtain ⟨i, hi, hz, hsz, hby⟩ := info_parts Tryz.infoTok
 refine wpList_append_own w hgd s x 79 ho base 109 i _ 3 24 Tryz.underlying79 hi hz hsz hby rfl (by decide) v X.length (tc X) hs hown ⟨ad, 0, none⟩ 1 1 [.int .u8 t.1, .int .i64 t.2.1, .int .i64 t.2.2] hx rfl hc (by intro u hu; simp at hu; rcases hu with rfl | rfl | rfl <;> rfl) (by unfold maxLen; omega) (by omega) hbase ?_
 intro v' w' h1 h2 _
 have h3 : OwnsT w' base v' (X ++ [t]) := OwnsT.push h1
 obtain ⟨a', cap', rfl, _⟩ := h3.form
 rw [List.length_append, List.length_singleton] at h3 ⊢
 exact h a' cap' w' h3 h2

def alT (zs : List Int) : List Tk := zs.map fun b => (b, 0, 0)
theorem alT_length (zs : List Int) : (alT zs).length = zs.length := by simp [alT]
theorem alT_at (zs : List Int) {i : Nat} (h : i < zs.length) : tk (alT zs) i = (ln zs i, 0, 0) := by rw [tk_in (by rw [alT_length]; exact h)]; simp [alT, ln_in h]
theorem alT_rt (zs : List Int) : Rt (alT zs) := fun j hj => by rw [alT_length] at hj; rw [alT_at zs hj]; exact ok_byte _ _
theorem alT_tel (zs : List Int) : ∀ i, i <= zs.length -> tel ((alT zs).take i) = zs.take i := by
 intro i
 induction i with
 | zero => intro _; simp [tel]
 | succ i ih =>
  intro h
  rw [tk_take_snoc (by rw [alT_length]; omega), tel_snoc, ih (by omega), alT_at zs (by omega), take_snoc (by omega)]
  simp [tel1]
theorem alT_tell (zs : List Int) : tel (alT zs) = zs := by
 have := alT_tel zs zs.length (Nat.le_refl _)
 rw [List.take_length, <- alT_length zs, List.take_length] at this
 exact this
theorem alT_bt {zs : List Int} (hz : ∀ i, 0 <= ln zs i /\ ln zs i <= 255) : Bt (alT zs) := fun i => by
 rcases Nat.lt_or_ge i zs.length with h | h
 ·rw [alT_at zs h]; exact hz i
 ·unfold tk List.getD; rw [List.getElem?_eq_none (by rw [alT_length]; exact h)]; simp
def alF (zs : List Int) (i : Nat) : List Tk := (List.range zs.length).map fun j => if j < i then (ln zs j, 0, 0) else (0, 0, 0)
theorem alF_length (zs : List Int) (i : Nat) : (alF zs i).length = zs.length := by simp [alF]
theorem alF_zero (zs : List Int) : alF zs 0 = List.replicate zs.length (0, 0, 0) := by
 apply List.ext_getElem?
 intro k
 by_cases h : k < zs.length
 ·simp [alF, h]
 ·simp [alF, h]
theorem alF_all (zs : List Int) : alF zs zs.length = alT zs := by
 apply List.ext_getElem?
 intro k
 by_cases h : k < zs.length
 ·simp [alF, alT, h, ln_in h]
 ·simp [alF, alT, h]
theorem alF_set (zs : List Int) (i : Nat) (h : i < zs.length) : (alF zs i).set i (ln zs i, 0, 0) = alF zs (i + 1) := by
 apply List.ext_getElem?
 intro k
 rw [List.getElem?_set, alF_length]
 by_cases e : i = k
 ·subst e; simp [alF, h]
 ·rw [if_neg e]
  by_cases hk : k < zs.length
  ·have : k < i ↔ k < i + 1 := by omega
   simp [alF, hk, this]
  ·simp [alF, hk]
theorem alF_at (zs : List Int) (i : Nat) (h : i < zs.length) : tk (alF zs i) i = (0, 0, 0) := by
 rw [tk_in (by rw [alF_length]; exact h)]; simp [alF]
def TRo (g : Nat) (xs : List Tk) (w : World) : Prop := w.heap[g]? = some (.cells (tc xs).toArray 109 (0, 0))
theorem tc_set (xs : List Tk) (i : Nat) (t : Tk) (h : i < xs.length) : (((tc xs).set (i * 3) (.int .u8 t.1)).set (i * 3 + 1) (.int .i64 t.2.1)).set (i * 3 + 2) (.int .i64 t.2.2) = tc (xs.set i t) := by
 induction xs generalizing i with
 | nil => simp at h
 | cons x xs ih =>
  cases i with
  | zero => simp [tc_cons]
  | succ i =>
   have := ih i (by simpa using h)
   rw [List.set_cons_succ, tc_cons, tc_cons, <- this, show (i + 1) * 3 = i * 3 + 3 by omega]
   simp
theorem tc_set0 (xs : List Tk) (i : Nat) (b : Int) (h : i < xs.length) : (tc xs).set (i * 3) (.int .u8 b) = tc (xs.set i (b, (tk xs i).2.1, (tk xs i).2.2)) := by
 rw [<- tc_set xs i _ h]
 obtain ⟨_, h2, h3⟩ := tc_at xs h
 apply List.ext_getElem?
 intro k
 rw [List.getElem?_set (i := i * 3 + 2), List.getElem?_set (i := i * 3 + 1)]
 have hl : i * 3 + 3 <= (tc xs).length := by rw [tc_length]; omega
 by_cases e2 : i * 3 + 2 = k
 ·subst e2
  rw [if_pos rfl, if_pos (by simp; omega), List.getElem?_set, if_neg (by omega), h3]
 ·rw [if_neg e2]
  by_cases e1 : i * 3 + 1 = k
  ·subst e1
   rw [if_pos rfl, if_pos (by simp; omega), List.getElem?_set, if_neg (by omega), h2]
  ·rw [if_neg e1]
theorem TRo.set0 {g : Nat} {xs : List Tk} {w : World} (h : TRo g xs w) {i : Nat} (hi : i < xs.length) (b : Int) : TRo g (xs.set i (b, (tk xs i).2.1, (tk xs i).2.2)) (w.setCell ⟨g, i * 3, none⟩ (.int .u8 b)) := by
 unfold TRo at h ⊢
 rw [set_of h, <- tc_set0 xs i b hi]
 simp
theorem TRo.cell {g : Nat} {xs : List Tk} {w : World} (h : TRo g xs w) {i : Nat} (hi : i < xs.length) : w.cell? ⟨g, i * 3, none⟩ = some (.int .u8 (tk xs i).1) := by
 rw [cells_of h]
 have := (tc_at xs hi).1
 simpa using this
theorem TRo.owns {g : Nat} {xs : List Tk} {w : World} (h : TRo g xs w) {base : Nat} (hb : base <= g) (hl : xs.length <= 1000000000) : OwnsT w base (.slice (some ⟨g, 0, none⟩) xs.length xs.length) xs := by
 refine ⟨by rw [tc_length], .inr ⟨g, xs.length, (tc xs).toArray, rfl, hb, h, Nat.le_refl _, by unfold maxLen; omega, by simp [tc_length], ?_⟩⟩
 rw [<- tc_length]; simp
theorem tc_zero (n : Nat) : madeCells (Value.agg #[.int .u8 0, .int .i64 0, .int .i64 0]).cells (n * 3) = (tc (List.replicate n (0, 0, 0))).toArray := by
 apply Array.ext_getElem?
 intro j
 by_cases h : j < n * 3
 ·have hd : j = (j / 3) * 3 + j % 3 := by omega
  have hj3 : j / 3 < n := by omega
  obtain ⟨h0, h1, h2⟩ := tc_at (List.replicate n ((0 : Int), (0 : Int), (0 : Int))) (i := j / 3) (by simp; omega)
  have ht : tk (List.replicate n ((0 : Int), (0 : Int), (0 : Int))) (j / 3) = (0, 0, 0) := by rw [tk_in (by simp; omega)]; simp
  rw [ht] at h0 h1 h2
  have hm : j % 3 = 0 \/ j % 3 = 1 \/ j % 3 = 2 := by omega
  have e : ((tc (List.replicate n ((0 : Int), (0 : Int), (0 : Int)))).toArray)[j]? = (tc (List.replicate n ((0 : Int), (0 : Int), (0 : Int))))[j]? := by simp
  rw [e]
  clear e
  rcases hm with hm | hm | hm
  ·rw [show (tc (List.replicate n ((0 : Int), (0 : Int), (0 : Int))))[j]? = some (.int .u8 0) by rw [hd, hm]; exact h0]
   simp [madeCells, Value.cells, h, hm]
  ·rw [show (tc (List.replicate n ((0 : Int), (0 : Int), (0 : Int))))[j]? = some (.int .i64 0) by rw [hd, hm]; exact h1]
   simp [madeCells, Value.cells, h, hm]
  ·rw [show (tc (List.replicate n ((0 : Int), (0 : Int), (0 : Int))))[j]? = some (.int .i64 0) by rw [hd, hm]; exact h2]
   simp [madeCells, Value.cells, h, hm]
 ·rw [Array.getElem?_eq_none (by rw [size_madeCells]; omega), Array.getElem?_eq_none (by simp [tc_length]; omega)]
theorem made_toks (n : Nat) (hn : n <= 1000000000) (W : World) :
  (Instr.makeSlice 79 (.int .i64 (n : Int)) (.int .i64 (n : Int))).run Tryz.prog W = .ok (.slice (some ⟨W.heap.size, 0, none⟩) n n) (W.alloc (.cells (tc (List.replicate n (0, 0, 0))).toArray 109)) := by
 obtain ⟨i, hi, hz, hs, hb⟩ := info_parts Tryz.infoTok
 have := run_make (P := Tryz.prog) W 79 109 i _ Tryz.underlying79 hi hz .i64 .i64 n n (by omega) (by omega) (by rw [hb]; omega) (by omega)
 rw [this, hs, Int.toNat_natCast, tc_zero]

theorem Bys.cell {w w' : World} {a : Option Addr} {zs : List Int} (h : Bys w a zs) (k : Below w.heap.size w w') {i : Nat} (hi : i < zs.length) : ∃ b off, a = some ⟨b, off, none⟩ /\ b < w.heap.size /\ w'.cell? ⟨b, off + i, none⟩ = some (.int .u8 (ln zs i)) := by
 rcases h.at_ with h' | ⟨b, off, h1, ha, hc⟩
 ·omega
 ·exact ⟨b, off, ha, h1, (k.cell (p := ⟨b, off + i, none⟩) h1).trans (hc i hi)⟩

inductive Fnd (zs : List Int) (tr : Nat) (two : Prop) : Nat -> Nat -> List Tk -> Prop
 | start : Fnd zs tr two 0 0 []
 | byte {k p : Nat} {xs : List Tk} : Fnd zs tr two k p xs -> p < zs.length -> RunIs zs p tr 0 0 -> Fnd zs tr two (k + 1) (p + 1) (xs ++ [(ln zs p, 0, 0)])
 | run {k p L B : Nat} {xs : List Tk} : Fnd zs tr two k p xs -> p < zs.length -> RunIs zs p tr L B -> 0 < L -> (¬ two \/ ∃ L2 B2, RunIs zs (p + 1) tr L2 B2 /\ ¬ L < L2) -> Fnd zs tr two (k + 1) (p + L) (xs ++ [(0, (L : Int), (B : Int))])
 | wait {k p L B L2 B2 : Nat} {xs : List Tk} : Fnd zs tr two k p xs -> p < zs.length -> RunIs zs p tr L B -> 0 < L -> two -> RunIs zs (p + 1) tr L2 B2 -> L < L2 -> Fnd zs tr two (k + 1) (p + 1 + L2) (xs ++ [(ln zs p, 0, 0)] ++ [(0, (L2 : Int), (B2 : Int))])
theorem Fnd.step {zs : List Int} {tr : Nat} {two : Prop} {k p q : Nat} {xs ys : List Tk} (h : Fnd zs tr two (k + 1) p xs) (h' : Fnd zs tr two (k + 1) q ys) (ih : ∀ p q xs ys, Fnd zs tr two k p xs -> Fnd zs tr two k q ys -> p = q /\ xs = ys) : p = q /\ xs = ys := by
 cases h with
 | byte a b c =>
  cases h' with
  | byte a' b' c' => obtain ⟨rfl, rfl⟩ := ih _ _ _ _ a a'; exact ⟨rfl, rfl⟩
  | run a' b' c' d' e' => obtain ⟨rfl, rfl⟩ := ih _ _ _ _ a a'; have := (c.one c').1; omega
  | wait a' b' c' d' e' f' g' => obtain ⟨rfl, rfl⟩ := ih _ _ _ _ a a'; have := (c.one c').1; omega
 | run a b c d e =>
  cases h' with
  | byte a' b' c' => obtain ⟨rfl, rfl⟩ := ih _ _ _ _ a a'; have := (c.one c').1; omega
  | run a' b' c' d' e' => obtain ⟨rfl, rfl⟩ := ih _ _ _ _ a a'; obtain ⟨rfl, rfl⟩ := c.one c'; exact ⟨rfl, rfl⟩
  | wait a' b' c' d' e' f' g' =>
   obtain ⟨rfl, rfl⟩ := ih _ _ _ _ a a'
   obtain ⟨rfl, rfl⟩ := c.one c'
   rcases e with e | ⟨L2, B2, e1, e2⟩
   ·exact absurd e' e
   ·have := (e1.one f').1; omega
 | wait a b c d e f g =>
  cases h' with
  | byte a' b' c' => obtain ⟨rfl, rfl⟩ := ih _ _ _ _ a a'; have := (c.one c').1; omega
  | run a' b' c' d' e' =>
   obtain ⟨rfl, rfl⟩ := ih _ _ _ _ a a'
   obtain ⟨rfl, rfl⟩ := c.one c'
   rcases e' with e' | ⟨L2, B2, e1, e2⟩
   ·exact absurd e e'
   ·have := (e1.one f).1; omega
  | wait a' b' c' d' e' f' g' =>
   obtain ⟨rfl, rfl⟩ := ih _ _ _ _ a a'
   obtain ⟨rfl, rfl⟩ := f.one f'
   exact ⟨rfl, rfl⟩
theorem Fnd.one {zs : List Int} {tr : Nat} {two : Prop} : ∀ (k p q : Nat) (xs ys : List Tk), Fnd zs tr two k p xs -> Fnd zs tr two k q ys -> p = q /\ xs = ys
 | 0, p, q, xs, ys, h, h' => by cases h; cases h'; exact ⟨rfl, rfl⟩
 | k + 1, p, q, xs, ys, h, h' => h.step h' (Fnd.one k)
theorem Fnd.ahead {zs : List Int} {tr : Nat} {two : Prop} : ∀ (k p : Nat) (xs : List Tk), Fnd zs tr two k p xs -> ∀ j, j < k -> ∃ q ys, Fnd zs tr two j q ys /\ q < zs.length
 | 0, _, _, _, j, hj => by omega
 | k + 1, p, xs, h, j, hj => by
  have key : ∃ q ys, Fnd zs tr two k q ys /\ q < zs.length := by
   cases h with
   | byte a b _ => exact ⟨_, _, a, b⟩
   | run a b _ _ _ => exact ⟨_, _, a, b⟩
   | wait a b _ _ _ _ _ => exact ⟨_, _, a, b⟩
  obtain ⟨q, ys, h1, h2⟩ := key
  by_cases e : j = k
  ·subst e; exact ⟨q, ys, h1, h2⟩
  ·exact Fnd.ahead k q ys h1 j (by omega)
def FndAll (zs : List Int) (lv : Int) (xs : List Tk) : Prop := ∃ k, Fnd zs (trF lv) (1 < lv) k zs.length xs
theorem FndAll.one {zs : List Int} {lv : Int} {xs ys : List Tk} (h : FndAll zs lv xs) (h' : FndAll zs lv ys) : xs = ys := by
 obtain ⟨k, h⟩ := h
 obtain ⟨m, h'⟩ := h'
 rcases Nat.lt_trichotomy k m with e | e | e
 ·obtain ⟨q, zs', h1, h2⟩ := Fnd.ahead m _ _ h' k e
  have := (Fnd.one k _ _ _ _ h h1).1
  omega
 ·subst e; exact (Fnd.one k _ _ _ _ h h').2
 ·obtain ⟨q, zs', h1, h2⟩ := Fnd.ahead k _ _ h m e
  have := (Fnd.one m _ _ _ _ h' h1).1
  omega
def FindOk (zs : List Int) (lv : Int) (w : World) (e : Ending) (w' : World) : Prop :=
 ∃ a cap xs, e = .returned (.slice a xs.length cap) /\ OwnsT w' w.heap.size (.slice a xs.length cap) xs /\ Below w.heap.size w w' /\ (lv < 1 -> xs = alT zs) /\ (1 <= lv -> FdTo zs zs.length xs /\ FndAll zs lv xs)
set_option maxHeartbeats 2000000 in
theorem alone_c (a : Option Addr) (cap : Nat) (zs : List Int) (w : World) (h : Bys w a zs) (hl : zs.length <= 1000000000) :
  Calls Tryz.prog 52 #[.slice a zs.length cap] w fun e w' => e = .returned (.slice (some ⟨w.heap.size, 0, none⟩) zs.length zs.length) /\ TRo w.heap.size (alT zs) w' /\ Below w.heap.size w w' := by
 have HT := hide h
 have hmk := made_toks zs.length hl
 have HZ : Hid ((tc (List.replicate zs.length (0, 0, 0))).toArray = (tc (alF zs 0)).toArray) := by rw [alF_zero]; exact rfl
 clear h
 go_enter Tryz.func52, Tryz.ntmps52
 go_wp2_with fail
 go_loopg [4, 5, 11] zs.length (fun gk v4 v5 v11 wx => ∃ i : Nat, i + gk = zs.length /\ v11 = .int .i64 i /\ Hid (TRo w.heap.size (alF zs i) wx /\ Below w.heap.size w wx))
 case atStart =>
  refine ⟨0, by omega, rfl, ?_, (Below.refl _ w).alloc (Nat.le_refl _) _⟩
  unfold TRo
  rw [<- HZ.out]
  exact heap_new w _
 case round =>
  obtain ⟨i, hig, rfl, HR⟩ := hrel
  cases gk with
  | zero =>
   obtain rfl : i = zs.length := by omega
   go_wp2_with fail
   go_ret
   refine ⟨rfl, ?_, HR.out.2⟩
   have := HR.out.1
   rw [alF_all] at this
   exact this
  | succ g1 =>
   have hlt : (i : Int) < (zs.length : Int) := by omega
   obtain ⟨b, off, rfl, hbl, hc⟩ := HT.out.cell HR.out.2 (i := i) (by omega)
   have t0 := HR.out.1.cell (i := i) (by rw [alF_length]; omega)
   have f0 := free_of HR.out.1 (i * 3)
   have hset := HR.out.1.set0 (i := i) (by rw [alF_length]; omega) (ln zs i)
   rw [alF_at zs i (by omega)] at t0 hset
   simp only at t0 hset
   rw [alF_set zs i (by omega)] at hset
   have HSET := hide hset
   clear hset HZ
   generalize ln zs i = X at hc HSET
   go_wp2_with fail
   go_roundg g1
   case measure => omega
   case rel => exact ⟨i + 1, by omega, by go_num, HSET.out, HR.out.2.setCell (Nat.le_refl _) _⟩
end Go.Proofs.YteknifnadbmfiaaGreatDoor.M

/- Which tokens may be: the program's Right and the reference's. -/
namespace Go.Proofs.YteknifnadbmfiaaGreatDoor.M
set_option maxRecDepth 100000
open Go Go.RowKit

def RightOk (xs : List Tk) (w : World) (e : Ending) (w' : World) : Prop := ∃ β, e = .returned (.bool β) /\ (β = true ↔ Rt xs) /\ Below w.heap.size w w'
theorem RightOk.no {xs : List Tk} {w w' : World} {i : Nat} (hi : i < xs.length) (h : ¬ OkT (sm (xs.take i)) (tk xs i)) (hb : Below w.heap.size w w') : RightOk xs w (.returned (.bool false)) w' :=
 ⟨false, rfl, ⟨fun e => (by cases e), fun e => absurd (e i hi) h⟩, hb⟩
theorem RightOk.yes {xs : List Tk} {w w' : World} {i : Nat} (hi : i = xs.length) (h : RtTo xs i) (hb : Below w.heap.size w w') : RightOk xs w (.returned (.bool true)) w' :=
 ⟨true, rfl, ⟨fun _ => (by subst hi; exact h), fun _ => rfl⟩, hb⟩

end Go.Proofs.YteknifnadbmfiaaGreatDoor.M

/- Find: contract. -/
namespace Go.Proofs.YteknifnadbmfiaaGreatDoor.M
set_option maxRecDepth 100000
open Go Go.RowKit

structure FSt (B : Nat) (a : Option Addr) (cap : Nat) (zs : List Int) (tr : Nat) (w wx : World) (pm : Nat) (v : Value) (xs : List Tk) : Prop where
 fin : ∃ la be m, m <= pm /\ FinAt B wx (B + 1) B a cap zs tr m la be /\ Chain (sl zs) m la be
 own : OwnsT wx (B + 2) v xs
 bel : Below B w wx
section
variable {B : Nat} {a : Option Addr} {cap : Nat} {zs : List Int} {tr : Nat} {w wx wy : World} {pm p : Nat} {v v' : Value} {xs : List Tk}
theorem FSt.size (h : FSt B a cap zs tr w wx pm v xs) : B + 2 <= wx.heap.size := by
 obtain ⟨la, be, m, _, hf, _⟩ := h.fin
 have := hf.flt
 omega
theorem FSt.kept {M : Nat -> Prop} (h : FSt B a cap zs tr w wx pm v xs) (k : Kept M wx wy) (h1 : ∀ b, b < B + 2 -> ¬ M b) (h2 : ∀ g, v.ownBlock = some g -> ¬ M g) : FSt B a cap zs tr w wy pm v xs := by
 obtain ⟨la, be, m, hm, hf, hc⟩ := h.fin
 have := h.size
 exact ⟨⟨la, be, m, hm, hf.kept k (h1 _ (by omega)) (h1 _ (by omega)) (fun b hb => h1 b (by omega)), hc⟩, h.own.kept k h2, h.bel.trans (k.below (by omega) (fun i hi => h1 i (by omega)))⟩
theorem FSt.stay (h : FSt B a cap zs tr w wx pm v xs) (k : Below wx.heap.size wx wy) : FSt B a cap zs tr w wy pm v xs :=
 h.kept (Kept.of_below k) (fun b hb => by have := h.size; omega) (fun g hg => by have := (ownsRow_lt h.own hg).2; omega)
theorem FSt.alloc (h : FSt B a cap zs tr w wx pm v xs) (o : Obj) : FSt B a cap zs tr w (wx.alloc o) pm v xs := h.stay ((Below.refl _ wx).alloc (Nat.le_refl _) _)
theorem FSt.set (h : FSt B a cap zs tr w wx pm v xs) {b : Nat} (h1 : B + 2 <= b) (h2 : v.ownBlock ≠ some b) (i : Nat) (u : Value) : FSt B a cap zs tr w (wx.setCell ⟨b, i, none⟩ u) pm v xs :=
 h.kept (M := fun k => k = b) (Kept.setCell (M := fun k => k = b) (Kept.refl _ wx) (fun _ => rfl) _) (fun k hk e => by omega) (fun g hg e => h2 (by rw [hg, e]))
theorem FSt.run (h : FSt B a cap zs tr w wx pm v xs) {m : Nat} (k : NSt B (B + 1) B a cap zs tr wx wy m) (hm : m <= p) : FSt B a cap zs tr w wy p v xs := by
 obtain ⟨la, be, hf, hc, hk⟩ := k
 have := h.size
 exact ⟨⟨la, be, m, hm, hf, hc⟩, h.own.kept hk (fun g hg e => by have := (ownsRow_lt h.own hg).1; omega), h.bel.trans (hk.below (by omega) (fun i hi => by omega))⟩
theorem FSt.push {t : Tk} (h : FSt B a cap zs tr w wx pm v xs) (ho : OwnsT wy (B + 2) v' (xs ++ [t])) (hg : wx.grownBy wy v.ownBlock) : FSt B a cap zs tr w wy pm v' (xs ++ [t]) := by
 have hk := Kept.of_grown hg
 obtain ⟨la, be, m, hm, hf, hc⟩ := h.fin
 have hs := h.size
 have hap : ∀ b, b < B + 2 -> ¬ some b = v.ownBlock := fun b hb e => by have := (ownsRow_lt h.own e.symm).1; omega
 exact ⟨⟨la, be, m, hm, hf.kept hk (hap _ (by omega)) (hap _ (by omega)) (fun b hb => hap b (by omega)), hc⟩, ho, h.bel.trans (hk.below (by omega) (fun i hi => hap i (by omega)))⟩
theorem OwnsT.two {w : World} {base : Nat} {v : Value} {L : List Tk} (h : OwnsT w base v L) (h2 : 2 <= L.length) {b : Nat} {t : Tk} (hb : w.heap[b]? = some (tO t)) : v.ownBlock ≠ some b := by
 rcases h.2 with ⟨_, h0⟩ | ⟨g, cap', cur, rfl, hg, hh, hc1, hc2, hc3, hc4⟩
 ·omega
 ·intro e
  simp [Value.ownBlock] at e
  subst e
  rw [hh] at hb
  simp at hb
  rw [hb] at hc3
  simp at hc3
  omega
theorem FSt.find (h : FSt B a cap zs tr w wx pm v xs) (p : Nat) (hp : pm <= p) (hpl : p <= zs.length) (hl : zs.length <= 1000000000) (hcap : cap <= 9223372036854775807) (htr : 64 <= tr) (htr2 : tr <= 1000) :
  Calls Tryz.prog 54 #[.pointer (some ⟨B + 1, 0, none⟩), .int .i64 (p : Int)] wx fun e w' => ∃ L Bk : Nat, e = .returned (.agg #[.int .u8 0, .int .i64 (L : Int), .int .i64 (Bk : Int)]) /\ (RunOk zs p L Bk /\ RunIs zs p tr L Bk) /\ FSt B a cap zs tr w w' p v xs /\ Kept (fun b => b = B + 1 \/ b = B) wx w' := by
 obtain ⟨la, be, m, hm, hf, hc⟩ := h.fin
 refine (run_c hf hc p (by omega) hpl hl hcap htr htr2).mono ?_
 rintro e w' ⟨L, Bk, he, hok, his, m', hm', hN⟩
 obtain ⟨_, _, _, _, hk⟩ := id hN
 exact ⟨L, Bk, he, ⟨hok, his⟩, h.run hN hm', hk⟩
theorem RunOk.le {zs : List Int} {p L Bk : Nat} (h : RunOk zs p L Bk) (hp : p <= zs.length) : p + L <= zs.length /\ L <= 258 /\ (0 < L -> 1 <= p) := by
 rcases h.is with h | h
 ·omega
 ·have := h.fit; have := h.l258; have := h.bp; have := h.b1; omega

theorem tok_keep {wx w7 : World} {v : Value} {tb : Nat} {t : Tk} (hb : wx.heap[tb]? = some (tO t)) (hg : wx.grownBy w7 v.ownBlock) (hne : v.ownBlock ≠ some tb) : w7.heap[tb]? = some (tO t) :=
 (Kept.of_grown hg).heap hb (fun e => hne e.symm)
theorem tok_cells {w7 : World} {tb : Nat} {t : Tk} (hb : w7.heap[tb]? = some (tO t)) : w7.cell? ⟨tb, 0, none⟩ = some (.int .u8 t.1) /\ w7.cell? ⟨tb, 1, none⟩ = some (.int .i64 t.2.1) /\ w7.cell? ⟨tb, 2, none⟩ = some (.int .i64 t.2.2) /\ tb < w7.heap.size :=
 ⟨by rw [cells_of hb]; rfl, by rw [cells_of hb]; rfl, by rw [cells_of hb]; rfl, lt_of_block hb⟩
theorem tok_set {w7 : World} {tb : Nat} {t : Tk} (hb : w7.heap[tb]? = some (tO t)) (x y z : Int) : (((w7.setCell ⟨tb, 0, none⟩ (.int .u8 x)).setCell ⟨tb, 1, none⟩ (.int .i64 y)).setCell ⟨tb, 2, none⟩ (.int .i64 z)).heap[tb]? = some (tO (x, y, z)) := by
 rw [set_of (set_of (set_of hb 0 _) 1 _) 2 _]
 rfl
set_option maxHeartbeats 8000000 in
theorem find_c (a : Option Addr) (cap : Nat) (zs : List Int) (lv : Int) (w : World) (h : Bys w a zs) (hl : zs.length <= 1000000000) (hcp : zs.length <= cap) (hcap : cap <= 9223372036854775807) :
  Calls Tryz.prog 34 #[.slice a zs.length cap, .int .i64 lv] w (FindOk zs lv w) := by
 by_cases hlv : lv < 1
 case pos =>
  have HA := hide (alone_c a cap zs w h hl)
  have HF : Hid (∀ w', TRo w.heap.size (alT zs) w' -> Below w.heap.size w w' -> FindOk zs lv w (.returned (.slice (some ⟨w.heap.size, 0, none⟩) zs.length zs.length)) w') := fun w' h1 h2 => by
   have ho := h1.owns (Nat.le_refl _) (by rw [alT_length]; exact hl)
   refine ⟨some ⟨w.heap.size, 0, none⟩, zs.length, alT zs, by rw [alT_length], ?_, h2, fun _ => rfl, fun h => by omega⟩
   rw [alT_length] at ho ⊢
   exact ho
  clear h
  go_enter Tryz.func34, Tryz.ntmps34
  go_wp2_with (go_at_call 52; refine HA.out.mono ?_; rintro e w1 ⟨rfl, k1, k2⟩; have K1 := hide k1; have K2 := hide k2; clear k1 k2)
  go_ret
  exact HF.out _ K1.out K2.out
 have hz := h.rng
 have HRNG := hide hz
 have HT := hide h
 have hB : 0 < zs.length -> ∀ b off, a = some ⟨b, off, none⟩ -> b < w.heap.size := fun h0 b off e => by
  rcases h.at_ with h' | ⟨b', off', h1, h2, _⟩
  ·omega
  ·rw [h2] at e; simp at e; omega
 have HNW := hide (new_c a cap zs lv w h hl hcp hB (by omega))
 have hlv1 : ¬ lv < 1 := hlv
 clear h hB hz
 obtain ⟨B, hB⟩ : ∃ B, w.heap.size = B := ⟨_, rfl⟩
 have HBW := hide hB
 rw [hB] at HNW
 have HFIN : Hid (∀ w' v xs pm tr, FSt B a cap zs tr w w' pm v xs -> FdTo zs zs.length xs /\ FndAll zs lv xs -> FindOk zs lv w (.returned v) w') := fun w' v xs pm tr h1 h2 => by
  obtain ⟨a', cap', rfl, _⟩ := h1.own.form
  have ho := h1.own
  refine ⟨a', cap', xs, rfl, ?_, by rw [HBW.out]; exact h1.bel, fun h => absurd h hlv, fun _ => h2⟩
  obtain ⟨q1, q2⟩ := ho
  refine ⟨q1, ?_⟩
  rcases q2 with q2 | ⟨g, c, cur, hv, hg, r⟩
  ·exact .inl q2
  ·exact .inr ⟨g, c, cur, hv, by rw [HBW.out]; omega, r⟩
 clear hB hlv
 go_enter Tryz.func34, Tryz.ntmps34
 go_wp2_with (go_at_call 53; refine HNW.out.mono ?_; rintro e w1 ⟨rfl, tr, t0, t1, t2, k1, k2⟩; have HT0 := hide t0; rw [HBW.out] at k1 k2; have HST : Hid (FSt B a cap zs tr w w1 0 (.slice none 0 0) []) := (⟨⟨_, _, 0, Nat.le_refl _, k1, Chain.start _⟩, OwnsT.nil _ _, k2⟩ : FSt B a cap zs tr w w1 0 (.slice none 0 0) []); clear k1 k2 t0)
 clear HNW
 go_loopg [6, 7] zs.length (fun gk v6 v7 wx => ∃ (p : Nat) (xs : List Tk) (a6 : Option Addr) (c6 : Nat), p + gk = zs.length /\ v6 = .slice a6 xs.length c6 /\ v7 = .int .i64 p /\ xs.length <= p /\ Hid (FSt B a cap zs tr w wx p (.slice a6 xs.length c6) xs /\ FdTo zs p xs /\ ∃ k, Fnd zs tr (1 < lv) k p xs))
 case atStart => exact ⟨0, [], none, 0, by omega, rfl, rfl, by simp, HST.out, FdTo.start zs, 0, .start⟩
 case round =>
  clear HST
  obtain ⟨p, xs, a6, c6, hpg, rfl, rfl, hxp, HS⟩ := hrel
  cases gk with
  | zero =>
   obtain rfl : p = zs.length := by omega
   go_wp2_with fail
   go_ret
   exact HFIN.out _ _ _ _ _ HS.out.1 ⟨HS.out.2.1, by obtain ⟨k, hk⟩ := HS.out.2.2; exact ⟨k, by rw [<- HT0.out]; exact hk⟩⟩
  | succ g1 =>
   have hlt : (p : Int) < (zs.length : Int) := by omega
   have HRUN := hide (HS.out.1.find p (Nat.le_refl _) (by omega) hl hcap t1 (by omega))
   have HFD := hide HS.out.2.1
   have HFN := hide HS.out.2.2
   have HOLT : Hid (∀ g, (Value.slice a6 xs.length c6).ownBlock = some g -> g < wr.heap.size) := fun g hg => (ownsRow_lt HS.out.1.own hg).2
   clear HS
   go_upto_region 8 with (go_at_call 54; refine HRUN.out.mono ?_; rintro e w1 ⟨L, Bk, rfl, k1, k2, k3⟩; have HOK := hide k1.1; have HIS := hide k1.2; have HS1 := hide k2; have HK1 := hide k3; clear k1 k2 k3)
   have hle := HOK.out.le (by omega)
   have hsz1 := HS1.out.size
   have hwr1 : wr.heap.size <= w1.heap.size := HK1.out.size
   have HNE : Hid (∀ b, w1.heap.size <= b -> (Value.slice a6 xs.length c6).ownBlock ≠ some b) := fun b hb e => by have := HOLT.out b e; omega
   obtain ⟨b, off, ha, hbB, hcx⟩ : ∃ b off, a = some ⟨b, off, none⟩ /\ b < B /\ w1.cell? ⟨b, off + p, none⟩ = some (.int .u8 (ln zs p)) := by
    obtain ⟨la, be, m, _, hf, _⟩ := HS1.out.fin
    obtain ⟨b, off, ha, _, hc⟩ := hf.text (by omega)
    exact ⟨b, off, ha, hf.hB (by omega) b off ha, hc p (by omega)⟩
   have HCX : Hid (∀ w', FSt B a cap zs tr w w' (p + 1) (.slice a6 xs.length c6) xs -> w'.cell? ⟨b, off + p, none⟩ = some (.int .u8 (ln zs p))) := fun w' h' => by
    obtain ⟨la, be, m, _, hf, _⟩ := h'.fin
    obtain ⟨b', off', ha', _, hc⟩ := hf.text (by omega)
    rw [ha] at ha'
    simp at ha'
    obtain ⟨rfl, rfl⟩ := ha'
    exact hc p (by omega)
   subst ha
   obtain ⟨X, hX⟩ : ∃ X, ln zs p = X := ⟨_, rfl⟩
   rw [hX] at hcx HCX
   have EX := hide hX
   have hX0 := HRNG.out p
   rw [hX] at hX0
   clear hX HRUN HOLT HK1
   have hb1 : b < w1.heap.size := by omega
   by_cases hL0 : L = 0
   case pos =>
    subst hL0
    obtain rfl : Bk = 0 := by
     rcases HOK.out.is with h' | h'
     ·exact h'.2
     ·have := h'.l3; omega
    have HFB : Hid (FdTo zs (p + 1) (xs ++ [(X, 0, 0)])) := by
     have := HFD.out.byte HRNG.out (by omega) HOK.out
     rw [EX.out] at this
     exact this
    have HFB2 : Hid (∃ k, Fnd zs tr (1 < lv) k (p + 1) (xs ++ [(X, 0, 0)])) := hide (by
     obtain ⟨k, hk⟩ := HFN.out
     have := hk.byte (by omega) HIS.out
     rw [EX.out] at this
     exact ⟨_, this⟩)
    have ht1 : tl (X, 0, 0) = 1 := by simp [tl]
    clear HOK HFD HFN HIS
    go_wp2_with (first
     | (at_builtin; refine wpList_push _ rfl _ _ rfl (B + 2) _ xs rfl ((HS1.out.alloc (tO (X, 0, 0))).alloc (tO (X, 0, 0))).own (X, 0, 0) _ rfl (one_tok _ _ _ (by simp)) (by omega) (by simp; omega) ?_; intro a7 c7 w7 h7 g7; have HP := hide (((HS1.out.alloc (tO (X, 0, 0))).alloc (tO (X, 0, 0))).push h7 g7); obtain ⟨n0, n1, n2, n3⟩ := tok_cells (tok_keep (heap_new1 w1 (tO (X, 0, 0)) (tO (X, 0, 0))) g7 (HNE.out _ (Nat.le_refl _))); clear h7 g7)
     | (go_at_call 55; refine (told_c X 0 0 _).mono ?_; rw [ht1]; rintro e w8 ⟨rfl, rfl⟩))
    go_roundg g1
    case measure => omega
    case rel =>
     have hp := HP.out.alloc (tO (X, 0, 0))
     obtain ⟨⟨la, be, m, hm, hf, hc⟩, ho, hb⟩ := hp
     exact ⟨p + 1, xs ++ [(X, 0, 0)], a7, c7, by omega, by rw [List.length_append, List.length_singleton], by go_num, by simp; omega, ⟨⟨la, be, m, by omega, hf, hc⟩, by rw [List.length_append, List.length_singleton]; exact ho, hb⟩, HFB.out, HFB2.out⟩
   have hL1 : (0 : Int) < (L : Int) := by omega
   have hLn : ¬ (L : Int) = 0 := by omega
   have hp1 := hle.2.2 (by omega)
   have hxs1 : 1 <= xs.length := by
    have h1 := HFD.out.sum
    rcases Nat.lt_or_ge 0 xs.length with h' | h'
    ·exact h'
    ·have : xs = [] := List.eq_nil_of_length_eq_zero (by omega)
     rw [this] at h1
     simp [sm] at h1
     omega
   have ht1 : tl (0, (L : Int), (Bk : Int)) = (L : Int) := by simp only [tl]; rw [if_neg (by omega)]
   have HPO : Hid (Run zs p L Bk) := by
    rcases HOK.out.is with h' | h'
    ·omega
    ·exact h'
   by_cases hlv2 : lv <= 1
   case pos =>
    obtain rfl : lv = 1 := by omega
    have HFB := hide (HFD.out.run HOK.out (by omega))
    have HFB2 : Hid (∃ k, Fnd zs tr ((1 : Int) < 1) k (p + L) (xs ++ [(0, (L : Int), (Bk : Int))])) := hide (by
     obtain ⟨k, hk⟩ := HFN.out
     exact ⟨_, hk.run (by omega) HIS.out (by omega) (.inl (by omega))⟩)
    clear HOK HFD HFN HIS
    go_wp2_with (first
     | (at_builtin; refine wpList_push _ rfl _ _ rfl (B + 2) _ xs rfl ((HS1.out.alloc (tO (0, (L : Int), (Bk : Int)))).alloc (tO (0, (L : Int), (Bk : Int)))).own (0, (L : Int), (Bk : Int)) _ rfl (one_tok _ _ _ (by simp)) (by omega) (by simp; omega) ?_; intro a7 c7 w7 h7 g7; have HP := hide (((HS1.out.alloc (tO (0, (L : Int), (Bk : Int)))).alloc (tO (0, (L : Int), (Bk : Int)))).push h7 g7); obtain ⟨n0, n1, n2, n3⟩ := tok_cells (tok_keep (heap_new1 w1 (tO (0, (L : Int), (Bk : Int))) (tO (0, (L : Int), (Bk : Int)))) g7 (HNE.out _ (Nat.le_refl _))); clear h7 g7)
     | (go_at_call 55; refine (told_c 0 (L : Int) (Bk : Int) _).mono ?_; rw [ht1]; rintro e w8 ⟨rfl, rfl⟩))
    go_roundg (zs.length - (p + L))
    case measure => omega
    case rel =>
     have hp := HP.out.alloc (tO (0, (L : Int), (Bk : Int)))
     obtain ⟨⟨la, be, m, hm, hf, hc⟩, ho, hb⟩ := hp
     exact ⟨p + L, xs ++ [(0, (L : Int), (Bk : Int))], a7, c7, by omega, by rw [List.length_append, List.length_singleton], by first | rfl | go_num, by simp; omega, ⟨⟨la, be, m, by omega, hf, hc⟩, by rw [List.length_append, List.length_singleton]; exact ho, hb⟩, HFB.out, HFB2.out⟩
   have hlv3 : 1 < lv := by omega
   have HRN2 := hide ((HS1.out.alloc (tO (0, (L : Int), (Bk : Int)))).find (p + 1) (by omega) (by omega) hl hcap t1 (by omega))
   have htb : (w1.alloc (tO (0, (L : Int), (Bk : Int)))).heap[w1.heap.size]? = some (tO (0, (L : Int), (Bk : Int))) := heap_new w1 _
   have HTB := hide htb
   have HSA : Hid ((w1.alloc (tO (0, (L : Int), (Bk : Int)))).heap.size = w1.heap.size + 1) := hide (by simp)
   clear htb hlv2
   go_upto_region 10 with (go_at_call 54; refine HRN2.out.mono ?_; rintro e w3 ⟨L2, B2, rfl, k1, k2, k3⟩; have HOK2 := hide k1.1; have HIS2 := hide k1.2; have HS3 := hide k2; have HTB3 : Hid (w3.heap[w1.heap.size]? = some (tO (0, (L : Int), (Bk : Int)))) := hide (k3.heap HTB.out (by omega)); have hsz3 : w1.heap.size + 1 <= w3.heap.size := (by have := k3.size; have := HSA.out; omega); clear k1 k2 k3)
   obtain ⟨n0, n1, n2, n3⟩ := tok_cells HTB3.out
   simp only at n0 n1 n2
   have hle2 := HOK2.out.le (by omega)
   by_cases hLL : L < L2
   case neg =>
    have hLL' : ¬ (L : Int) < (L2 : Int) := by omega
    have HFB := hide (HFD.out.run HOK.out (by omega))
    have HFB2 : Hid (∃ k, Fnd zs tr (1 < lv) k (p + L) (xs ++ [(0, (L : Int), (Bk : Int))])) := hide (by
     obtain ⟨k, hk⟩ := HFN.out
     exact ⟨_, hk.run (by omega) HIS.out (by omega) (.inr ⟨L2, B2, HIS2.out, hLL⟩)⟩)
    clear HOK HFD HOK2 HFN HIS HIS2
    go_wp2_with (first
     | (at_builtin; refine wpList_push _ rfl _ _ rfl (B + 2) _ xs rfl ((HS3.out.alloc (tO (0, (L2 : Int), (B2 : Int)))).alloc (tO (0, (L : Int), (Bk : Int)))).own (0, (L : Int), (Bk : Int)) _ rfl (one_tok _ _ _ (by simp)) (by omega) (by simp; omega) ?_; intro a7 c7 w7 h7 g7; have HP := hide (((HS3.out.alloc (tO (0, (L2 : Int), (B2 : Int)))).alloc (tO (0, (L : Int), (Bk : Int)))).push h7 g7); clear n0 n1 n2 n3; obtain ⟨n0, n1, n2, n3⟩ := tok_cells (tok_keep (heap_old (o := tO (0, (L : Int), (Bk : Int))) (heap_old (o := tO (0, (L2 : Int), (B2 : Int))) HTB3.out)) g7 (HNE.out _ (Nat.le_refl _))); clear h7 g7)
     | (go_at_call 55; refine (told_c 0 (L : Int) (Bk : Int) _).mono ?_; rw [ht1]; rintro e w8 ⟨rfl, rfl⟩))
    go_roundg (zs.length - (p + L))
    case measure => omega
    case rel =>
     have hp := HP.out.alloc (tO (0, (L : Int), (Bk : Int)))
     obtain ⟨⟨la, be, m, hm, hf, hc⟩, ho, hb⟩ := hp
     exact ⟨p + L, xs ++ [(0, (L : Int), (Bk : Int))], a7, c7, by omega, by rw [List.length_append, List.length_singleton], by first | rfl | go_num, by simp; omega, ⟨⟨la, be, m, by have := HPO.out.l3; omega, hf, hc⟩, by rw [List.length_append, List.length_singleton]; exact ho, hb⟩, HFB.out, HFB2.out⟩
   have hLL' : (L : Int) < (L2 : Int) := by omega
   have hL2n : ¬ (L2 : Int) = 0 := by omega
   have ht2 : tl (0, (L2 : Int), (B2 : Int)) = (L2 : Int) := by simp only [tl]; rw [if_neg (by omega)]
   have HFB : Hid (FdTo zs (p + 1 + L2) (xs ++ [(X, 0, 0)] ++ [(0, (L2 : Int), (B2 : Int))])) := by
    have := HFD.out.wait HRNG.out HOK.out (by omega) HOK2.out hLL
    rw [EX.out] at this
    exact this
   have HFB2 : Hid (∃ k, Fnd zs tr (1 < lv) k (p + 1 + L2) (xs ++ [(X, 0, 0)] ++ [(0, (L2 : Int), (B2 : Int))])) := hide (by
    obtain ⟨k, hk⟩ := HFN.out
    have := hk.wait (by omega) HIS.out (by omega) hlv3 HIS2.out hLL
    rw [EX.out] at this
    exact ⟨_, this⟩)
   have hc3 := HCX.out w3 HS3.out
   have hb3 : b < w3.heap.size := by omega
   clear HOK HFD HOK2 HCX hcx ht1 HRN2 HFN HIS HIS2
   go_upto_region 13 with (at_builtin; refine wpList_push _ rfl _ _ rfl (B + 2) _ xs rfl ((HS3.out.alloc (tO (0, (L2 : Int), (B2 : Int)))).alloc (tO (X, 0, 0))).own (X, 0, 0) _ rfl (one_tok _ _ _ (by simp)) (by omega) (by simp; omega) ?_; intro a5 c5 w5 h5 g5; have HS5 := hide (((HS3.out.alloc (tO (0, (L2 : Int), (B2 : Int)))).alloc (tO (X, 0, 0))).push h5 g5); have HT5 := hide (tok_keep (heap_old (o := tO (X, 0, 0)) (heap_old (o := tO (0, (L2 : Int), (B2 : Int))) HTB3.out)) g5 (HNE.out _ (Nat.le_refl _))); have HU5 := hide (tok_keep (heap_new1 w3 (tO (0, (L2 : Int), (B2 : Int))) (tO (X, 0, 0))) g5 (HNE.out _ (by omega))); clear h5 g5)
   obtain ⟨Q, hQ⟩ : ∃ Q, xs ++ [(X, 0, 0)] = Q := ⟨_, rfl⟩
   have hQl : Q.length = xs.length + 1 := by rw [<- hQ]; simp
   rw [hQ] at HS5 HFB HFB2
   rw [<- hQl] at HS5 ⊢
   have HQL := hide hQl
   have hq2 : 2 <= Q.length := by omega
   have hq3 : Q.length <= 1000000000 := by omega
   have hq4 : Q.length <= p + 1 := by omega
   clear n0 n1 n2 n3 hQ hQl hc3
   obtain ⟨n0, n1, n2, n3⟩ := tok_cells HT5.out
   obtain ⟨m0, m1, m2, m3⟩ := tok_cells HU5.out
   simp only at n0 n1 n2 m0 m1 m2
   have f0 := free_of HT5.out 0
   have f1 := free_of HT5.out 1
   have f2 := free_of HT5.out 2
   have hne2 := HS5.out.own.two hq2 HT5.out
   have HNE2 := hide hne2
   clear hne2
   go_upto_region 14 with fail
   have HT6 := hide (tok_set HT5.out 0 (L2 : Int) (B2 : Int))
   have HS6 := hide (((HS5.out.set (by omega) HNE2.out 0 (.int .u8 0)).set (by omega) HNE2.out 1 (.int .i64 (L2 : Int))).set (by omega) HNE2.out 2 (.int .i64 (B2 : Int)))
   clear n0 n1 n2 n3 m0 m1 m2 m3 f0 f1 f2 HS5 HT5 HU5
   generalize ((w5.setCell ⟨w1.heap.size, 0, none⟩ (.int .u8 0)).setCell ⟨w1.heap.size, 1, none⟩ (.int .i64 (L2 : Int))).setCell ⟨w1.heap.size, 2, none⟩ (.int .i64 (B2 : Int)) = w6 at HT6 HS6 ⊢
   obtain ⟨n0, n1, n2, n3⟩ := tok_cells HT6.out
   simp only at n0 n1 n2
   have hs6 := HS6.out.size
   go_wp2_with (first
    | (at_builtin; refine wpList_push _ rfl _ _ rfl (B + 2) _ Q rfl (HS6.out.alloc (tO (0, (L2 : Int), (B2 : Int)))).own (0, (L2 : Int), (B2 : Int)) _ rfl (one_tok _ _ _ (by simp)) (by omega) (by simp; omega) ?_; intro a7 c7 w7 h7 g7; have HP := hide ((HS6.out.alloc (tO (0, (L2 : Int), (B2 : Int)))).push h7 g7); clear n0 n1 n2 n3; obtain ⟨n0, n1, n2, n3⟩ := tok_cells (tok_keep (heap_old (o := tO (0, (L2 : Int), (B2 : Int))) HT6.out) g7 HNE2.out); clear h7 g7)
    | (go_at_call 55; refine (told_c 0 (L2 : Int) (B2 : Int) _).mono ?_; rw [ht2]; rintro e w8 ⟨rfl, rfl⟩))
   go_roundg (zs.length - (p + 1 + L2))
   case measure => omega
   case rel =>
    have hp := HP.out.alloc (tO (0, (L2 : Int), (B2 : Int)))
    obtain ⟨⟨la, be, m, hm, hf, hc⟩, ho, hb⟩ := hp
    exact ⟨p + 1 + L2, Q ++ [(0, (L2 : Int), (B2 : Int))], a7, c7, by omega, by rw [List.length_append, List.length_singleton], by first | rfl | go_num, by simp; omega, ⟨⟨la, be, m, by omega, hf, hc⟩, by rw [List.length_append, List.length_singleton]; exact ho, hb⟩, HFB.out, HFB2.out⟩
end
end Go.Proofs.YteknifnadbmfiaaGreatDoor.M

/- What tokens tell: the program's Tell and the reference's. -/
namespace Go.Proofs.YteknifnadbmfiaaGreatDoor.M
set_option maxRecDepth 100000
open Go Go.RowKit

theorem Tryz.info5 : (Tryz.prog.info? 5).map (fun i => (i.zero, i.size, i.bytes)) = some (some (.int .u8 0), 1, 1) := by kernel_rfl
def OwnsB (w : World) (base : Nat) (v : Value) (D : List Int) : Prop := w.ownsRow base 5 1 v D.length (D.map (Value.int .u8))
theorem OwnsB.nil (w : World) (base : Nat) : OwnsB w base (.slice none 0 0) [] := World.ownsRow_nil _ _ _ _
theorem OwnsB.kept {M : Nat -> Prop} {w w' : World} {base : Nat} {v : Value} {L : List Int} (h : OwnsB w base v L) (k : Kept M w w') (hn : ∀ g, v.ownBlock = some g -> ¬ M g) : OwnsB w' base v L := ownsRow_kept h k hn
theorem OwnsB.stay {w w' : World} {base : Nat} {v : Value} {L : List Int} (h : OwnsB w base v L) (k : Below w.heap.size w w') : OwnsB w' base v L := h.kept (Kept.of_below k) (fun g hg e => by have := (ownsRow_lt h hg).2; omega)
theorem OwnsB.form {w : World} {base : Nat} {v : Value} {L : List Int} (h : OwnsB w base v L) : ∃ a cap, v = .slice a L.length cap := by
 rcases h.2 with ⟨rfl, h2⟩ | ⟨g, cap, cur, rfl, _⟩
 ·exact ⟨none, 0, by rw [h2]⟩
 ·exact ⟨_, _, rfl⟩
theorem OwnsB.at_ {w : World} {base : Nat} {a : Option Addr} {cap : Nat} {L : List Int} (h : OwnsB w base (.slice a L.length cap) L) {j : Nat} (hj : j < L.length) : ∃ g, a = some ⟨g, 0, none⟩ /\ g < w.heap.size /\ w.cell? ⟨g, j, none⟩ = some (.int .u8 (ln L j)) := by
 rcases h.2 with ⟨_, h2⟩ | ⟨g, cap', cur, hv, hg, hh, hr⟩
 ·omega
 ·simp at hv
  refine ⟨g, hv.1, lt_of_block hh, ?_⟩
  rw [hv.1] at h
  rw [World.ownsRow.cellAt h j (by omega)]
  simp [ln, List.getD, hj]
def TellGot (xs : List Tk) (w : World) (v : Value) (w' : World) : Prop := OwnsB w' w.heap.size v (tel xs) /\ Below w.heap.size w w'
def TSt (w wx : World) (v : Value) (out : List Int) : Prop := OwnsB wx w.heap.size v out /\ Below w.heap.size w wx
theorem TSt.alloc {w wx : World} {v : Value} {out : List Int} (h : TSt w wx v out) (o : Obj) : TSt w (wx.alloc o) v out :=
 ⟨h.1.stay ((Below.refl _ wx).alloc (Nat.le_refl _) _), h.2.alloc h.2.size _⟩
theorem TSt.push {w wx wy : World} {v v' : Value} {out out' : List Int} (h : TSt w wx v out) (ho : OwnsB wy w.heap.size v' out') (hg : wx.grownBy wy v.ownBlock) : TSt w wy v' out' :=
 ⟨ho, h.2.grown hg h.2.size (fun _ e => (ownsRow_lt h.1 e).1)⟩
theorem TSt.tok {w wx wy : World} {v : Value} {out : List Int} (h : TSt w wx v out) (hg : wx.grownBy wy v.ownBlock) {tb : Nat} {t : Tk} (hb : wx.heap[tb]? = some (tO t)) : wy.heap[tb]? = some (tO t) :=
 (Kept.of_grown hg).heap hb (fun e => ownsRow_apart h.1 hb (by decide) e.symm)
end Go.Proofs.YteknifnadbmfiaaGreatDoor.M
