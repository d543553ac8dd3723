/- Round keys, as lists; rows of rows of bytes of one's own; append to them. -/
import Derived.Test.YtgamfpgejkhbcaaDoorKEnc
namespace Go.Proofs.YtgamfpgejkhbcaaDoor.K
set_option maxRecDepth 100000
open Go Go.RowKit

/-- The first i bytes of a row xored with those of another one. -/
def mixL (ts us : List Nat) (i : Nat) : List Nat := List.zipWith (· ^^^ ·) (ts.take i) (us.take i) ++ ts.drop i
theorem mixL_length {ts us : List Nat} (h : ts.length = us.length) (i : Nat) : (mixL ts us i).length = ts.length := by simp [mixL]; omega
theorem mixL_at {ts us : List Nat} (h : ts.length = us.length) {i : Nat} (hi : i < ts.length) : (mixL ts us i).getD i 0 = ts.getD i 0 := by
  have hl : (List.zipWith (· ^^^ ·) (ts.take i) (us.take i)).length = i := by simp; omega
  simp only [mixL, List.getD]
  rw [List.getElem?_append_right (by omega), hl, Nat.sub_self, List.getElem?_drop]
  rfl
theorem mixL_set {ts us : List Nat} (h : ts.length = us.length) {i : Nat} (hi : i < ts.length) : (mixL ts us i).set i (ts.getD i 0 ^^^ us.getD i 0) = mixL ts us (i + 1) := by
  have hl : (List.zipWith (· ^^^ ·) (ts.take i) (us.take i)).length = i := by simp; omega
  have hu : i < us.length := by omega
  unfold mixL
  rw [List.set_append_right _ _ (by omega), hl, Nat.sub_self, List.drop_eq_getElem_cons hi, List.set_cons_zero, List.take_add_one, List.take_add_one, List.getElem?_eq_getElem hi, List.getElem?_eq_getElem hu]
  rw [Option.toList_some, Option.toList_some, List.zipWith_append (by simp; omega), List.append_assoc]
  simp [List.getD, hi, hu]
theorem mixL_zero (ts us : List Nat) : mixL ts us 0 = ts := by simp [mixL]
theorem mixL_end {ts us : List Nat} (h : ts.length = us.length) {n : Nat} (hn : n = ts.length) : mixL ts us n = List.zipWith (· ^^^ ·) ts us := by
  subst hn
  rw [mixL, List.take_length, h, List.take_length, ← h, List.drop_length, List.append_nil]
/-- A word of a key; the numbers that are xored; a word that becomes another; the words, one behind the other. -/
def kwd (key : List Nat) (i : Nat) : List Nat := [key.getD (4 * i) 0, key.getD (4 * i + 1) 0, key.getD (4 * i + 2) 0, key.getD (4 * i + 3) 0]
def rcn : Nat → Nat
  | 0 => 1
  | k + 1 => tm 2 (rcn k)
def tr0 (x : List Nat) (c : Nat) : List Nat := [bx (x.getD 1 0) ^^^ c, bx (x.getD 2 0), bx (x.getD 3 0), bx (x.getD 0 0)]
def tr4 (x : List Nat) : List Nat := [bx (x.getD 0 0), bx (x.getD 1 0), bx (x.getD 2 0), bx (x.getD 3 0)]
def trn (n i : Nat) (x : List Nat) : List Nat := if i % n = 0 then tr0 x (rcn (i / n - 1)) else if n = 8 ∧ i % 8 = 4 then tr4 x else x
def nxt (key : List Nat) (n : Nat) (l : List (List Nat)) (m : Nat) : List Nat := if m < n then kwd key m else List.zipWith (· ^^^ ·) (trn n m (l.getD (m - 1) [])) (l.getD (m - n) [])
def kws (key : List Nat) (n : Nat) : Nat → List (List Nat)
  | 0 => []
  | m + 1 => kws key n m ++ [nxt key n (kws key n m) m]
theorem kws_length (key : List Nat) (n m : Nat) : (kws key n m).length = m := by
  induction m with
  | zero => rfl
  | succ m ih => rw [kws, List.length_append, ih]; rfl
/-- Four bytes. -/
def Wd (x : List Nat) : Prop := x.length = 4 ∧ By x
theorem rcn_lt (k : Nat) : rcn k < 256 := by
  cases k with
  | zero => show 1 < 256; omega
  | succ k => exact tm_lt _ _
theorem kwd_wd {key : List Nat} (h : By key) (i : Nat) : Wd (kwd key i) := ⟨rfl, fun x hx => by
  simp only [kwd, List.mem_cons, List.not_mem_nil, or_false] at hx
  rcases hx with rfl | rfl | rfl | rfl <;> exact h.getD _⟩
theorem bx_lt {x : Nat} (h : x < 256) : bx x < 256 := (bx_is h).2.2.2
theorem tr0_wd {x : List Nat} (h : By x) {c : Nat} (hc : c < 256) : Wd (tr0 x c) := ⟨rfl, fun y hy => by
  simp only [tr0, List.mem_cons, List.not_mem_nil, or_false] at hy
  rcases hy with rfl | rfl | rfl | rfl
  · exact xor8_lt (bx_lt (h.getD _)) hc
  all_goals exact bx_lt (h.getD _)⟩
theorem tr4_wd {x : List Nat} (h : By x) : Wd (tr4 x) := ⟨rfl, fun y hy => by
  simp only [tr4, List.mem_cons, List.not_mem_nil, or_false] at hy
  rcases hy with rfl | rfl | rfl | rfl <;> exact bx_lt (h.getD _)⟩
theorem trn_wd {n i : Nat} {x : List Nat} (h : Wd x) : Wd (trn n i x) := by
  unfold trn
  split
  · exact tr0_wd h.2 (rcn_lt _)
  · split
    · exact tr4_wd h.2
    · exact h
theorem zip_wd {x y : List Nat} (hx : Wd x) (hy : Wd y) : Wd (List.zipWith (· ^^^ ·) x y) := by
  refine ⟨by rw [List.length_zipWith, hx.1, hy.1]; rfl, fun z hz => ?_⟩
  obtain ⟨j, hj, rfl⟩ := List.mem_iff_getElem.1 hz
  rw [List.getElem_zipWith]
  exact xor8_lt (hx.2 _ (List.getElem_mem _)) (hy.2 _ (List.getElem_mem _))
theorem kws_at (key : List Nat) (n m : Nat) {i : Nat} (h : i < m) : (kws key n m).getD i [] = nxt key n (kws key n i) i := by
  induction m with
  | zero => omega
  | succ m ih =>
    rw [kws]
    by_cases e : i = m
    · subst e
      simp [List.getD, kws_length]
    · have hi : i < (kws key n m).length := by rw [kws_length]; omega
      rw [← ih (by omega)]
      simp only [List.getD]
      rw [List.getElem?_append_left hi]
theorem nxt_wd {key : List Nat} (hk : By key) {n : Nat} (hn : 1 ≤ n) (m : Nat) : Wd (nxt key n (kws key n m) m) := by
  induction m using Nat.strongRecOn with
  | ind m ih =>
    unfold nxt
    split
    · exact kwd_wd hk m
    · rw [kws_at key n m (show m - 1 < m by omega), kws_at key n m (show m - n < m by omega)]
      exact zip_wd (trn_wd (ih _ (by omega))) (ih _ (by omega))
theorem kws_wd {key : List Nat} (hk : By key) {n : Nat} (hn : 1 ≤ n) (m : Nat) {i : Nat} (h : i < m) : Wd ((kws key n m).getD i []) := by rw [kws_at key n m h]; exact nxt_wd hk hn i

/-- Slices in a row of one's own. -/
def OwnsS (w : World) (base : Nat) (v : Value) (ss : List Value) : Prop := w.ownsRow base 22 1 v ss.length ss
/-- Rows of bytes of one's own, in a row of one's own. -/
def WS (base : Nat) (v : Value) (l : List (List Nat)) (wx : World) : Prop := ∃ ss, OwnsS wx base v ss ∧ ss.length = l.length ∧ ∀ m, m < l.length → ∃ u, ss[m]? = some u ∧ OwnsB wx base u (l.getD m [])
theorem WS.nil (w : World) (base : Nat) : WS base (.slice none 0 0) [] w := ⟨[], World.ownsRow_nil _ _ _ _, rfl, fun m hm => by simp at hm⟩
theorem WS.stay {base : Nat} {v : Value} {l : List (List Nat)} {w w' : World} (h : WS base v l w) (k : Below w.heap.size w w') : WS base v l w' := by
  obtain ⟨ss, h1, h2, h3⟩ := h
  refine ⟨ss, ownsRow_kept h1 (Kept.of_below k) (fun g hg hn => by have := (ownsRow_lt h1 hg).2; omega), h2, fun m hm => ?_⟩
  obtain ⟨u, hu, ho⟩ := h3 m hm
  exact ⟨u, hu, ho.stay k⟩
theorem WS.form {base : Nat} {v : Value} {l : List (List Nat)} {w : World} (h : WS base v l w) : ∃ a c, v = .slice a l.length c ∧ l.length ≤ c ∧ (a = none → l.length = 0 ∧ c = 0) := by
  obtain ⟨ss, h1, h2, _⟩ := h
  rcases h1.2 with ⟨rfl, e⟩ | ⟨g, cap, cur, rfl, _, _, h3, _⟩
  · exact ⟨none, 0, by rw [← h2, e], by omega, fun _ => ⟨by omega, rfl⟩⟩
  · exact ⟨_, _, by rw [h2], by omega, fun e => by cases e⟩
/-- A row of them, where it lies. -/
theorem WS.row {base : Nat} {a : Option Addr} {n c : Nat} {l : List (List Nat)} {w : World} (h : WS base (.slice a n c) l w) {m : Nat} (hm : m < l.length) : ∃ g u, a = some ⟨g, 0, none⟩ ∧ base ≤ g ∧ g < w.heap.size ∧ w.cell? ⟨g, m, none⟩ = some u ∧ OwnsB w base u (l.getD m []) := by
  obtain ⟨ss, h1, h2, h3⟩ := h
  obtain ⟨u, hu, ho⟩ := h3 m hm
  have h1' := h1
  rcases h1.2 with ⟨e, h0⟩ | ⟨g, cap, cur, e, hb, hh, _⟩
  · omega
  · simp only [Value.slice.injEq] at e
    obtain ⟨rfl, rfl, rfl⟩ := e
    refine ⟨g, u, rfl, hb, lt_of_block hh, ?_, ho⟩
    rw [World.ownsRow.cellAt h1' m (by omega)]
    exact hu
theorem infoS : (Tryd.prog.info? 22).map (fun i => (i.zero, i.size, i.bytes)) = some (some (.slice none 0 0), 1, 24) := by kernel_rfl
theorem tb_ne : (22 : TypeId) ≠ 5 := by decide
theorem run_pushS (w : World) (ty : TypeId) (base : Nat) (v : Value) (l : List (List Nat)) (h : WS base v l w) (ad : Nat) (u : Value) (x : List Nat) (hc : w.heap[ad]? = some (.cells #[u] 22 (0, 0))) (hu : OwnsB w base u x) (hl : l.length ≤ 1000) (hbase : base ≤ w.heap.size) :
    ∃ v' w', (Builtin.append_ #[43, 43] ty #[v, .slice (some ⟨ad, 0, none⟩) 1 1]).run Tryd.prog w = .ok v' w' ∧ WS base v' (l ++ [x]) w' ∧ w.grownBy w' v.ownBlock := by
  obtain ⟨i, hi, hz, hs, hby⟩ := info_parts infoS
  obtain ⟨ss, h1, h2, h3⟩ := h
  have h1u : u.oneCell' = true := by
    obtain ⟨a, c, rfl, _⟩ := hu.form
    rfl
  obtain ⟨v', w', hr, o, g, _⟩ := run_append_own (P := Tryd.prog) w base 43 ty 22 i (.slice none 0 0) 1 24 Tryd.underlying43 hi hz hs hby rfl (by decide) v ss.length ss h1 ⟨ad, 0, none⟩ 1 1 [u] rfl (World.news_of_block hc) (fun z hz => by simp at hz; subst hz; exact h1u) (by unfold maxLen; omega) (by omega) hbase
  have kg := Kept.of_grown g
  have keep : ∀ {z : Value} {y : List Nat}, OwnsB w base z y → OwnsB w' base z y := fun {z y} hz => ownsRow_kept hz kg (fun b hb e => by
    rcases hz.2 with ⟨rfl, _⟩ | ⟨g', cap', cur', rfl, _, hh, _⟩
    · cases hb
    · simp only [Value.ownBlock, Option.some.injEq] at hb
      subst hb
      exact ownsRow_apart h1 hh (fun e => tb_ne e.symm) e.symm)
  refine ⟨v', w', hr, ⟨ss ++ [u], by unfold OwnsS; rw [List.length_append]; exact o, by simp [h2], fun m hm => ?_⟩, g⟩
  by_cases e : m < l.length
  · obtain ⟨z, hz, ho⟩ := h3 m e
    refine ⟨z, by rw [List.getElem?_append_left (by omega)]; exact hz, ?_⟩
    have : (l ++ [x]).getD m [] = l.getD m [] := by simp only [List.getD]; rw [List.getElem?_append_left e]
    rw [this]
    exact keep ho
  · have hm' : m = l.length := by simp at hm; omega
    subst hm'
    refine ⟨u, by rw [← h2]; simp, ?_⟩
    have : (l ++ [x]).getD l.length [] = x := by simp [List.getD]
    rw [this]
    exact keep hu
theorem wpList_pushS {ops : Array Oper} {rest : List Oper} {o : Oper} {act : Act} {Q : Exit → Act → World → Prop} (w : World) (hgd : o.guard = none) (s x : Operand)
    (ho : o.op = .call { callee := .builtin .append, args := #[s, x], argTypes := #[43, 43] }) (base : Nat) (v : Value) (l : List (List Nat)) (hs : act.eval s = v) (h : WS base v l w) (ad : Nat) (u : Value) (y : List Nat) (hx : act.eval x = .slice (some ⟨ad, 0, none⟩) 1 1)
    (hc : w.heap[ad]? = some (.cells #[u] 22 (0, 0))) (hu : OwnsB w base u y) (hl : l.length ≤ 1000) (hbase : base ≤ w.heap.size)
    (hk : ∀ v' w', WS base v' (l ++ [y]) w' → w.grownBy w' v.ownBlock → wpList Tryd.prog ops Q rest (act.put o.dst v') w') : wpList Tryd.prog ops Q (o :: rest) act w := by
  obtain ⟨v', w', hr, h1, h2⟩ := run_pushS w o.type base v l h ad u y hc hu hl hbase
  refine wpList_plain hgd fun _ hK => ?_
  unfold Oper.wp execOp
  simp only [ho, resolve, invoke, builtin, Sem.run_bind, Sem.run_pure, Result.andThen_ok, List.map_toArray, List.map_cons, List.map_nil, hs, hx, hr]
  exact hK _ _ (hk v' w' h1 h2)
theorem step_pushS {ops : Array Oper} {o : Oper} {act : Act} {K : Act → World → Prop} {Q : Exit → Act → World → Prop} {E : Prop} (w : World) (hgd : o.guard = none) (s x : Operand)
    (ho : o.op = .call { callee := .builtin .append, args := #[s, x], argTypes := #[43, 43] }) (base : Nat) (v : Value) (l : List (List Nat)) (hs : act.eval s = v) (h : WS base v l w) (ad : Nat) (u : Value) (y : List Nat) (hx : act.eval x = .slice (some ⟨ad, 0, none⟩) 1 1)
    (hc : w.heap[ad]? = some (.cells #[u] 22 (0, 0))) (hu : OwnsB w base u y) (hl : l.length ≤ 1000) (hbase : base ≤ w.heap.size)
    (hk : ∀ v' w', WS base v' (l ++ [y]) w' → w.grownBy w' v.ownBlock → K (act.put o.dst v') w') :
    if Region.wanted o (yielded ops act.tmps) = true then Oper.wp Tryd.prog o act w K Q else E := by
  obtain ⟨v', w', hr, h1, h2⟩ := run_pushS w o.type base v l h ad u y hc hu hl hbase
  have hw : Region.wanted o (yielded ops act.tmps) = true := by simp [Region.wanted, hgd]
  rw [if_pos hw]
  unfold Oper.wp execOp
  simp only [ho, resolve, invoke, builtin, Sem.run_bind, Sem.run_pure, Result.andThen_ok, List.map_toArray, List.map_cons, List.map_nil, hs, hx, hr]
  exact hk v' w' h1 h2
theorem WS.alloc {base : Nat} {v : Value} {l : List (List Nat)} {w : World} (h : WS base v l w) (o : Obj) : WS base v l (w.alloc o) := h.stay ((Below.refl _ w).alloc (Nat.le_refl _) o)
theorem WS.grow {w0 wx wy : World} {v : Value} {l : List (List Nat)} (h : WS w0.heap.size v l wx) (hb : Below w0.heap.size w0 wx) (hg : wx.grownBy wy v.ownBlock) : Below w0.heap.size w0 wy := by
  obtain ⟨ss, h1, _⟩ := h
  exact hb.trans ((Kept.of_grown hg).below hb.size (fun i hi e => by have := (ownsRow_lt h1 e.symm).1; omega))
/-- Four bytes in a new block. -/
theorem four_new (w : World) (base : Nat) (hb : base ≤ w.heap.size) (x0 x1 x2 x3 : Nat) : OwnsB (w.alloc (.cells #[.int .u8 (x0 : Int), .int .u8 (x1 : Int), .int .u8 (x2 : Int), .int .u8 (x3 : Int)] 5)) base (.slice (some ⟨w.heap.size, 0, none⟩) 4 4) [x0, x1, x2, x3] :=
  ⟨rfl, .inr ⟨w.heap.size, 4, _, rfl, hb, heap_new w _, by simp, by decide, rfl, rfl⟩⟩
end Go.Proofs.YtgamfpgejkhbcaaDoor.K
