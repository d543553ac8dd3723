/- Bytes alone; Find: contracts. -/
import Derived.Test.YtofcpnehnpopaaaMRunW
import Derived.Test.YtofcpnehnpopaaaMNew
namespace Go.Proofs.Ytofcpnehnpopaaa
set_option maxRecDepth 100000
open Go Go.RowKit

/-- A token appended to a row of one's own. -/
theorem wpList_push {ops : Array Oper} {rest : List Oper} {o : Oper} {act : Act} {Q : Exit → Act → World → Prop} (w : World) (hgd : o.guard = none) (s x : Operand)
    (ho : o.op = .call { callee := .builtin .append, args := #[s, x], argTypes := #[22, 22] })
    (base : Nat) (v : Value) (X : List Tk) (hs : act.eval s = v) (hown : OwnsT w base v X) (t : Tk) (ad : Nat) (hx : act.eval x = .slice (some ⟨ad, 0, none⟩) 1 1)
    (hc : ∀ j u, ([.int .u8 t.1, .int .i64 t.2.1, .int .i64 t.2.2] : List Value)[j]? = some u → w.cell? ((⟨ad, 0, none⟩ : Addr).add j) = some u) (hb : X.length ≤ 1000000000) (hbase : base ≤ w.heap.size)
    (h : ∀ a' cap' w', OwnsT w' base (.slice a' (X.length + 1) cap') (X ++ [t]) → w.grownBy w' v.ownBlock → wpList Try.prog ops Q rest (act.put o.dst (.slice a' (X.length + 1) cap')) w') : wpList Try.prog ops Q (o :: rest) act w := by
  obtain ⟨i, hi, hz, hsz, hby⟩ := info_parts Try.infoTok
  refine wpList_append_own w hgd s x 22 ho base 32 i _ 3 24 Try.underlying22 hi hz hsz hby rfl (by decide) v X.length (tc X) hs hown ⟨ad, 0, none⟩ 1 1 [.int .u8 t.1, .int .i64 t.2.1, .int .i64 t.2.2] hx rfl hc (by intro u hu; simp at hu; rcases hu with rfl | rfl | rfl <;> rfl) (by unfold maxLen; omega) (by omega) hbase ?_
  intro v' w' h1 h2 _
  have h3 : OwnsT w' base v' (X ++ [t]) := OwnsT.push h1
  obtain ⟨a', cap', rfl, _⟩ := h3.form
  rw [List.length_append, List.length_singleton] at h3 ⊢
  exact h a' cap' w' h3 h2

/-- Bytes, each a token. -/
def alT (zs : List Int) : List Tk := zs.map fun b => (b, 0, 0)
theorem alT_length (zs : List Int) : (alT zs).length = zs.length := by simp [alT]
theorem alT_at (zs : List Int) {i : Nat} (h : i < zs.length) : tk (alT zs) i = (ln zs i, 0, 0) := by rw [tk_in (by rw [alT_length]; exact h)]; simp [alT, ln_in h]
theorem alT_rt (zs : List Int) : Rt (alT zs) := fun j hj => by rw [alT_length] at hj; rw [alT_at zs hj]; exact ok_byte _ _
theorem alT_tel (zs : List Int) : ∀ i, i ≤ zs.length → tel ((alT zs).take i) = zs.take i := by
  intro i
  induction i with
  | zero => intro _; simp [tel]
  | succ i ih =>
    intro h
    rw [tk_take_snoc (by rw [alT_length]; omega), tel_snoc, ih (by omega), alT_at zs (by omega), take_snoc (by omega)]
    simp [tel1]
theorem alT_tell (zs : List Int) : tel (alT zs) = zs := by
  have := alT_tel zs zs.length (Nat.le_refl _)
  rw [List.take_length, ← alT_length zs, List.take_length] at this
  exact this
theorem alT_bt {zs : List Int} (hz : ∀ i, 0 ≤ ln zs i ∧ ln zs i ≤ 255) : Bt (alT zs) := fun i => by
  rcases Nat.lt_or_ge i zs.length with h | h
  · rw [alT_at zs h]; exact hz i
  · unfold tk List.getD; rw [List.getElem?_eq_none (by rw [alT_length]; exact h)]; simp
/-- A row of tokens, being made. -/
def alF (zs : List Int) (i : Nat) : List Tk := (List.range zs.length).map fun j => if j < i then (ln zs j, 0, 0) else (0, 0, 0)
theorem alF_length (zs : List Int) (i : Nat) : (alF zs i).length = zs.length := by simp [alF]
theorem alF_zero (zs : List Int) : alF zs 0 = List.replicate zs.length (0, 0, 0) := by
  apply List.ext_getElem?
  intro k
  by_cases h : k < zs.length
  · simp [alF, h]
  · simp [alF, h]
theorem alF_all (zs : List Int) : alF zs zs.length = alT zs := by
  apply List.ext_getElem?
  intro k
  by_cases h : k < zs.length
  · simp [alF, alT, h, ln_in h]
  · simp [alF, alT, h]
theorem alF_set (zs : List Int) (i : Nat) (h : i < zs.length) : (alF zs i).set i (ln zs i, 0, 0) = alF zs (i + 1) := by
  apply List.ext_getElem?
  intro k
  rw [List.getElem?_set, alF_length]
  by_cases e : i = k
  · subst e; simp [alF, h]
  · rw [if_neg e]
    by_cases hk : k < zs.length
    · have : k < i ↔ k < i + 1 := by omega
      simp [alF, hk, this]
    · simp [alF, hk]
theorem alF_at (zs : List Int) (i : Nat) (h : i < zs.length) : tk (alF zs i) i = (0, 0, 0) := by
  rw [tk_in (by rw [alF_length]; exact h)]; simp [alF]
/-- A row of tokens in a block of its own. -/
def TRo (g : Nat) (xs : List Tk) (w : World) : Prop := w.heap[g]? = some (.cells (tc xs).toArray 32 (0, 0))
theorem tc_set (xs : List Tk) (i : Nat) (t : Tk) (h : i < xs.length) : (((tc xs).set (i * 3) (.int .u8 t.1)).set (i * 3 + 1) (.int .i64 t.2.1)).set (i * 3 + 2) (.int .i64 t.2.2) = tc (xs.set i t) := by
  induction xs generalizing i with
  | nil => simp at h
  | cons x xs ih =>
    cases i with
    | zero => simp [tc_cons]
    | succ i =>
      have := ih i (by simpa using h)
      rw [List.set_cons_succ, tc_cons, tc_cons, ← this, show (i + 1) * 3 = i * 3 + 3 by omega]
      simp
theorem tc_set0 (xs : List Tk) (i : Nat) (b : Int) (h : i < xs.length) : (tc xs).set (i * 3) (.int .u8 b) = tc (xs.set i (b, (tk xs i).2.1, (tk xs i).2.2)) := by
  rw [← tc_set xs i _ h]
  obtain ⟨_, h2, h3⟩ := tc_at xs h
  apply List.ext_getElem?
  intro k
  rw [List.getElem?_set (i := i * 3 + 2), List.getElem?_set (i := i * 3 + 1)]
  have hl : i * 3 + 3 ≤ (tc xs).length := by rw [tc_length]; omega
  by_cases e2 : i * 3 + 2 = k
  · subst e2
    rw [if_pos rfl, if_pos (by simp; omega), List.getElem?_set, if_neg (by omega), h3]
  · rw [if_neg e2]
    by_cases e1 : i * 3 + 1 = k
    · subst e1
      rw [if_pos rfl, if_pos (by simp; omega), List.getElem?_set, if_neg (by omega), h2]
    · rw [if_neg e1]
theorem TRo.set0 {g : Nat} {xs : List Tk} {w : World} (h : TRo g xs w) {i : Nat} (hi : i < xs.length) (b : Int) : TRo g (xs.set i (b, (tk xs i).2.1, (tk xs i).2.2)) (w.setCell ⟨g, i * 3, none⟩ (.int .u8 b)) := by
  unfold TRo at h ⊢
  rw [set_of h, ← tc_set0 xs i b hi]
  simp
theorem TRo.cell {g : Nat} {xs : List Tk} {w : World} (h : TRo g xs w) {i : Nat} (hi : i < xs.length) : w.cell? ⟨g, i * 3, none⟩ = some (.int .u8 (tk xs i).1) := by
  rw [cells_of h]
  have := (tc_at xs hi).1
  simpa using this
theorem TRo.owns {g : Nat} {xs : List Tk} {w : World} (h : TRo g xs w) {base : Nat} (hb : base ≤ g) (hl : xs.length ≤ 1000000000) : OwnsT w base (.slice (some ⟨g, 0, none⟩) xs.length xs.length) xs := by
  refine ⟨by rw [tc_length], .inr ⟨g, xs.length, (tc xs).toArray, rfl, hb, h, Nat.le_refl _, by unfold maxLen; omega, by simp [tc_length], ?_⟩⟩
  rw [← tc_length]; simp
theorem tc_zero (n : Nat) : madeCells (Value.agg #[.int .u8 0, .int .i64 0, .int .i64 0]).cells (n * 3) = (tc (List.replicate n (0, 0, 0))).toArray := by
  apply Array.ext_getElem?
  intro j
  by_cases h : j < n * 3
  · have hd : j = (j / 3) * 3 + j % 3 := by omega
    have hj3 : j / 3 < n := by omega
    obtain ⟨h0, h1, h2⟩ := tc_at (List.replicate n ((0 : Int), (0 : Int), (0 : Int))) (i := j / 3) (by simp; omega)
    have ht : tk (List.replicate n ((0 : Int), (0 : Int), (0 : Int))) (j / 3) = (0, 0, 0) := by rw [tk_in (by simp; omega)]; simp
    rw [ht] at h0 h1 h2
    have hm : j % 3 = 0 ∨ j % 3 = 1 ∨ j % 3 = 2 := by omega
    have e : ((tc (List.replicate n ((0 : Int), (0 : Int), (0 : Int)))).toArray)[j]? = (tc (List.replicate n ((0 : Int), (0 : Int), (0 : Int))))[j]? := by simp
    rw [e]
    clear e
    rcases hm with hm | hm | hm
    · rw [show (tc (List.replicate n ((0 : Int), (0 : Int), (0 : Int))))[j]? = some (.int .u8 0) by rw [hd, hm]; exact h0]
      simp [madeCells, Value.cells, h, hm]
    · rw [show (tc (List.replicate n ((0 : Int), (0 : Int), (0 : Int))))[j]? = some (.int .i64 0) by rw [hd, hm]; exact h1]
      simp [madeCells, Value.cells, h, hm]
    · rw [show (tc (List.replicate n ((0 : Int), (0 : Int), (0 : Int))))[j]? = some (.int .i64 0) by rw [hd, hm]; exact h2]
      simp [madeCells, Value.cells, h, hm]
  · rw [Array.getElem?_eq_none (by rw [size_madeCells]; omega), Array.getElem?_eq_none (by simp [tc_length]; omega)]
theorem made_toks (n : Nat) (hn : n ≤ 1000000000) (W : World) :
    (Instr.makeSlice 22 (.int .i64 (n : Int)) (.int .i64 (n : Int))).run Try.prog W = .ok (.slice (some ⟨W.heap.size, 0, none⟩) n n) (W.alloc (.cells (tc (List.replicate n (0, 0, 0))).toArray 32)) := by
  obtain ⟨i, hi, hz, hs, hb⟩ := info_parts Try.infoTok
  have := run_make (P := Try.prog) W 22 32 i _ Try.underlying22 hi hz .i64 .i64 n n (by omega) (by omega) (by rw [hb]; omega) (by omega)
  rw [this, hs, Int.toNat_natCast, tc_zero]

theorem Bys.cell {w w' : World} {a : Option Addr} {zs : List Int} (h : Bys w a zs) (k : Below w.heap.size w w') {i : Nat} (hi : i < zs.length) : ∃ b off, a = some ⟨b, off, none⟩ ∧ b < w.heap.size ∧ w'.cell? ⟨b, off + i, none⟩ = some (.int .u8 (ln zs i)) := by
  rcases h.at_ with h' | ⟨b, off, h1, ha, hc⟩
  · omega
  · exact ⟨b, off, ha, h1, (k.cell (p := ⟨b, off + i, none⟩) h1).trans (hc i hi)⟩

/-- What Find answers. -/
def FindOk (zs : List Int) (lv : Int) (w : World) (e : Ending) (w' : World) : Prop :=
  ∃ a cap xs, e = .returned (.slice a xs.length cap) ∧ OwnsT w' w.heap.size (.slice a xs.length cap) xs ∧ Below w.heap.size w w' ∧ (lv < 1 → xs = alT zs) ∧ (1 ≤ lv → FdTo zs zs.length xs)
set_option maxHeartbeats 2000000 in
theorem alone_c (a : Option Addr) (cap : Nat) (zs : List Int) (w : World) (h : Bys w a zs) (hl : zs.length ≤ 1000000000) :
    Calls Try.prog 23 #[.slice a zs.length cap] w fun e w' => e = .returned (.slice (some ⟨w.heap.size, 0, none⟩) zs.length zs.length) ∧ TRo w.heap.size (alT zs) w' ∧ Below w.heap.size w w' := by
  have HT := hide h
  have hmk := made_toks zs.length hl
  have HZ : Hid ((tc (List.replicate zs.length (0, 0, 0))).toArray = (tc (alF zs 0)).toArray) := by rw [alF_zero]; exact rfl
  clear h
  go_enter Try.func23, Try.ntmps23
  go_wp2_with fail
  go_loopg [4, 5, 11] zs.length (fun gk v4 v5 v11 wx => ∃ i : Nat, i + gk = zs.length ∧ v11 = .int .i64 i ∧ Hid (TRo w.heap.size (alF zs i) wx ∧ Below w.heap.size w wx))
  case atStart =>
    refine ⟨0, by omega, rfl, ?_, (Below.refl _ w).alloc (Nat.le_refl _) _⟩
    unfold TRo
    rw [← HZ.out]
    exact heap_new w _
  case round =>
    obtain ⟨i, hig, rfl, HR⟩ := hrel
    cases gk with
    | zero =>
      obtain rfl : i = zs.length := by omega
      go_wp2_with fail
      go_ret
      refine ⟨rfl, ?_, HR.out.2⟩
      have := HR.out.1
      rw [alF_all] at this
      exact this
    | succ g1 =>
      have hlt : (i : Int) < (zs.length : Int) := by omega
      obtain ⟨b, off, rfl, hbl, hc⟩ := HT.out.cell HR.out.2 (i := i) (by omega)
      have t0 := HR.out.1.cell (i := i) (by rw [alF_length]; omega)
      have f0 := free_of HR.out.1 (i * 3)
      have hset := HR.out.1.set0 (i := i) (by rw [alF_length]; omega) (ln zs i)
      rw [alF_at zs i (by omega)] at t0 hset
      simp only at t0 hset
      rw [alF_set zs i (by omega)] at hset
      have HSET := hide hset
      clear hset HZ
      generalize ln zs i = X at hc HSET
      go_wp2_with fail
      go_roundg g1
      case measure => omega
      case rel => exact ⟨i + 1, by omega, by go_num, HSET.out, HR.out.2.setCell (Nat.le_refl _) _⟩
end Go.Proofs.Ytofcpnehnpopaaa
