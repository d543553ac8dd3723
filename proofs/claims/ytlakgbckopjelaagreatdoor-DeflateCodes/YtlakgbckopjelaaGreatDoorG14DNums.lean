/- Several texts, laid together: MNew, MFind, DNum, DNums. -/
import Derived.Test.YtlakgbckopjelaaGreatDoorG12MRun
import Derived.Test.YtlakgbckopjelaaGreatDoorMRunW
import Derived.Test.YtlakgbckopjelaaGreatDoorG10DTok
import Derived.Test.YtlakgbckopjelaaGreatDoorG11MSlot
/- A new finder: contract. -/
namespace Go.Proofs.YtlakgbckopjelaaGreatDoor.M
set_option maxRecDepth 100000
open Go Go.RowKit

def isZ : Value → Bool
  | .int .i32 n => decide (n = 0)
  | _ => false
theorem isZ_eq {v : Value} (h : isZ v = true) : v = .int .i32 0 := by
  unfold isZ at h
  split at h
  · simp at h; subst h; rfl
  · cases h
/-- A finder's zero cells. -/
noncomputable def finZ : List Value := ((((Tryz.prog.info? 129).bind (·.zero)).map (fun z => z.cells.toList))).getD []
theorem finZ_len : finZ.length = 16388 := by kernel_rfl
theorem finZ_zero : ((finZ.drop 3).take 16384).all isZ = true := by kernel_rfl
theorem finZ_two : finZ[2]? = some (.int .i64 0) := by kernel_rfl
theorem finZ_places : (Tryz.prog.underlying 129).bind (fun d => match d with | .struct fields => fields.toList.mapM (fun f => (Tryz.prog.info? f.type).map fun i => (f.offset, i.size)) | _ => none) = some [(0, 1), (1, 1), (2, 1), (3, 16384), (16387, 1)] := by kernel_rfl
theorem finZ_info : (Tryz.prog.info? 129).isSome = true := by kernel_rfl
theorem finZ_some : (((Tryz.prog.info? 129).bind (·.zero))).isSome = true := by kernel_rfl
theorem finZ_at {s : Nat} (h : s < 16384) : finZ[3 + s]? = some (.int .i32 0) := by
  have h1 : ((finZ.drop 3).take 16384)[s]? = finZ[3 + s]? := by rw [List.getElem?_take_of_lt h, List.getElem?_drop]
  have hl : s < ((finZ.drop 3).take 16384).length := by rw [List.length_take, List.length_drop, finZ_len]; omega
  rw [← h1, List.getElem?_eq_getElem hl]
  have := List.all_eq_true.1 finZ_zero _ (List.getElem_mem hl)
  rw [isZ_eq this]

theorem fill_one {pl : Nat → Option (Nat × Nat)} {cells : Array Value} {i off : Nat} {v : Value} {rest : List (Nat × Value)} (h : pl i = some (off, 1)) (hv : v.cells = #[v]) (ho : off + 1 ≤ cells.size) : Instr.fill pl cells ((i, v) :: rest) = Instr.fill pl (cells.setIfInBounds off v) rest := by
  rw [Instr.fill, h]
  simp only [hv]
  have : ¬ off + 1 > cells.size := by omega
  simp [this]
theorem wpList_build {P : Program} {ops : Array Oper} {rest : List Oper} {op : Oper} {a : Act} {w : World} {Q : Exit → Act → World → Prop} (hgd : op.guard = none) (t : TypeId) (parts : Array (Nat × Operand)) (ho : op.op = .build t parts)
    (ps : List (Nat × Value)) (cells : Array Value) (hc : P.built t ps = some cells) (hps : (parts.map fun (i, x) => (i, a.eval x)).toList = ps) (h : wpList P ops Q rest (a.put op.dst (.agg cells)) w) : wpList P ops Q (op :: rest) a w :=
  wpList_plain hgd fun _ hK => by
    unfold Oper.wp execOp
    subst hps
    simp only [ho, Sem.run_bind, run_build w t _ cells hc, Result.andThen_ok]
    exact hK _ _ h
/-- What a finder's literal builds. -/
theorem built_fin (d t b : Value) (hd : d.cells = #[d]) (ht : t.cells = #[t]) (hb : b.cells = #[b]) :
    ∃ cs : Array Value, Tryz.prog.built 129 [(0, d), (1, t), (4, b)] = some cs ∧ cs.size = 16388 ∧ cs[0]? = some d ∧ cs[1]? = some t ∧ cs[2]? = some (.int .i64 0) ∧ (∀ s, s < 16384 → cs[3 + s]? = some (.int .i32 0)) ∧ cs[16387]? = some b := by
  obtain ⟨z, hz⟩ := Option.isSome_iff_exists.1 finZ_some
  obtain ⟨it, hit⟩ := Option.isSome_iff_exists.1 finZ_info
  have hzz : it.zero = some z := by rw [hit] at hz; exact hz
  have hZ : finZ = z.cells.toList := by unfold finZ; rw [hz]; rfl
  have hp := finZ_places
  cases hu : Tryz.prog.underlying 129 with
  | none => rw [hu] at hp; cases hp
  | some dd =>
    rw [hu] at hp
    have hsz : z.cells.size = 16388 := by have := finZ_len; rw [hZ] at this; simpa using this
    have h2 : z.cells[2]? = some (.int .i64 0) := by have := finZ_two; rw [hZ] at this; simpa using this
    have h3 : ∀ s, s < 16384 → z.cells[3 + s]? = some (.int .i32 0) := fun s hs => by have := finZ_at hs; rw [hZ] at this; simpa using this
    cases dd <;> try (cases hp; done)
    case struct fields =>
      simp only [Option.bind_some] at hp
      generalize hcz : z.cells = C at hsz h2 h3
      refine ⟨((C.setIfInBounds 0 d).setIfInBounds 1 t).setIfInBounds 16387 b, ?_, ?_, ?_, ?_, ?_, fun s hs => ?_, ?_⟩
      · unfold Program.built
        simp only [hit, hu, hzz, hp, hcz]
        rw [fill_one (off := 0) (by rfl) hd (by omega), fill_one (off := 1) (by rfl) ht (by simp; omega), fill_one (off := 16387) (by rfl) hb (by simp; omega)]
        rfl
      · simp [hsz]
      · rw [Array.getElem?_setIfInBounds, if_neg (by omega), Array.getElem?_setIfInBounds, if_neg (by omega), Array.getElem?_setIfInBounds, if_pos rfl, if_pos (by omega)]
      · rw [Array.getElem?_setIfInBounds, if_neg (by omega), Array.getElem?_setIfInBounds, if_pos rfl, if_pos (by simp; omega)]
      · rw [Array.getElem?_setIfInBounds, if_neg (by omega), Array.getElem?_setIfInBounds, if_neg (by omega), Array.getElem?_setIfInBounds, if_neg (by omega)]; exact h2
      · rw [Array.getElem?_setIfInBounds, if_neg (by omega), Array.getElem?_setIfInBounds, if_neg (by omega), Array.getElem?_setIfInBounds, if_neg (by omega)]; exact h3 s hs
      · rw [Array.getElem?_setIfInBounds, if_pos rfl, if_pos (by simp; omega)]
theorem Tryz.infoI32 : (Tryz.prog.info? 21).map (fun i => (i.zero, i.size, i.bytes)) = some (some (.int .i32 0), 1, 4) := by kernel_rfl
theorem made_i32 (n : Nat) (hn : n ≤ 1000000000) (W : World) :
    (Instr.makeSlice 126 (.int .i64 (n : Int)) (.int .i64 (n : Int))).run Tryz.prog W = .ok (.slice (some ⟨W.heap.size, 0, none⟩) n n) (W.alloc (.cells (List.replicate n (.int .i32 0)).toArray 21)) := by
  obtain ⟨i, hi, hz, hs, hb⟩ := info_parts Tryz.infoI32
  have := run_make (P := Tryz.prog) W 126 21 i (.int .i32 0) Tryz.underlying126 hi hz .i64 .i64 n n (by omega) (by omega) (by rw [hb]; omega) (by omega)
  rw [this, hs]
  have e2 : madeCells (Value.int .i32 0).cells n = (List.replicate n (.int .i32 0)).toArray := by
    have := toList_madeCells_one (Value.int .i32 0) n
    rw [← Array.toList_inj]
    simpa [Value.cells] using this
  rw [Int.toNat_natCast, Nat.mul_one, e2]

set_option maxHeartbeats 2000000 in
theorem new_c (a : Option Addr) (cap : Nat) (zs : List Int) (lv : Int) (w : World) (h : Bys w a zs) (hl : zs.length ≤ 1000000000) (hcp : zs.length ≤ cap) (hB : 0 < zs.length → ∀ b off, a = some ⟨b, off, none⟩ → b < w.heap.size) (hlv : 1 ≤ lv) :
    Calls Tryz.prog 81 #[.slice a zs.length cap, .int .i64 lv] w fun e w' => e = .returned (.pointer (some ⟨w.heap.size + 1, 0, none⟩)) ∧ ∃ tr, 64 ≤ tr ∧ tr ≤ 256 ∧ FinAt w.heap.size w' (w.heap.size + 1) w.heap.size a cap zs tr 0 (fun _ => 0) (fun _ => 0) ∧ Below w.heap.size w w' := by
  obtain ⟨N, hN⟩ : ∃ N, min zs.length 32768 = N := ⟨_, rfl⟩
  have hNi : (if 32768 < (zs.length : Int) then (32768 : Int) else (zs.length : Int)) = (N : Int) := by omega
  have hmk := made_i32 N (by omega)
  have hout : ∀ (tr : Nat) (cs : Array Value), 64 ≤ tr → tr ≤ 256 → (cs.size = 16388 ∧ cs[0]? = some (.slice a zs.length cap) ∧ cs[1]? = some (.int .i64 (tr : Int)) ∧ cs[2]? = some (.int .i64 0) ∧ (∀ s, s < 16384 → cs[3 + s]? = some (.int .i32 0)) ∧ cs[16387]? = some (.slice (some ⟨w.heap.size, 0, none⟩) N N)) → ∃ tr, 64 ≤ tr ∧ tr ≤ 256 ∧ FinAt w.heap.size ((w.alloc (.cells (List.replicate N (.int .i32 0)).toArray 21)).alloc (.cells cs 129)) (w.heap.size + 1) w.heap.size a cap zs tr 0 (fun _ => 0) (fun _ => 0) ∧ Below w.heap.size w ((w.alloc (.cells (List.replicate N (.int .i32 0)).toArray 21)).alloc (.cells cs 129)) := by
    intro tr cs t1 t2 ⟨_, k0, k1, k2, k3, k4⟩
    have hbl : Below w.heap.size w ((w.alloc (.cells (List.replicate N (.int .i32 0)).toArray 21)).alloc (.cells cs 129)) := ((Below.refl _ w).alloc (Nat.le_refl _) _).alloc (by simp) _
    refine ⟨tr, t1, t2, ⟨⟨cs, heap_new2 w _ _, k0, k1, k2, k3, by rw [hN]; exact k4⟩, ⟨_, heap_new1 w _ _, fun x hx => ?_⟩, h.stay hbl, hB, ⟨by omega, Nat.le_refl _⟩, hcp⟩, hbl⟩
    rw [hN] at hx
    simp [hx]
  have HOUT := hide hout
  clear hout h hN
  by_cases h3 : 3 ≤ lv
  · have hif : (if 3 < lv then (3 : Int) else lv) = 3 := by omega
    obtain ⟨cs, hb, hr⟩ := built_fin (.slice a zs.length cap) (.int .i64 256) (.slice (some ⟨w.heap.size, 0, none⟩) N N) rfl rfl rfl
    have HBD := hide hb
    have HR := hide (HOUT.out 256 cs (by omega) (by omega) hr)
    clear hr hb HOUT
    go_enter Tryz.func81, Tryz.ntmps81
    go_wp2_with (refine wpList_build rfl 129 _ rfl _ cs HBD.out (by simp [Act.eval]) ?_)
    go_ret
    exact ⟨rfl, HR.out⟩
  · by_cases h2 : 2 ≤ lv
    · obtain rfl : lv = 2 := by omega
      obtain ⟨cs, hb, hr⟩ := built_fin (.slice a zs.length cap) (.int .i64 128) (.slice (some ⟨w.heap.size, 0, none⟩) N N) rfl rfl rfl
      have HBD := hide hb
      have HR := hide (HOUT.out 128 cs (by omega) (by omega) hr)
      clear hr hb HOUT
      go_enter Tryz.func81, Tryz.ntmps81
      go_wp2_with (refine wpList_build rfl 129 _ rfl _ cs HBD.out (by simp [Act.eval]) ?_)
      go_ret
      exact ⟨rfl, HR.out⟩
    · obtain rfl : lv = 1 := by omega
      obtain ⟨cs, hb, hr⟩ := built_fin (.slice a zs.length cap) (.int .i64 64) (.slice (some ⟨w.heap.size, 0, none⟩) N N) rfl rfl rfl
      have HBD := hide hb
      have HR := hide (HOUT.out 64 cs (by omega) (by omega) hr)
      clear hr hb HOUT
      go_enter Tryz.func81, Tryz.ntmps81
      go_wp2_with (refine wpList_build rfl 129 _ rfl _ cs HBD.out (by simp [Act.eval]) ?_)
      go_ret
      exact ⟨rfl, HR.out⟩
end Go.Proofs.YtlakgbckopjelaaGreatDoor.M

/- Bytes alone; Find: contracts. -/
namespace Go.Proofs.YtlakgbckopjelaaGreatDoor.M
set_option maxRecDepth 100000
open Go Go.RowKit

/-- A token appended to a row of one's own. -/
theorem wpList_push {ops : Array Oper} {rest : List Oper} {o : Oper} {act : Act} {Q : Exit → Act → World → Prop} (w : World) (hgd : o.guard = none) (s x : Operand)
    (ho : o.op = .call { callee := .builtin .append, args := #[s, x], argTypes := #[27, 27] })
    (base : Nat) (v : Value) (X : List Tk) (hs : act.eval s = v) (hown : OwnsT w base v X) (t : Tk) (ad : Nat) (hx : act.eval x = .slice (some ⟨ad, 0, none⟩) 1 1)
    (hc : ∀ j u, ([.int .u8 t.1, .int .i64 t.2.1, .int .i64 t.2.2] : List Value)[j]? = some u → w.cell? ((⟨ad, 0, none⟩ : Addr).add j) = some u) (hb : X.length ≤ 1000000000) (hbase : base ≤ w.heap.size)
    (h : ∀ a' cap' w', OwnsT w' base (.slice a' (X.length + 1) cap') (X ++ [t]) → w.grownBy w' v.ownBlock → wpList Tryz.prog ops Q rest (act.put o.dst (.slice a' (X.length + 1) cap')) w') : wpList Tryz.prog ops Q (o :: rest) act w := by
  obtain ⟨i, hi, hz, hsz, hby⟩ := info_parts Tryz.infoTok
  refine wpList_append_own w hgd s x 27 ho base 38 i _ 3 24 Tryz.underlying27 hi hz hsz hby rfl (by decide) v X.length (tc X) hs hown ⟨ad, 0, none⟩ 1 1 [.int .u8 t.1, .int .i64 t.2.1, .int .i64 t.2.2] hx rfl hc (by intro u hu; simp at hu; rcases hu with rfl | rfl | rfl <;> rfl) (by unfold maxLen; omega) (by omega) hbase ?_
  intro v' w' h1 h2 _
  have h3 : OwnsT w' base v' (X ++ [t]) := OwnsT.push h1
  obtain ⟨a', cap', rfl, _⟩ := h3.form
  rw [List.length_append, List.length_singleton] at h3 ⊢
  exact h a' cap' w' h3 h2

/-- Bytes, each a token. -/
def alT (zs : List Int) : List Tk := zs.map fun b => (b, 0, 0)
theorem alT_length (zs : List Int) : (alT zs).length = zs.length := by simp [alT]
theorem alT_at (zs : List Int) {i : Nat} (h : i < zs.length) : tk (alT zs) i = (ln zs i, 0, 0) := by rw [tk_in (by rw [alT_length]; exact h)]; simp [alT, ln_in h]
theorem alT_rt (zs : List Int) : Rt (alT zs) := fun j hj => by rw [alT_length] at hj; rw [alT_at zs hj]; exact ok_byte _ _
theorem alT_tel (zs : List Int) : ∀ i, i ≤ zs.length → tel ((alT zs).take i) = zs.take i := by
  intro i
  induction i with
  | zero => intro _; simp [tel]
  | succ i ih =>
    intro h
    rw [tk_take_snoc (by rw [alT_length]; omega), tel_snoc, ih (by omega), alT_at zs (by omega), take_snoc (by omega)]
    simp [tel1]
theorem alT_tell (zs : List Int) : tel (alT zs) = zs := by
  have := alT_tel zs zs.length (Nat.le_refl _)
  rw [List.take_length, ← alT_length zs, List.take_length] at this
  exact this
theorem alT_bt {zs : List Int} (hz : ∀ i, 0 ≤ ln zs i ∧ ln zs i ≤ 255) : Bt (alT zs) := fun i => by
  rcases Nat.lt_or_ge i zs.length with h | h
  · rw [alT_at zs h]; exact hz i
  · unfold tk List.getD; rw [List.getElem?_eq_none (by rw [alT_length]; exact h)]; simp
/-- A row of tokens, being made. -/
def alF (zs : List Int) (i : Nat) : List Tk := (List.range zs.length).map fun j => if j < i then (ln zs j, 0, 0) else (0, 0, 0)
theorem alF_length (zs : List Int) (i : Nat) : (alF zs i).length = zs.length := by simp [alF]
theorem alF_zero (zs : List Int) : alF zs 0 = List.replicate zs.length (0, 0, 0) := by
  apply List.ext_getElem?
  intro k
  by_cases h : k < zs.length
  · simp [alF, h]
  · simp [alF, h]
theorem alF_all (zs : List Int) : alF zs zs.length = alT zs := by
  apply List.ext_getElem?
  intro k
  by_cases h : k < zs.length
  · simp [alF, alT, h, ln_in h]
  · simp [alF, alT, h]
theorem alF_set (zs : List Int) (i : Nat) (h : i < zs.length) : (alF zs i).set i (ln zs i, 0, 0) = alF zs (i + 1) := by
  apply List.ext_getElem?
  intro k
  rw [List.getElem?_set, alF_length]
  by_cases e : i = k
  · subst e; simp [alF, h]
  · rw [if_neg e]
    by_cases hk : k < zs.length
    · have : k < i ↔ k < i + 1 := by omega
      simp [alF, hk, this]
    · simp [alF, hk]
theorem alF_at (zs : List Int) (i : Nat) (h : i < zs.length) : tk (alF zs i) i = (0, 0, 0) := by
  rw [tk_in (by rw [alF_length]; exact h)]; simp [alF]
/-- A row of tokens in a block of its own. -/
def TRo (g : Nat) (xs : List Tk) (w : World) : Prop := w.heap[g]? = some (.cells (tc xs).toArray 38 (0, 0))
theorem tc_set (xs : List Tk) (i : Nat) (t : Tk) (h : i < xs.length) : (((tc xs).set (i * 3) (.int .u8 t.1)).set (i * 3 + 1) (.int .i64 t.2.1)).set (i * 3 + 2) (.int .i64 t.2.2) = tc (xs.set i t) := by
  induction xs generalizing i with
  | nil => simp at h
  | cons x xs ih =>
    cases i with
    | zero => simp [tc_cons]
    | succ i =>
      have := ih i (by simpa using h)
      rw [List.set_cons_succ, tc_cons, tc_cons, ← this, show (i + 1) * 3 = i * 3 + 3 by omega]
      simp
theorem tc_set0 (xs : List Tk) (i : Nat) (b : Int) (h : i < xs.length) : (tc xs).set (i * 3) (.int .u8 b) = tc (xs.set i (b, (tk xs i).2.1, (tk xs i).2.2)) := by
  rw [← tc_set xs i _ h]
  obtain ⟨_, h2, h3⟩ := tc_at xs h
  apply List.ext_getElem?
  intro k
  rw [List.getElem?_set (i := i * 3 + 2), List.getElem?_set (i := i * 3 + 1)]
  have hl : i * 3 + 3 ≤ (tc xs).length := by rw [tc_length]; omega
  by_cases e2 : i * 3 + 2 = k
  · subst e2
    rw [if_pos rfl, if_pos (by simp; omega), List.getElem?_set, if_neg (by omega), h3]
  · rw [if_neg e2]
    by_cases e1 : i * 3 + 1 = k
    · subst e1
      rw [if_pos rfl, if_pos (by simp; omega), List.getElem?_set, if_neg (by omega), h2]
    · rw [if_neg e1]
theorem TRo.set0 {g : Nat} {xs : List Tk} {w : World} (h : TRo g xs w) {i : Nat} (hi : i < xs.length) (b : Int) : TRo g (xs.set i (b, (tk xs i).2.1, (tk xs i).2.2)) (w.setCell ⟨g, i * 3, none⟩ (.int .u8 b)) := by
  unfold TRo at h ⊢
  rw [set_of h, ← tc_set0 xs i b hi]
  simp
theorem TRo.cell {g : Nat} {xs : List Tk} {w : World} (h : TRo g xs w) {i : Nat} (hi : i < xs.length) : w.cell? ⟨g, i * 3, none⟩ = some (.int .u8 (tk xs i).1) := by
  rw [cells_of h]
  have := (tc_at xs hi).1
  simpa using this
theorem TRo.owns {g : Nat} {xs : List Tk} {w : World} (h : TRo g xs w) {base : Nat} (hb : base ≤ g) (hl : xs.length ≤ 1000000000) : OwnsT w base (.slice (some ⟨g, 0, none⟩) xs.length xs.length) xs := by
  refine ⟨by rw [tc_length], .inr ⟨g, xs.length, (tc xs).toArray, rfl, hb, h, Nat.le_refl _, by unfold maxLen; omega, by simp [tc_length], ?_⟩⟩
  rw [← tc_length]; simp
theorem tc_zero (n : Nat) : madeCells (Value.agg #[.int .u8 0, .int .i64 0, .int .i64 0]).cells (n * 3) = (tc (List.replicate n (0, 0, 0))).toArray := by
  apply Array.ext_getElem?
  intro j
  by_cases h : j < n * 3
  · have hd : j = (j / 3) * 3 + j % 3 := by omega
    have hj3 : j / 3 < n := by omega
    obtain ⟨h0, h1, h2⟩ := tc_at (List.replicate n ((0 : Int), (0 : Int), (0 : Int))) (i := j / 3) (by simp; omega)
    have ht : tk (List.replicate n ((0 : Int), (0 : Int), (0 : Int))) (j / 3) = (0, 0, 0) := by rw [tk_in (by simp; omega)]; simp
    rw [ht] at h0 h1 h2
    have hm : j % 3 = 0 ∨ j % 3 = 1 ∨ j % 3 = 2 := by omega
    have e : ((tc (List.replicate n ((0 : Int), (0 : Int), (0 : Int)))).toArray)[j]? = (tc (List.replicate n ((0 : Int), (0 : Int), (0 : Int))))[j]? := by simp
    rw [e]
    clear e
    rcases hm with hm | hm | hm
    · rw [show (tc (List.replicate n ((0 : Int), (0 : Int), (0 : Int))))[j]? = some (.int .u8 0) by rw [hd, hm]; exact h0]
      simp [madeCells, Value.cells, h, hm]
    · rw [show (tc (List.replicate n ((0 : Int), (0 : Int), (0 : Int))))[j]? = some (.int .i64 0) by rw [hd, hm]; exact h1]
      simp [madeCells, Value.cells, h, hm]
    · rw [show (tc (List.replicate n ((0 : Int), (0 : Int), (0 : Int))))[j]? = some (.int .i64 0) by rw [hd, hm]; exact h2]
      simp [madeCells, Value.cells, h, hm]
  · rw [Array.getElem?_eq_none (by rw [size_madeCells]; omega), Array.getElem?_eq_none (by simp [tc_length]; omega)]
theorem made_toks (n : Nat) (hn : n ≤ 1000000000) (W : World) :
    (Instr.makeSlice 27 (.int .i64 (n : Int)) (.int .i64 (n : Int))).run Tryz.prog W = .ok (.slice (some ⟨W.heap.size, 0, none⟩) n n) (W.alloc (.cells (tc (List.replicate n (0, 0, 0))).toArray 38)) := by
  obtain ⟨i, hi, hz, hs, hb⟩ := info_parts Tryz.infoTok
  have := run_make (P := Tryz.prog) W 27 38 i _ Tryz.underlying27 hi hz .i64 .i64 n n (by omega) (by omega) (by rw [hb]; omega) (by omega)
  rw [this, hs, Int.toNat_natCast, tc_zero]

theorem Bys.cell {w w' : World} {a : Option Addr} {zs : List Int} (h : Bys w a zs) (k : Below w.heap.size w w') {i : Nat} (hi : i < zs.length) : ∃ b off, a = some ⟨b, off, none⟩ ∧ b < w.heap.size ∧ w'.cell? ⟨b, off + i, none⟩ = some (.int .u8 (ln zs i)) := by
  rcases h.at_ with h' | ⟨b, off, h1, ha, hc⟩
  · omega
  · exact ⟨b, off, ha, h1, (k.cell (p := ⟨b, off + i, none⟩) h1).trans (hc i hi)⟩

/-- What Find answers. -/
def FindOk (zs : List Int) (lv : Int) (w : World) (e : Ending) (w' : World) : Prop :=
  ∃ a cap xs, e = .returned (.slice a xs.length cap) ∧ OwnsT w' w.heap.size (.slice a xs.length cap) xs ∧ Below w.heap.size w w' ∧ (lv < 1 → xs = alT zs) ∧ (1 ≤ lv → FdTo zs zs.length xs)
set_option maxHeartbeats 2000000 in
theorem alone_c (a : Option Addr) (cap : Nat) (zs : List Int) (w : World) (h : Bys w a zs) (hl : zs.length ≤ 1000000000) :
    Calls Tryz.prog 80 #[.slice a zs.length cap] w fun e w' => e = .returned (.slice (some ⟨w.heap.size, 0, none⟩) zs.length zs.length) ∧ TRo w.heap.size (alT zs) w' ∧ Below w.heap.size w w' := by
  have HT := hide h
  have hmk := made_toks zs.length hl
  have HZ : Hid ((tc (List.replicate zs.length (0, 0, 0))).toArray = (tc (alF zs 0)).toArray) := by rw [alF_zero]; exact rfl
  clear h
  go_enter Tryz.func80, Tryz.ntmps80
  go_wp2_with fail
  go_loopg [4, 5, 11] zs.length (fun gk v4 v5 v11 wx => ∃ i : Nat, i + gk = zs.length ∧ v11 = .int .i64 i ∧ Hid (TRo w.heap.size (alF zs i) wx ∧ Below w.heap.size w wx))
  case atStart =>
    refine ⟨0, by omega, rfl, ?_, (Below.refl _ w).alloc (Nat.le_refl _) _⟩
    unfold TRo
    rw [← HZ.out]
    exact heap_new w _
  case round =>
    obtain ⟨i, hig, rfl, HR⟩ := hrel
    cases gk with
    | zero =>
      obtain rfl : i = zs.length := by omega
      go_wp2_with fail
      go_ret
      refine ⟨rfl, ?_, HR.out.2⟩
      have := HR.out.1
      rw [alF_all] at this
      exact this
    | succ g1 =>
      have hlt : (i : Int) < (zs.length : Int) := by omega
      obtain ⟨b, off, rfl, hbl, hc⟩ := HT.out.cell HR.out.2 (i := i) (by omega)
      have t0 := HR.out.1.cell (i := i) (by rw [alF_length]; omega)
      have f0 := free_of HR.out.1 (i * 3)
      have hset := HR.out.1.set0 (i := i) (by rw [alF_length]; omega) (ln zs i)
      rw [alF_at zs i (by omega)] at t0 hset
      simp only at t0 hset
      rw [alF_set zs i (by omega)] at hset
      have HSET := hide hset
      clear hset HZ
      generalize ln zs i = X at hc HSET
      go_wp2_with fail
      go_roundg g1
      case measure => omega
      case rel => exact ⟨i + 1, by omega, by go_num, HSET.out, HR.out.2.setCell (Nat.le_refl _) _⟩
end Go.Proofs.YtlakgbckopjelaaGreatDoor.M

/- Marks in memory; same, again: contracts. -/
namespace Go.Proofs.YtlakgbckopjelaaGreatDoor
set_option maxRecDepth 100000
open Go Go.RowKit

abbrev mO (m : Mk) : Obj := .cells #[.int .i64 (m.1 : Int), .int .i64 (m.2.1 : Int), .int .i64 (m.2.2 : Int)] 94
abbrev mL (m : Mk) : List Value := [.int .i64 (m.1 : Int), .int .i64 (m.2.1 : Int), .int .i64 (m.2.2 : Int)]
def mc (xs : List Mk) : List Value := xs.flatMap mL
theorem mc_snoc (xs : List Mk) (t : Mk) : mc (xs ++ [t]) = mc xs ++ mL t := by simp [mc]
theorem mc_cons (t : Mk) (xs : List Mk) : mc (t :: xs) = mL t ++ mc xs := by simp [mc]
theorem mc_length (xs : List Mk) : (mc xs).length = xs.length * 3 := by
  induction xs with
  | nil => rfl
  | cons t xs ih => rw [mc_cons, List.length_append, ih]; simp; omega
def mkAt (xs : List Mk) (i : Nat) : Mk := xs.getD i (0, 0, 0)
theorem mkAt_in {xs : List Mk} {i : Nat} (h : i < xs.length) : mkAt xs i = xs[i] := by simp [mkAt, List.getD, h]
theorem mc_at (xs : List Mk) {i : Nat} (h : i < xs.length) : (mc xs)[i * 3]? = some (.int .i64 ((mkAt xs i).1 : Int)) ∧ (mc xs)[i * 3 + 1]? = some (.int .i64 ((mkAt xs i).2.1 : Int)) ∧ (mc xs)[i * 3 + 2]? = some (.int .i64 ((mkAt xs i).2.2 : Int)) := by
  induction xs generalizing i with
  | nil => simp at h
  | cons t xs ih =>
    cases i with
    | zero => simp [mc_cons, mkAt]
    | succ i =>
      have hi : i < xs.length := by simpa using h
      obtain ⟨h1, h2, h3⟩ := ih hi
      have e : mkAt (t :: xs) (i + 1) = mkAt xs i := by simp [mkAt]
      rw [e, mc_cons, show (i + 1) * 3 = i * 3 + 3 by omega]
      refine ⟨?_, ?_, ?_⟩
      · rw [List.getElem?_append_right (by simp)]; simpa using h1
      · rw [List.getElem?_append_right (by simp)]; simpa using h2
      · rw [List.getElem?_append_right (by simp)]; simpa using h3
/-- The marks xs lie where a slice leads. -/
def Mks (w : World) (a : Option Addr) (xs : List Mk) : Prop :=
  xs.length = 0 ∨ ∃ b off cs, a = some ⟨b, off, none⟩ ∧ w.heap[b]? = some (.cells cs 94 (0, 0)) ∧ ∀ i, i < xs.length → w.cell? ⟨b, off + i * 3, none⟩ = some (.int .i64 ((mkAt xs i).1 : Int)) ∧ w.cell? ⟨b, off + i * 3 + 1, none⟩ = some (.int .i64 ((mkAt xs i).2.1 : Int)) ∧ w.cell? ⟨b, off + i * 3 + 2, none⟩ = some (.int .i64 ((mkAt xs i).2.2 : Int))
theorem Mks.kept {P : Nat → Prop} {w w' : World} {a : Option Addr} {xs : List Mk} (h : Mks w a xs) (k : Kept P w w') (hn : ∀ b cs, w.heap[b]? = some (.cells cs 94 (0, 0)) → ¬ P b) : Mks w' a xs := by
  rcases h with h | ⟨b, off, cs, ha, hb, hc⟩
  · exact .inl h
  · refine .inr ⟨b, off, cs, ha, k.heap hb (hn b cs hb), fun i hi => ?_⟩
    obtain ⟨c0, c1, c2⟩ := hc i hi
    have hlt := lt_of_block hb
    exact ⟨(k.cell (p := ⟨b, _, none⟩) hlt (hn b cs hb)).trans c0, (k.cell (p := ⟨b, _, none⟩) hlt (hn b cs hb)).trans c1, (k.cell (p := ⟨b, _, none⟩) hlt (hn b cs hb)).trans c2⟩
theorem Mks.stay {w w' : World} {a : Option Addr} {xs : List Mk} (h : Mks w a xs) (k : Below w.heap.size w w') : Mks w' a xs := h.kept (Kept.of_below k) (fun b cs hb e => by have := lt_of_block hb; omega)
def OwnsM (w : World) (base : Nat) (v : Value) (xs : List Mk) : Prop := w.ownsRow base 94 3 v xs.length (mc xs)
theorem OwnsM.nil (w : World) (base : Nat) : OwnsM w base (.slice none 0 0) [] := World.ownsRow_nil _ _ _ _
theorem OwnsM.stay {w w' : World} {base : Nat} {v : Value} {xs : List Mk} (h : OwnsM w base v xs) (k : Below w.heap.size w w') : OwnsM w' base v xs := ownsRow_kept h (Kept.of_below k) (fun g hg e => by have := (ownsRow_lt h hg).2; omega)
theorem OwnsM.form {w : World} {base : Nat} {v : Value} {xs : List Mk} (h : OwnsM w base v xs) : ∃ a cap, v = .slice a xs.length cap ∧ Mks w a xs := by
  rcases h.2 with ⟨rfl, h2⟩ | ⟨g, cap, cur, rfl, hg, hh, hc1, hc2, hc3, hc4⟩
  · exact ⟨none, 0, by rw [h2], .inl h2⟩
  · refine ⟨_, cap, rfl, .inr ⟨g, 0, _, rfl, hh, fun i hi => ?_⟩⟩
    have key : ∀ j, j < xs.length * 3 → w.cell? ⟨g, j, none⟩ = (mc xs)[j]? := fun j hj => by
      rw [cells_of hh, ← hc4, List.getElem?_take_of_lt hj, Array.getElem?_toList]
    obtain ⟨h1, h2, h3⟩ := mc_at xs hi
    rw [Nat.zero_add]
    exact ⟨(key _ (by omega)).trans h1, (key _ (by omega)).trans h2, (key _ (by omega)).trans h3⟩
theorem Tryz.infoMark : (Tryz.prog.info? 94).map (fun i => (i.zero, i.size, i.bytes)) = some (some (.agg #[.int .i64 0, .int .i64 0, .int .i64 0]), 3, 24) := by kernel_rfl
theorem one_mk (w : World) (m : Mk) (n : Nat) (h : w.heap.size = n) : ∀ j u, (mL m)[j]? = some u → (w.alloc (mO m)).cell? ((⟨n, 0, none⟩ : Addr).add j) = some u := by
  subst h; exact World.news_of_block (heap_new w (mO m))
/-- A mark appended to a row of one's own. -/
theorem wpList_pushM {ops : Array Oper} {rest : List Oper} {o : Oper} {act : Act} {Q : Exit → Act → World → Prop} (w : World) (hgd : o.guard = none) (s x : Operand)
    (ho : o.op = .call { callee := .builtin .append, args := #[s, x], argTypes := #[149, 149] })
    (base : Nat) (v : Value) (X : List Mk) (hs : act.eval s = v) (hown : OwnsM w base v X) (t : Mk) (ad : Nat) (hx : act.eval x = .slice (some ⟨ad, 0, none⟩) 1 1)
    (hc : ∀ j u, (mL t)[j]? = some u → w.cell? ((⟨ad, 0, none⟩ : Addr).add j) = some u) (hb : X.length ≤ 1000000000) (hbase : base ≤ w.heap.size)
    (h : ∀ a' cap' w', OwnsM w' base (.slice a' (X.length + 1) cap') (X ++ [t]) → w.grownBy w' v.ownBlock → wpList Tryz.prog ops Q rest (act.put o.dst (.slice a' (X.length + 1) cap')) w') : wpList Tryz.prog ops Q (o :: rest) act w := by
  obtain ⟨i, hi, hz, hsz, hby⟩ := info_parts Tryz.infoMark
  refine wpList_append_own w hgd s x 149 ho base 94 i _ 3 24 Tryz.underlying149 hi hz hsz hby rfl (by decide) v X.length (mc X) hs hown ⟨ad, 0, none⟩ 1 1 (mL t) hx rfl hc (by intro u hu; simp at hu; rcases hu with rfl | rfl | rfl <;> rfl) (by unfold maxLen; omega) (by omega) hbase ?_
  intro v' w' h1 h2 _
  have h3 : OwnsM w' base v' (X ++ [t]) := by unfold OwnsM; rw [mc_snoc, List.length_append, List.length_singleton]; exact h1
  obtain ⟨a', cap', rfl, _⟩ := h3.form
  rw [List.length_append, List.length_singleton] at h3 ⊢
  exact h a' cap' w' h3 h2

set_option maxHeartbeats 1000000 in
theorem same_m (lo hi : Nat) (a : Option Addr) (cap : Nat) (xs : List Int) (w : World) (h : Ints lo hi w a xs) (h0 : 0 < xs.length) (hl : xs.length ≤ 1000000) :
    Calls Tryz.prog 123 #[.slice a xs.length cap] w fun e w' => e = .returned (.int .i64 (sam xs : Int)) ∧ ∃ q, w' = w.drewN q := by
  obtain ⟨b, off, _, _, hb, rfl, hc⟩ := h.resolve_left (by omega)
  have HC := hide hc
  clear hc h
  go_enter Tryz.func123, Tryz.ntmps123
  go_wp2_with fail
  go_loopg [3] (xs.length - 1) (fun gk v3 wx => ∃ n q : Nat, n + gk = xs.length ∧ 1 ≤ n ∧ v3 = .int .i64 n ∧ Hid (∀ i, i < n → ln xs i = ln xs 0) ∧ wx = w.drewN q)
  case atStart => exact ⟨1, 0, by omega, by omega, rfl, fun i hi => by rw [show i = 0 by omega], rfl⟩
  case round =>
    obtain ⟨n, q, hng, hn1, rfl, HS, rfl⟩ := hrel
    have HQ : Hid (∀ nq, (w.drewN q).drewN nq = w.drewN (q + nq)) := fun nq => World.drewN_drewN _ _ _
    cases gk with
    | zero =>
      have hge : ¬ (n : Int) < (xs.length : Int) := by omega
      have hd : decide ((n : Int) < (xs.length : Int)) = false := by simpa using hge
      have HE := hide (sam_is hn1 (by omega) HS.out (.inl (by omega)))
      generalize w.drewN q = w1 at HQ ⊢
      go_upto_region 2 with fail
      go_quiet (fail)
      go_wp2_with fail
      go_ret
      exact ⟨by rw [HE.out]; rfl, q + nq, HQ.out nq⟩
    | succ g1 =>
      have hlt : (n : Int) < (xs.length : Int) := by omega
      have hd : decide ((n : Int) < (xs.length : Int)) = true := by simpa using hlt
      have h00 : (0 : Int) < (xs.length : Int) := by omega
      have d1 : (w.drewN q).cell? ⟨b, off + n, none⟩ = some (.int .i64 (ln xs n)) := HC.out n (by omega)
      have d2 : (w.drewN q).cell? ⟨b, off, none⟩ = some (.int .i64 (ln xs 0)) := HC.out 0 h0
      obtain ⟨X, hX⟩ : ∃ X, ln xs n = X := ⟨_, rfl⟩
      obtain ⟨Y, hY⟩ : ∃ Y, ln xs 0 = Y := ⟨_, rfl⟩
      have HS2 : Hid (¬ X = Y → sam xs = n) := fun hne => sam_is hn1 (by omega) HS.out (.inr (by rw [hX, hY]; exact hne))
      have HS3 : Hid (X = Y → ∀ i, i < n + 1 → ln xs i = ln xs 0) := fun he i hi => by
        by_cases e : i = n
        · subst e; rw [hX, hY, he]
        · exact HS.out i (by omega)
      rw [hX] at d1
      rw [hY] at d2
      generalize w.drewN q = w1 at HQ d1 d2 ⊢
      clear hX hY HS
      by_cases hXY : X = Y
      · have HS4 := hide (HS3.out hXY)
        subst hXY
        clear HS2 HS3
        go_upto_region 2 with fail
        go_quiet (fail)
        go_wp2_with fail
        go_roundg g1
        case measure => omega
        case rel => exact ⟨n + 1, q + nq, by omega, by omega, by go_num, HS4, HQ.out nq⟩
      · have hne : (X == Y) = false := by simpa using hXY
        have HS5 := hide (HS2.out hXY)
        clear HS2 HS3
        go_upto_region 2 with fail
        go_quiet (fail)
        go_wp2_with fail
        go_ret
        exact ⟨by rw [HS5.out]; rfl, q + nq, HQ.out nq⟩

/-- The answer of again. -/
def AgRet (w : World) (r : Mk × Nat) (e : Ending) (w' : World) : Prop := e = .returned (.tuple #[mkV r.1, .int .i64 (r.2 : Int)]) ∧ Below w.heap.size w w'
theorem ag_ret {w W : World} {tmps : Array Value} {r : Mk × Nat} (hp : tmps.getD 4 undef = .pointer (some ⟨w.heap.size, 0, none⟩)) (hu : tmps.getD 5 undef = .int .i64 (r.2 : Int)) (hW : W = w.alloc (mO r.1)) :
    bodyPost Tryz.prog Tryz.f124 (AgRet w r) .ret { tmps := tmps, defers := [] } W := by
  refine bodyPost_ret (v := .tuple #[mkV r.1, .int .i64 (r.2 : Int)]) ?_ rfl ⟨rfl, ?_⟩
  · rw [results_cell_tmp (p := 4) (u := 5) (ty := 94) rfl]
    simp only [hp, hu]
    subst hW
    simp [asAddr, run_loadVar_row (w.alloc (mO r.1)) w.heap.size 94 94 _ (0, 0) _ (heap_new w _) Tryz.underlying94 rfl infoMk]
    rfl
  · subst hW; exact (Below.refl _ _).alloc (Nat.le_refl _) _
theorem again_c (x t : Nat) (ht : 0 < t) (ht2 : t ≤ 1000000) (w : World) :
    Calls Tryz.prog 124 #[.int .i64 (x : Int), .int .i64 (t : Int)] w (AgRet w (agn x t)) := by
  by_cases c1 : t < 3
  · have HRR : Hid (∀ {W : World} {tmps : Array Value}, tmps.getD 4 undef = .pointer (some ⟨w.heap.size, 0, none⟩) → tmps.getD 5 undef = .int .i64 1 → W = w.alloc (.cells #[.int .i64 (x : Int), .int .i64 0, .int .i64 0] 94) → bodyPost Tryz.prog Tryz.f124 (AgRet w ((x, 0, 0), 1)) .ret { tmps := tmps, defers := [] } W) := fun h1 h2 h3 => ag_ret h1 h2 h3
    rw [show agn x t = ((x, 0, 0), 1) from if_pos c1]
    generalize AgRet w ((x, 0, 0), 1) = Q at HRR ⊢
    go_enter Tryz.func124, Tryz.ntmps124
    go_wp2
    exact HRR.out rfl rfl rfl
  · by_cases c2 : 0 < x
    · have e : agn x t = ((16, min t 6 - 3, 2), min t 6) := (if_neg c1).trans (if_pos c2)
      rw [e]
      obtain ⟨T, hT⟩ : ∃ T, min t 6 = T := ⟨_, rfl⟩
      rw [hT]
      have hif : (if (6 : Int) < (t : Int) then (6 : Int) else (t : Int)) = (T : Int) := by omega
      have HRR : Hid (∀ {W : World} {tmps : Array Value}, tmps.getD 4 undef = .pointer (some ⟨w.heap.size, 0, none⟩) → tmps.getD 5 undef = .int .i64 (T : Int) → W = w.alloc (.cells #[.int .i64 16, .int .i64 ((T : Int) - 3), .int .i64 2] 94) → bodyPost Tryz.prog Tryz.f124 (AgRet w ((16, T - 3, 2), T)) .ret { tmps := tmps, defers := [] } W) := fun h1 h2 h3 => ag_ret h1 h2 (by rw [h3]; congr 3; simp; omega)
      generalize AgRet w ((16, T - 3, 2), T) = Q at HRR ⊢
      have hT3 : 3 ≤ T ∧ T ≤ 6 := by omega
      clear hT e
      go_enter Tryz.func124, Tryz.ntmps124
      go_wp2
      exact HRR.out rfl rfl rfl
    · obtain rfl : x = 0 := by omega
      by_cases c3 : t < 11
      · have e : agn 0 t = ((17, t - 3, 3), t) := (if_neg c1).trans ((if_neg c2).trans (if_pos c3))
        rw [e]
        have HRR : Hid (∀ {W : World} {tmps : Array Value}, tmps.getD 4 undef = .pointer (some ⟨w.heap.size, 0, none⟩) → tmps.getD 5 undef = .int .i64 (t : Int) → W = w.alloc (.cells #[.int .i64 17, .int .i64 ((t : Int) - 3), .int .i64 3] 94) → bodyPost Tryz.prog Tryz.f124 (AgRet w ((17, t - 3, 3), t)) .ret { tmps := tmps, defers := [] } W) := fun h1 h2 h3 => ag_ret h1 h2 (by rw [h3]; congr 3; simp; omega)
        generalize AgRet w ((17, t - 3, 3), t) = Q at HRR ⊢
        clear e
        go_enter Tryz.func124, Tryz.ntmps124
        go_wp2
        exact HRR.out rfl rfl rfl
      · have e : agn 0 t = ((18, min t 138 - 11, 7), min t 138) := (if_neg c1).trans ((if_neg c2).trans (if_neg c3))
        rw [e]
        obtain ⟨T, hT⟩ : ∃ T, min t 138 = T := ⟨_, rfl⟩
        rw [hT]
        have hif : (if (138 : Int) < (t : Int) then (138 : Int) else (t : Int)) = (T : Int) := by omega
        have HRR : Hid (∀ {W : World} {tmps : Array Value}, tmps.getD 4 undef = .pointer (some ⟨w.heap.size, 0, none⟩) → tmps.getD 5 undef = .int .i64 (T : Int) → W = w.alloc (.cells #[.int .i64 18, .int .i64 ((T : Int) - 11), .int .i64 7] 94) → bodyPost Tryz.prog Tryz.f124 (AgRet w ((18, T - 11, 7), T)) .ret { tmps := tmps, defers := [] } W) := fun h1 h2 h3 => ag_ret h1 h2 (by rw [h3]; congr 3; simp; omega)
        generalize AgRet w ((18, T - 11, 7), T) = Q at HRR ⊢
        have hT3 : 11 ≤ T ∧ T ≤ 138 := by omega
        clear hT e
        go_enter Tryz.func124, Tryz.ntmps124
        go_wp2
        exact HRR.out rfl rfl rfl
end Go.Proofs.YtlakgbckopjelaaGreatDoor

/- inNumbers: contract. -/
namespace Go.Proofs.YtlakgbckopjelaaGreatDoor
set_option maxRecDepth 100000
open Go Go.RowKit

theorem rep_len (x : Nat) : ∀ t, (rep x t).length ≤ t := by
  intro t
  induction t using Nat.strongRecOn with
  | ind t ih =>
    rcases Nat.eq_zero_or_pos t with h0 | h0
    · subst h0; rw [rep_zero]; simp
    · have hp := agn_pos x t h0
      have := ih (t - (agn x t).2) (by omega)
      rw [rep_pos x t h0]; simp; omega
theorem inN_len : ∀ (n : Nat) (xs : List Int), xs.length = n → (inN xs).length ≤ n := by
  intro n
  induction n using Nat.strongRecOn with
  | ind n ih =>
    intro xs hn
    rcases Nat.eq_zero_or_pos xs.length with h0 | h0
    · rw [List.eq_nil_of_length_eq_zero h0, inN_nil]; simp
    · have hs := sam_le h0
      have h1 := ih (n - sam xs) (by omega) (xs.drop (sam xs)) (by rw [List.length_drop]; omega)
      rw [inN_pos xs h0, List.length_append]
      split
      · have := rep_len (ln xs 0).toNat (sam xs - 1)
        rw [List.length_cons]; omega
      · have := rep_len 0 (sam xs); omega
/-- Behind the marks told so far. -/
structure NumSt (w : World) (X : List Mk) (wx : World) (v : Value) (ms : List Mk) : Prop where
  own : OwnsM wx w.heap.size v ms
  bel : Below w.heap.size w wx
  len : ms.length ≤ 1000
theorem NumSt.stay {w wx wy : World} {X ms : List Mk} {v : Value} (h : NumSt w X wx v ms) (k : Below wx.heap.size wx wy) : NumSt w X wy v ms := ⟨h.own.stay k, h.bel.trans (k.mono h.bel.size), h.len⟩
theorem NumSt.push {w wx wy : World} {X ms : List Mk} {v v' : Value} {m : Mk} (h : NumSt w X wx v ms) (ho : OwnsM wy w.heap.size v' (ms ++ [m])) (hg : wx.grownBy wy v.ownBlock) (hl : ms.length < 1000) : NumSt w X wy v' (ms ++ [m]) := by
  refine ⟨ho, h.bel.trans ((Kept.of_grown hg).below h.bel.size (fun i hi e => ?_)), by simp; omega⟩
  have := (ownsRow_lt h.own e.symm).1
  omega
set_option maxHeartbeats 4000000 in
theorem inNumbers_c (hi : Nat) (a : Option Addr) (cap : Nat) (xs : List Int) (w : World) (h : Ints 0 hi w a xs) (hf : Fit xs) (h0 : 0 < xs.length) (hl : xs.length ≤ 1000) (hcap : xs.length ≤ cap) :
    Calls Tryz.prog 113 #[.slice a xs.length cap] w fun e w' => ∃ ad cp, e = .returned (.slice ad (inN xs).length cp) ∧ OwnsM w' w.heap.size (.slice ad (inN xs).length cp) (inN xs) ∧ Below w.heap.size w w' := by
  obtain ⟨b, off, hb0, hbh, hb, rfl, hc⟩ := h.resolve_left (by omega)
  have hil := inN_len xs.length xs rfl
  have HC := hide hc
  have HF := hide hf
  obtain ⟨N, hN⟩ : ∃ N, inN xs = N := ⟨_, rfl⟩
  have HS0 : Hid ([] ++ inN (xs.drop 0) = N) := hide (by rw [← hN]; simp)
  rw [hN] at hil ⊢
  clear hc hf h hN hb0 hbh
  go_enter Tryz.func113, Tryz.ntmps113
  go_wp2_with fail
  go_loopg [0, 3] xs.length (fun gk v0 v3 wx => ∃ (k o c' : Nat) (ad : Option Addr) (cp : Nat) (ms : List Mk), k + gk = xs.length ∧ (k < xs.length → o = off + k) ∧ gk ≤ c' ∧ v0 = .slice (some ⟨b, o, none⟩) gk c' ∧ v3 = .slice ad ms.length cp ∧ Hid (NumSt w N wx (.slice ad ms.length cp) ms) ∧ Hid (ms ++ inN (xs.drop k) = N))
  case atStart => exact ⟨0, off, cap, none, 0, [], by omega, fun _ => rfl, hcap, rfl, rfl, ⟨OwnsM.nil _ _, Below.refl _ _, by simp⟩, HS0.out⟩
  case round =>
    obtain ⟨k, o, c', ad, cp, ms, hgk, ho, hc', rfl, rfl, HN, HE⟩ := hrel
    cases gk with
    | zero =>
      obtain rfl : k = xs.length := by omega
      have e : ms = N := by have := HE.out; rw [List.drop_length, inN_nil, List.append_nil] at this; exact this
      subst e
      go_wp2_with fail
      go_ret
      exact ⟨ad, cp, rfl, HN.out.own, HN.out.bel⟩
    | succ gk1 =>
      have hkl : k < xs.length := by omega
      obtain rfl := ho hkl
      obtain ⟨ys, hys⟩ : ∃ ys, xs.drop k = ys := ⟨_, rfl⟩
      have hyl : ys.length = gk1 + 1 := by rw [← hys, List.length_drop]; omega
      have hy0 : 0 < ys.length := by omega
      have hyf : Fit ys := fun y hy => HF.out y (by rw [← hys] at hy; exact List.mem_of_mem_drop hy)
      have hln : ∀ i, ln ys i = ln xs (k + i) := fun i => by rw [← hys]; simp [ln, List.getD]
      have hyI : Ints 0 wr.heap.size wr (some ⟨b, off + k, none⟩) ys := by
        have hbw := HN.out.bel.size
        refine .inr ⟨b, off + k, Nat.zero_le _, by omega, by omega, rfl, fun i hi => ?_⟩
        rw [Nat.add_assoc, hln, HN.out.bel.cell (p := ⟨b, _, none⟩) hb]
        exact HC.out (k + i) (by omega)
      have hsl := sam_le hy0
      have hE := HE.out
      rw [hys, inN_pos ys hy0] at hE
      have hdd : ys.drop (sam ys) = xs.drop (k + sam ys) := by rw [← hys, List.drop_drop]
      rw [hdd] at hE
      have hx15 := ln_fit hyf 0
      obtain ⟨x, hx⟩ : ∃ x : Nat, ln ys 0 = x := ⟨(ln ys 0).toNat, by omega⟩
      have hS := fun q => same_m 0 wr.heap.size (some ⟨b, off + k, none⟩) c' ys (wr.drewN q) (hyI.kept (Kept.drewN (Kept.refl (fun _ => False) wr) q) (fun _ _ _ e => e)) hy0 (by omega)
      have c0 : wr.cell? ⟨b, off + k, none⟩ = some (.int .i64 (x : Int)) := by
        have := hyI.resolve_left (by omega)
        obtain ⟨b', o', _, _, _, e, hc⟩ := this
        simp at e
        obtain ⟨rfl, rfl⟩ := e
        have := hc 0 hy0
        rw [hx] at this
        simpa using this
      rw [hx, Int.toNat_natCast] at hE
      obtain ⟨t, ht⟩ : ∃ t, sam ys = t := ⟨_, rfl⟩
      rw [ht] at hE hS hsl
      rw [hyl] at hS hsl
      have HS := hide hS
      have ht1 : 1 ≤ t ∧ t ≤ gk1 + 1 := hsl
      have hx15' : x ≤ 15 := by omega
      have HK : Hid (∀ M : List Mk, M = ms ++ (if 0 < x then (x, 0, 0) :: rep x (t - 1) else rep 0 t) → M ++ inN (xs.drop (k + t)) = N) := fun M hM => by
        rw [hM, List.append_assoc, ← hE]
        by_cases hx0 : 0 < x
        · rw [if_pos hx0, if_pos (by omega)]
        · rw [if_neg hx0, if_neg (by omega)]
      clear hS hyI hln hyf hys hdd ht hE HE hx hyl hy0 hsl hx15
      have g0 : (0 : Int) < ((gk1 + 1 : Nat) : Int) := by omega
      have g1 : ((t : Nat) : Int) ≤ ((gk1 + 1 : Nat) : Int) := by omega
      have g2 : (0 : Int) ≤ (t : Int) := by omega
      have hNl : N.length ≤ 1000 := by omega
      clear hil g0 HF HC
      by_cases hct : c' = t
      case' pos =>
        have hgt : gk1 + 1 - t = 0 := by omega
        subst hct
        have HOF : Hid (∃ o2 c2, Value.slice (some ⟨b, off + k, none⟩) 0 0 = .slice (some ⟨b, o2, none⟩) (gk1 + 1 - c') c2 ∧ (k + c' < xs.length → o2 = off + (k + c')) ∧ gk1 + 1 - c' ≤ c2) := ⟨off + k, 0, by rw [hgt], fun h => by omega, by omega⟩
        obtain ⟨t, htt⟩ : ∃ t, t = c' := ⟨_, rfl⟩
        go_upto_region 3 with fail
        go_quiet ((go_at_call 123; exact Calls.quiet_of (HS.out _)))
        go_upto_region 5 with fail
        obtain ⟨V0, hV0⟩ : ∃ V0, V0 = Value.slice (some ⟨b, off + k, none⟩) 0 0 := ⟨_, rfl⟩
        rw [← hV0] at HOF
        rw [← htt] at HOF HK ht1 g1 g2 ⊢
        clear htt hgt
      case' neg =>
        have hctn : ¬ ((c' : Int) = (t : Int)) := by omega
        have HOF : Hid (∃ o2 c2, Value.slice (some ⟨b, off + k + t, none⟩) (gk1 + 1 - t) (c' - t) = .slice (some ⟨b, o2, none⟩) (gk1 + 1 - t) c2 ∧ (k + t < xs.length → o2 = off + (k + t)) ∧ gk1 + 1 - t ≤ c2) := ⟨off + k + t, c' - t, rfl, fun h => by omega, by omega⟩
        go_upto_region 3 with fail
        go_quiet ((go_at_call 123; exact Calls.quiet_of (HS.out _)))
        go_upto_region 5 with fail
        obtain ⟨V0, hV0⟩ : ∃ V0, V0 = Value.slice (some ⟨b, off + k + t, none⟩) (gk1 + 1 - t) (c' - t) := ⟨_, rfl⟩
        rw [← hV0] at HOF
      all_goals
        have HN1 : Hid (NumSt w N (wr.drewN nq) (.slice ad ms.length cp) ms) := HN.out.stay ((Kept.drewN (Kept.refl (fun _ => False) wr) nq).below (Nat.le_refl _) (fun _ _ e => e))
        rw [← hV0]
        clear HN HS c0 hV0
        generalize wr.drewN nq = w1 at HN1 ⊢
        obtain ⟨MM, hMM⟩ : ∃ MM, MM = ms ++ (if 0 < x then (x, 0, 0) :: rep x (t - 1) else rep 0 t) := ⟨_, rfl⟩
        have HKM := hide (HK.out MM hMM)
        have hMl : ms.length + t ≤ 2001 ∧ (MM.length ≤ N.length) := ⟨by have := HN1.out.len; omega, by have := congrArg List.length HKM.out; simp only [List.length_append] at this; omega⟩
        clear HK
        try clear hct
        by_cases hx0 : 0 < x
        · rw [if_pos hx0] at hMM
          have hml : ms.length < 1000 := by have := congrArg List.length hMM; simp only [List.length_append, List.length_cons] at this; omega
          have HM1 : Hid (ms ++ [(x, 0, 0)] ++ rep x (t - 1) = MM) := hide (by rw [hMM]; simp)
          have htt : (t : Int) - 1 = ((t - 1 : Nat) : Int) := by omega
          have hbz : w.heap.size ≤ (w1.alloc (mO (x, 0, 0))).heap.size := by have := HN1.out.bel.size; simp; omega
          have HN2 := hide (HN1.out.stay ((Below.refl _ w1).alloc (Nat.le_refl _) (mO (x, 0, 0))))
          clear hMM HN1
          go_upto_region 8 with (at_builtin; refine wpList_pushM _ rfl (.tmp 21) (.tmp 24) rfl w.heap.size _ ms (by rfl) HN2.out.own (x, 0, 0) w1.heap.size (by rfl) (one_mk w1 (x, 0, 0) _ rfl) (by omega) hbz ?_; intro a9 c9 w9 ow9 gr9; have HN9 := hide (HN2.out.push ow9 gr9 hml); clear ow9 gr9 HN2)
          obtain ⟨T0, hT0⟩ : ∃ T0, t - 1 = T0 := ⟨_, rfl⟩
          have hT1 : T0 ≤ 1000 := by omega
          rw [hT0] at HM1 ⊢
          obtain ⟨ms1, hms1⟩ : ∃ ms1, ms ++ [(x, 0, 0)] = ms1 := ⟨_, rfl⟩
          have hml1 : ms.length + 1 = ms1.length := by rw [← hms1]; simp
          rw [hms1, hml1] at HN9
          rw [hms1] at HM1
          rw [hml1]
          clear hT0 hms1 hml1 htt
          go_loopg [3, 5] T0 (fun gk2 v3 v5 wx => ∃ (ad2 : Option Addr) (cp2 : Nat) (ms2 : List Mk), v5 = .int .i64 gk2 ∧ v3 = .slice ad2 ms2.length cp2 ∧ gk2 ≤ 1000 ∧ Hid (NumSt w N wx (.slice ad2 ms2.length cp2) ms2) ∧ Hid (ms2 ++ rep x gk2 = MM))
          case atStart => exact ⟨a9, c9, ms1, rfl, rfl, by omega, HN9.out, HM1.out⟩
          case round =>
            obtain ⟨ad2, cp2, ms2, rfl, rfl, hg2, HN3, HE3⟩ := hrel
            cases gk with
            | zero =>
              have hfin := HE3.out
              rw [rep_zero, List.append_nil] at hfin
              subst hfin
              obtain ⟨o2, c2, hV, ho2, hc2⟩ := HOF.out
              have HV := hide hV
              clear hV HE3 HM1
              go_wp2_with fail
              go_roundg (gk1 + 1 - t)
              case measure => omega
              case rel => exact ⟨k + t, o2, c2, ad2, cp2, ms2, by omega, ho2, hc2, HV.out, rfl, HN3, HKM⟩
            | succ g2 =>
              have hp := agn_pos x (g2 + 1) (by omega)
              have hrp := rep_pos x (g2 + 1) (by omega)
              have hE3 := HE3.out
              rw [hrp] at hE3
              have hml : ms2.length < 1000 := by have := congrArg List.length hE3; simp only [List.length_append, List.length_cons] at this; omega
              have HA := fun W => hide (again_c x (g2 + 1) (by omega) (by omega) W)
              obtain ⟨⟨⟨m1, m2, m3⟩, T⟩, hmT⟩ : ∃ r, agn x (g2 + 1) = r := ⟨_, rfl⟩
              rw [hmT] at hE3 HA hp
              simp only at hE3 hp
              have HE4 : Hid (ms2 ++ [(m1, m2, m3)] ++ rep x (g2 + 1 - T) = MM) := hide (by rw [List.append_assoc]; exact hE3)
              have hTg : ((g2 + 1 : Nat) : Int) - (T : Int) = ((g2 + 1 - T : Nat) : Int) := by omega
              have HH : Hid (∀ W, Below wr.heap.size wr W → NumSt w N ((W.alloc (mO (m1, m2, m3))).alloc (mO (m1, m2, m3))) (.slice ad2 ms2.length cp2) ms2 ∧ w.heap.size ≤ ((W.alloc (mO (m1, m2, m3))).alloc (mO (m1, m2, m3))).heap.size) := fun W k => by
                have h1 := (HN3.out.stay k).stay (((Below.refl _ W).alloc (Nat.le_refl _) (mO (m1, m2, m3))).alloc (by simp) (mO (m1, m2, m3)))
                exact ⟨h1, h1.bel.size⟩
              have HOM : Hid (∀ W : World, ∀ j u, (mL (m1, m2, m3))[j]? = some u → ((W.alloc (mO (m1, m2, m3))).alloc (mO (m1, m2, m3))).cell? ((⟨W.heap.size + 1, 0, none⟩ : Addr).add j) = some u) := fun W => one_mk (W.alloc (mO (m1, m2, m3))) (m1, m2, m3) _ (by simp)
              clear hE3 hrp hmT HE3 HM1 HN3
              unfold AgRet mkV at HA
              go_wp2_with (first
                | (go_at_call 124; refine (HA _).out.mono ?_; rintro e w5 ⟨rfl, b5⟩; have H5 := hide (HH.out w5 b5); have HC5 := hide (HOM.out w5); clear b5 HA HH HOM)
                | (at_builtin; refine wpList_pushM _ rfl (.tmp 36) (.tmp 38) rfl w.heap.size _ ms2 (by rfl) H5.out.1.own (m1, m2, m3) (w5.heap.size + 1) (by rfl) HC5.out (by omega) H5.out.2 ?_; intro a8 c8 w8 ow8 gr8; have HN8 := hide (H5.out.1.push ow8 gr8 hml); clear ow8 gr8 H5 HC5))
              go_roundg (g2 + 1 - T)
              case measure => omega
              case rel => exact ⟨a8, c8, ms2 ++ [(m1, m2, m3)], by go_num, by simp, by omega, hide (by simpa using HN8.out), HE4.out⟩
        · rw [if_neg hx0] at hMM
          have hxz : x = 0 := by omega
          have HM1 : Hid (ms ++ rep x t = MM) := hide (by rw [hxz]; exact hMM.symm)
          clear hMM hxz
          go_upto_region 8 with fail
          have hT1 : t ≤ 1000 := by omega
          go_loopg [3, 5] t (fun gk2 v3 v5 wx => ∃ (ad2 : Option Addr) (cp2 : Nat) (ms2 : List Mk), v5 = .int .i64 gk2 ∧ v3 = .slice ad2 ms2.length cp2 ∧ gk2 ≤ 1000 ∧ Hid (NumSt w N wx (.slice ad2 ms2.length cp2) ms2) ∧ Hid (ms2 ++ rep x gk2 = MM))
          case atStart => exact ⟨ad, cp, ms, rfl, rfl, by omega, HN1.out, HM1.out⟩
          case round =>
            obtain ⟨ad2, cp2, ms2, rfl, rfl, hg2, HN3, HE3⟩ := hrel
            cases gk with
            | zero =>
              have hfin := HE3.out
              rw [rep_zero, List.append_nil] at hfin
              subst hfin
              obtain ⟨o2, c2, hV, ho2, hc2⟩ := HOF.out
              have HV := hide hV
              clear hV HE3 HM1
              go_wp2_with fail
              go_roundg (gk1 + 1 - t)
              case measure => omega
              case rel => exact ⟨k + t, o2, c2, ad2, cp2, ms2, by omega, ho2, hc2, HV.out, rfl, HN3, HKM⟩
            | succ g2 =>
              have hp := agn_pos x (g2 + 1) (by omega)
              have hrp := rep_pos x (g2 + 1) (by omega)
              have hE3 := HE3.out
              rw [hrp] at hE3
              have hml : ms2.length < 1000 := by have := congrArg List.length hE3; simp only [List.length_append, List.length_cons] at this; omega
              have HA := fun W => hide (again_c x (g2 + 1) (by omega) (by omega) W)
              obtain ⟨⟨⟨m1, m2, m3⟩, T⟩, hmT⟩ : ∃ r, agn x (g2 + 1) = r := ⟨_, rfl⟩
              rw [hmT] at hE3 HA hp
              simp only at hE3 hp
              have HE4 : Hid (ms2 ++ [(m1, m2, m3)] ++ rep x (g2 + 1 - T) = MM) := hide (by rw [List.append_assoc]; exact hE3)
              have hTg : ((g2 + 1 : Nat) : Int) - (T : Int) = ((g2 + 1 - T : Nat) : Int) := by omega
              have HH : Hid (∀ W, Below wr.heap.size wr W → NumSt w N ((W.alloc (mO (m1, m2, m3))).alloc (mO (m1, m2, m3))) (.slice ad2 ms2.length cp2) ms2 ∧ w.heap.size ≤ ((W.alloc (mO (m1, m2, m3))).alloc (mO (m1, m2, m3))).heap.size) := fun W k => by
                have h1 := (HN3.out.stay k).stay (((Below.refl _ W).alloc (Nat.le_refl _) (mO (m1, m2, m3))).alloc (by simp) (mO (m1, m2, m3)))
                exact ⟨h1, h1.bel.size⟩
              have HOM : Hid (∀ W : World, ∀ j u, (mL (m1, m2, m3))[j]? = some u → ((W.alloc (mO (m1, m2, m3))).alloc (mO (m1, m2, m3))).cell? ((⟨W.heap.size + 1, 0, none⟩ : Addr).add j) = some u) := fun W => one_mk (W.alloc (mO (m1, m2, m3))) (m1, m2, m3) _ (by simp)
              clear hE3 hrp hmT HE3 HM1 HN3
              unfold AgRet mkV at HA
              go_wp2_with (first
                | (go_at_call 124; refine (HA _).out.mono ?_; rintro e w5 ⟨rfl, b5⟩; have H5 := hide (HH.out w5 b5); have HC5 := hide (HOM.out w5); clear b5 HA HH HOM)
                | (at_builtin; refine wpList_pushM _ rfl (.tmp 36) (.tmp 38) rfl w.heap.size _ ms2 (by rfl) H5.out.1.own (m1, m2, m3) (w5.heap.size + 1) (by rfl) HC5.out (by omega) H5.out.2 ?_; intro a8 c8 w8 ow8 gr8; have HN8 := hide (H5.out.1.push ow8 gr8 hml); clear ow8 gr8 H5 HC5))
              go_roundg (g2 + 1 - T)
              case measure => omega
              case rel => exact ⟨a8, c8, ms2 ++ [(m1, m2, m3)], by go_num, by simp, by omega, hide (by simpa using HN8.out), HE4.out⟩
end Go.Proofs.YtlakgbckopjelaaGreatDoor
