/- Several texts, laid together: MNew, MFind, MRight. -/
import Derived.Test.YtgjafmppkfgkfaaGreatDoorpMg01MRun
import Derived.Test.YtgjafmppkfgkfaaGreatDoorpMRunW
import Derived.Test.YtgjafmppkfgkfaaGreatDoorpMg00MChain
/- A new finder: contract. -/
namespace Go.Proofs.YtgjafmppkfgkfaaGreatDoor.M
set_option maxRecDepth 100000
open Go Go.RowKit

def isZ : Value → Bool
  | .int .i32 n => decide (n = 0)
  | _ => false
theorem isZ_eq {v : Value} (h : isZ v = true) : v = .int .i32 0 := by
  unfold isZ at h
  split at h
  · simp at h; subst h; rfl
  · cases h
/-- A finder's zero cells. -/
noncomputable def finZ : List Value := ((((Tryz.prog.info? 188).bind (·.zero)).map (fun z => z.cells.toList))).getD []
theorem finZ_len : finZ.length = 16388 := by kernel_rfl
theorem finZ_zero : ((finZ.drop 3).take 16384).all isZ = true := by kernel_rfl
theorem finZ_two : finZ[2]? = some (.int .i64 0) := by kernel_rfl
theorem finZ_places : (Tryz.prog.underlying 188).bind (fun d => match d with | .struct fields => fields.toList.mapM (fun f => (Tryz.prog.info? f.type).map fun i => (f.offset, i.size)) | _ => none) = some [(0, 1), (1, 1), (2, 1), (3, 16384), (16387, 1)] := by kernel_rfl
theorem finZ_info : (Tryz.prog.info? 188).isSome = true := by kernel_rfl
theorem finZ_some : (((Tryz.prog.info? 188).bind (·.zero))).isSome = true := by kernel_rfl
theorem finZ_at {s : Nat} (h : s < 16384) : finZ[3 + s]? = some (.int .i32 0) := by
  have h1 : ((finZ.drop 3).take 16384)[s]? = finZ[3 + s]? := by rw [List.getElem?_take_of_lt h, List.getElem?_drop]
  have hl : s < ((finZ.drop 3).take 16384).length := by rw [List.length_take, List.length_drop, finZ_len]; omega
  rw [← h1, List.getElem?_eq_getElem hl]
  have := List.all_eq_true.1 finZ_zero _ (List.getElem_mem hl)
  rw [isZ_eq this]

theorem fill_one {pl : Nat → Option (Nat × Nat)} {cells : Array Value} {i off : Nat} {v : Value} {rest : List (Nat × Value)} (h : pl i = some (off, 1)) (hv : v.cells = #[v]) (ho : off + 1 ≤ cells.size) : Instr.fill pl cells ((i, v) :: rest) = Instr.fill pl (cells.setIfInBounds off v) rest := by
  rw [Instr.fill, h]
  simp only [hv]
  have : ¬ off + 1 > cells.size := by omega
  simp [this]
theorem wpList_build {P : Program} {ops : Array Oper} {rest : List Oper} {op : Oper} {a : Act} {w : World} {Q : Exit → Act → World → Prop} (hgd : op.guard = none) (t : TypeId) (parts : Array (Nat × Operand)) (ho : op.op = .build t parts)
    (ps : List (Nat × Value)) (cells : Array Value) (hc : P.built t ps = some cells) (hps : (parts.map fun (i, x) => (i, a.eval x)).toList = ps) (h : wpList P ops Q rest (a.put op.dst (.agg cells)) w) : wpList P ops Q (op :: rest) a w :=
  wpList_plain hgd fun _ hK => by
    unfold Oper.wp execOp
    subst hps
    simp only [ho, Sem.run_bind, run_build w t _ cells hc, Result.andThen_ok]
    exact hK _ _ h
/-- What a finder's literal builds. -/
theorem built_fin (d t b : Value) (hd : d.cells = #[d]) (ht : t.cells = #[t]) (hb : b.cells = #[b]) :
    ∃ cs : Array Value, Tryz.prog.built 188 [(0, d), (1, t), (4, b)] = some cs ∧ cs.size = 16388 ∧ cs[0]? = some d ∧ cs[1]? = some t ∧ cs[2]? = some (.int .i64 0) ∧ (∀ s, s < 16384 → cs[3 + s]? = some (.int .i32 0)) ∧ cs[16387]? = some b := by
  obtain ⟨z, hz⟩ := Option.isSome_iff_exists.1 finZ_some
  obtain ⟨it, hit⟩ := Option.isSome_iff_exists.1 finZ_info
  have hzz : it.zero = some z := by rw [hit] at hz; exact hz
  have hZ : finZ = z.cells.toList := by unfold finZ; rw [hz]; rfl
  have hp := finZ_places
  cases hu : Tryz.prog.underlying 188 with
  | none => rw [hu] at hp; cases hp
  | some dd =>
    rw [hu] at hp
    have hsz : z.cells.size = 16388 := by have := finZ_len; rw [hZ] at this; simpa using this
    have h2 : z.cells[2]? = some (.int .i64 0) := by have := finZ_two; rw [hZ] at this; simpa using this
    have h3 : ∀ s, s < 16384 → z.cells[3 + s]? = some (.int .i32 0) := fun s hs => by have := finZ_at hs; rw [hZ] at this; simpa using this
    cases dd <;> try (cases hp; done)
    case struct fields =>
      simp only [Option.bind_some] at hp
      generalize hcz : z.cells = C at hsz h2 h3
      refine ⟨((C.setIfInBounds 0 d).setIfInBounds 1 t).setIfInBounds 16387 b, ?_, ?_, ?_, ?_, ?_, fun s hs => ?_, ?_⟩
      · unfold Program.built
        simp only [hit, hu, hzz, hp, hcz]
        rw [fill_one (off := 0) (by rfl) hd (by omega), fill_one (off := 1) (by rfl) ht (by simp; omega), fill_one (off := 16387) (by rfl) hb (by simp; omega)]
        rfl
      · simp [hsz]
      · rw [Array.getElem?_setIfInBounds, if_neg (by omega), Array.getElem?_setIfInBounds, if_neg (by omega), Array.getElem?_setIfInBounds, if_pos rfl, if_pos (by omega)]
      · rw [Array.getElem?_setIfInBounds, if_neg (by omega), Array.getElem?_setIfInBounds, if_pos rfl, if_pos (by simp; omega)]
      · rw [Array.getElem?_setIfInBounds, if_neg (by omega), Array.getElem?_setIfInBounds, if_neg (by omega), Array.getElem?_setIfInBounds, if_neg (by omega)]; exact h2
      · rw [Array.getElem?_setIfInBounds, if_neg (by omega), Array.getElem?_setIfInBounds, if_neg (by omega), Array.getElem?_setIfInBounds, if_neg (by omega)]; exact h3 s hs
      · rw [Array.getElem?_setIfInBounds, if_pos rfl, if_pos (by simp; omega)]
theorem Tryz.infoI32 : (Tryz.prog.info? 21).map (fun i => (i.zero, i.size, i.bytes)) = some (some (.int .i32 0), 1, 4) := by kernel_rfl
theorem made_i32 (n : Nat) (hn : n ≤ 1000000000) (W : World) :
    (Instr.makeSlice 185 (.int .i64 (n : Int)) (.int .i64 (n : Int))).run Tryz.prog W = .ok (.slice (some ⟨W.heap.size, 0, none⟩) n n) (W.alloc (.cells (List.replicate n (.int .i32 0)).toArray 21)) := by
  obtain ⟨i, hi, hz, hs, hb⟩ := info_parts Tryz.infoI32
  have := run_make (P := Tryz.prog) W 185 21 i (.int .i32 0) Tryz.underlying185 hi hz .i64 .i64 n n (by omega) (by omega) (by rw [hb]; omega) (by omega)
  rw [this, hs]
  have e2 : madeCells (Value.int .i32 0).cells n = (List.replicate n (.int .i32 0)).toArray := by
    have := toList_madeCells_one (Value.int .i32 0) n
    rw [← Array.toList_inj]
    simpa [Value.cells] using this
  rw [Int.toNat_natCast, Nat.mul_one, e2]

/-- How many places are looked at. -/
def trF (lv : Int) : Nat := if 3 ≤ lv then 256 else if 2 ≤ lv then 128 else 64
/-- A finder, new. -/
def NewOk (zs : List Int) (lv : Int) (a : Option Addr) (cap : Nat) (w w' : World) : Prop := ∃ tr, tr = trF lv ∧ 64 ≤ tr ∧ tr ≤ 256 ∧ FinAt w.heap.size w' (w.heap.size + 1) w.heap.size a cap zs tr 0 (fun _ => 0) (fun _ => 0) ∧ Below w.heap.size w w'
set_option maxHeartbeats 2000000 in
theorem new_c (a : Option Addr) (cap : Nat) (zs : List Int) (lv : Int) (w : World) (h : Bys w a zs) (hl : zs.length ≤ 1000000000) (hcp : zs.length ≤ cap) (hB : 0 < zs.length → ∀ b off, a = some ⟨b, off, none⟩ → b < w.heap.size) (hlv : 1 ≤ lv) :
    Calls Tryz.prog 98 #[.slice a zs.length cap, .int .i64 lv] w fun e w' => e = .returned (.pointer (some ⟨w.heap.size + 1, 0, none⟩)) ∧ NewOk zs lv a cap w w' := by
  obtain ⟨N, hN⟩ : ∃ N, min zs.length 32768 = N := ⟨_, rfl⟩
  have hNi : (if 32768 < (zs.length : Int) then (32768 : Int) else (zs.length : Int)) = (N : Int) := by omega
  have hmk := made_i32 N (by omega)
  have hout : ∀ (tr : Nat) (cs : Array Value), tr = trF lv → 64 ≤ tr → tr ≤ 256 → (cs.size = 16388 ∧ cs[0]? = some (.slice a zs.length cap) ∧ cs[1]? = some (.int .i64 (tr : Int)) ∧ cs[2]? = some (.int .i64 0) ∧ (∀ s, s < 16384 → cs[3 + s]? = some (.int .i32 0)) ∧ cs[16387]? = some (.slice (some ⟨w.heap.size, 0, none⟩) N N)) → NewOk zs lv a cap w ((w.alloc (.cells (List.replicate N (.int .i32 0)).toArray 21)).alloc (.cells cs 188)) := by
    intro tr cs t0 t1 t2 ⟨_, k0, k1, k2, k3, k4⟩
    have hbl : Below w.heap.size w ((w.alloc (.cells (List.replicate N (.int .i32 0)).toArray 21)).alloc (.cells cs 188)) := ((Below.refl _ w).alloc (Nat.le_refl _) _).alloc (by simp) _
    refine ⟨tr, t0, t1, t2, ⟨⟨cs, heap_new2 w _ _, k0, k1, k2, k3, by rw [hN]; exact k4⟩, ⟨_, heap_new1 w _ _, fun x hx => ?_⟩, h.stay hbl, hB, ⟨by omega, Nat.le_refl _⟩, hcp⟩, hbl⟩
    rw [hN] at hx
    simp [hx]
  have HOUT := hide hout
  clear hout h hN
  by_cases h3 : 3 ≤ lv
  · have hif : (if 3 < lv then (3 : Int) else lv) = 3 := by omega
    obtain ⟨cs, hb, hr⟩ := built_fin (.slice a zs.length cap) (.int .i64 256) (.slice (some ⟨w.heap.size, 0, none⟩) N N) rfl rfl rfl
    have HBD := hide hb
    have HR := hide (HOUT.out 256 cs (by unfold trF; rw [if_pos h3]) (by omega) (by omega) hr)
    clear hr hb HOUT
    go_enter Tryz.func98, Tryz.ntmps98
    go_wp2_with (refine wpList_build rfl 188 _ rfl _ cs HBD.out (by simp [Act.eval]) ?_)
    go_ret
    exact ⟨rfl, HR.out⟩
  · by_cases h2 : 2 ≤ lv
    · obtain rfl : lv = 2 := by omega
      obtain ⟨cs, hb, hr⟩ := built_fin (.slice a zs.length cap) (.int .i64 128) (.slice (some ⟨w.heap.size, 0, none⟩) N N) rfl rfl rfl
      have HBD := hide hb
      have HR := hide (HOUT.out 128 cs rfl (by omega) (by omega) hr)
      clear hr hb HOUT
      go_enter Tryz.func98, Tryz.ntmps98
      go_wp2_with (refine wpList_build rfl 188 _ rfl _ cs HBD.out (by simp [Act.eval]) ?_)
      go_ret
      exact ⟨rfl, HR.out⟩
    · obtain rfl : lv = 1 := by omega
      obtain ⟨cs, hb, hr⟩ := built_fin (.slice a zs.length cap) (.int .i64 64) (.slice (some ⟨w.heap.size, 0, none⟩) N N) rfl rfl rfl
      have HBD := hide hb
      have HR := hide (HOUT.out 64 cs rfl (by omega) (by omega) hr)
      clear hr hb HOUT
      go_enter Tryz.func98, Tryz.ntmps98
      go_wp2_with (refine wpList_build rfl 188 _ rfl _ cs HBD.out (by simp [Act.eval]) ?_)
      go_ret
      exact ⟨rfl, HR.out⟩
end Go.Proofs.YtgjafmppkfgkfaaGreatDoor.M

/- Bytes alone; Find: contracts. -/
namespace Go.Proofs.YtgjafmppkfgkfaaGreatDoor.M
set_option maxRecDepth 100000
open Go Go.RowKit

/-- A token appended to a row of one's own. -/
theorem wpList_push {ops : Array Oper} {rest : List Oper} {o : Oper} {act : Act} {Q : Exit → Act → World → Prop} (w : World) (hgd : o.guard = none) (s x : Operand)
    (ho : o.op = .call { callee := .builtin .append, args := #[s, x], argTypes := #[117, 117] })
    (base : Nat) (v : Value) (X : List Tk) (hs : act.eval s = v) (hown : OwnsT w base v X) (t : Tk) (ad : Nat) (hx : act.eval x = .slice (some ⟨ad, 0, none⟩) 1 1)
    (hc : ∀ j u, ([.int .u8 t.1, .int .i64 t.2.1, .int .i64 t.2.2] : List Value)[j]? = some u → w.cell? ((⟨ad, 0, none⟩ : Addr).add j) = some u) (hb : X.length ≤ 1000000000) (hbase : base ≤ w.heap.size)
    (h : ∀ a' cap' w', OwnsT w' base (.slice a' (X.length + 1) cap') (X ++ [t]) → w.grownBy w' v.ownBlock → wpList Tryz.prog ops Q rest (act.put o.dst (.slice a' (X.length + 1) cap')) w') : wpList Tryz.prog ops Q (o :: rest) act w := by
  obtain ⟨i, hi, hz, hsz, hby⟩ := info_parts Tryz.infoTok
  refine wpList_append_own w hgd s x 117 ho base 159 i _ 3 24 Tryz.underlying117 hi hz hsz hby rfl (by decide) v X.length (tc X) hs hown ⟨ad, 0, none⟩ 1 1 [.int .u8 t.1, .int .i64 t.2.1, .int .i64 t.2.2] hx rfl hc (by intro u hu; simp at hu; rcases hu with rfl | rfl | rfl <;> rfl) (by unfold maxLen; omega) (by omega) hbase ?_
  intro v' w' h1 h2 _
  have h3 : OwnsT w' base v' (X ++ [t]) := OwnsT.push h1
  obtain ⟨a', cap', rfl, _⟩ := h3.form
  rw [List.length_append, List.length_singleton] at h3 ⊢
  exact h a' cap' w' h3 h2

/-- Bytes, each a token. -/
def alT (zs : List Int) : List Tk := zs.map fun b => (b, 0, 0)
theorem alT_length (zs : List Int) : (alT zs).length = zs.length := by simp [alT]
theorem alT_at (zs : List Int) {i : Nat} (h : i < zs.length) : tk (alT zs) i = (ln zs i, 0, 0) := by rw [tk_in (by rw [alT_length]; exact h)]; simp [alT, ln_in h]
theorem alT_rt (zs : List Int) : Rt (alT zs) := fun j hj => by rw [alT_length] at hj; rw [alT_at zs hj]; exact ok_byte _ _
theorem alT_tel (zs : List Int) : ∀ i, i ≤ zs.length → tel ((alT zs).take i) = zs.take i := by
  intro i
  induction i with
  | zero => intro _; simp [tel]
  | succ i ih =>
    intro h
    rw [tk_take_snoc (by rw [alT_length]; omega), tel_snoc, ih (by omega), alT_at zs (by omega), take_snoc (by omega)]
    simp [tel1]
theorem alT_tell (zs : List Int) : tel (alT zs) = zs := by
  have := alT_tel zs zs.length (Nat.le_refl _)
  rw [List.take_length, ← alT_length zs, List.take_length] at this
  exact this
theorem alT_bt {zs : List Int} (hz : ∀ i, 0 ≤ ln zs i ∧ ln zs i ≤ 255) : Bt (alT zs) := fun i => by
  rcases Nat.lt_or_ge i zs.length with h | h
  · rw [alT_at zs h]; exact hz i
  · unfold tk List.getD; rw [List.getElem?_eq_none (by rw [alT_length]; exact h)]; simp
/-- A row of tokens, being made. -/
def alF (zs : List Int) (i : Nat) : List Tk := (List.range zs.length).map fun j => if j < i then (ln zs j, 0, 0) else (0, 0, 0)
theorem alF_length (zs : List Int) (i : Nat) : (alF zs i).length = zs.length := by simp [alF]
theorem alF_zero (zs : List Int) : alF zs 0 = List.replicate zs.length (0, 0, 0) := by
  apply List.ext_getElem?
  intro k
  by_cases h : k < zs.length
  · simp [alF, h]
  · simp [alF, h]
theorem alF_all (zs : List Int) : alF zs zs.length = alT zs := by
  apply List.ext_getElem?
  intro k
  by_cases h : k < zs.length
  · simp [alF, alT, h, ln_in h]
  · simp [alF, alT, h]
theorem alF_set (zs : List Int) (i : Nat) (h : i < zs.length) : (alF zs i).set i (ln zs i, 0, 0) = alF zs (i + 1) := by
  apply List.ext_getElem?
  intro k
  rw [List.getElem?_set, alF_length]
  by_cases e : i = k
  · subst e; simp [alF, h]
  · rw [if_neg e]
    by_cases hk : k < zs.length
    · have : k < i ↔ k < i + 1 := by omega
      simp [alF, hk, this]
    · simp [alF, hk]
theorem alF_at (zs : List Int) (i : Nat) (h : i < zs.length) : tk (alF zs i) i = (0, 0, 0) := by
  rw [tk_in (by rw [alF_length]; exact h)]; simp [alF]
/-- A row of tokens in a block of its own. -/
def TRo (g : Nat) (xs : List Tk) (w : World) : Prop := w.heap[g]? = some (.cells (tc xs).toArray 159 (0, 0))
theorem tc_set (xs : List Tk) (i : Nat) (t : Tk) (h : i < xs.length) : (((tc xs).set (i * 3) (.int .u8 t.1)).set (i * 3 + 1) (.int .i64 t.2.1)).set (i * 3 + 2) (.int .i64 t.2.2) = tc (xs.set i t) := by
  induction xs generalizing i with
  | nil => simp at h
  | cons x xs ih =>
    cases i with
    | zero => simp [tc_cons]
    | succ i =>
      have := ih i (by simpa using h)
      rw [List.set_cons_succ, tc_cons, tc_cons, ← this, show (i + 1) * 3 = i * 3 + 3 by omega]
      simp
theorem tc_set0 (xs : List Tk) (i : Nat) (b : Int) (h : i < xs.length) : (tc xs).set (i * 3) (.int .u8 b) = tc (xs.set i (b, (tk xs i).2.1, (tk xs i).2.2)) := by
  rw [← tc_set xs i _ h]
  obtain ⟨_, h2, h3⟩ := tc_at xs h
  apply List.ext_getElem?
  intro k
  rw [List.getElem?_set (i := i * 3 + 2), List.getElem?_set (i := i * 3 + 1)]
  have hl : i * 3 + 3 ≤ (tc xs).length := by rw [tc_length]; omega
  by_cases e2 : i * 3 + 2 = k
  · subst e2
    rw [if_pos rfl, if_pos (by simp; omega), List.getElem?_set, if_neg (by omega), h3]
  · rw [if_neg e2]
    by_cases e1 : i * 3 + 1 = k
    · subst e1
      rw [if_pos rfl, if_pos (by simp; omega), List.getElem?_set, if_neg (by omega), h2]
    · rw [if_neg e1]
theorem TRo.set0 {g : Nat} {xs : List Tk} {w : World} (h : TRo g xs w) {i : Nat} (hi : i < xs.length) (b : Int) : TRo g (xs.set i (b, (tk xs i).2.1, (tk xs i).2.2)) (w.setCell ⟨g, i * 3, none⟩ (.int .u8 b)) := by
  unfold TRo at h ⊢
  rw [set_of h, ← tc_set0 xs i b hi]
  simp
theorem TRo.cell {g : Nat} {xs : List Tk} {w : World} (h : TRo g xs w) {i : Nat} (hi : i < xs.length) : w.cell? ⟨g, i * 3, none⟩ = some (.int .u8 (tk xs i).1) := by
  rw [cells_of h]
  have := (tc_at xs hi).1
  simpa using this
theorem TRo.owns {g : Nat} {xs : List Tk} {w : World} (h : TRo g xs w) {base : Nat} (hb : base ≤ g) (hl : xs.length ≤ 1000000000) : OwnsT w base (.slice (some ⟨g, 0, none⟩) xs.length xs.length) xs := by
  refine ⟨by rw [tc_length], .inr ⟨g, xs.length, (tc xs).toArray, rfl, hb, h, Nat.le_refl _, by unfold maxLen; omega, by simp [tc_length], ?_⟩⟩
  rw [← tc_length]; simp
theorem tc_zero (n : Nat) : madeCells (Value.agg #[.int .u8 0, .int .i64 0, .int .i64 0]).cells (n * 3) = (tc (List.replicate n (0, 0, 0))).toArray := by
  apply Array.ext_getElem?
  intro j
  by_cases h : j < n * 3
  · have hd : j = (j / 3) * 3 + j % 3 := by omega
    have hj3 : j / 3 < n := by omega
    obtain ⟨h0, h1, h2⟩ := tc_at (List.replicate n ((0 : Int), (0 : Int), (0 : Int))) (i := j / 3) (by simp; omega)
    have ht : tk (List.replicate n ((0 : Int), (0 : Int), (0 : Int))) (j / 3) = (0, 0, 0) := by rw [tk_in (by simp; omega)]; simp
    rw [ht] at h0 h1 h2
    have hm : j % 3 = 0 ∨ j % 3 = 1 ∨ j % 3 = 2 := by omega
    have e : ((tc (List.replicate n ((0 : Int), (0 : Int), (0 : Int)))).toArray)[j]? = (tc (List.replicate n ((0 : Int), (0 : Int), (0 : Int))))[j]? := by simp
    rw [e]
    clear e
    rcases hm with hm | hm | hm
    · rw [show (tc (List.replicate n ((0 : Int), (0 : Int), (0 : Int))))[j]? = some (.int .u8 0) by rw [hd, hm]; exact h0]
      simp [madeCells, Value.cells, h, hm]
    · rw [show (tc (List.replicate n ((0 : Int), (0 : Int), (0 : Int))))[j]? = some (.int .i64 0) by rw [hd, hm]; exact h1]
      simp [madeCells, Value.cells, h, hm]
    · rw [show (tc (List.replicate n ((0 : Int), (0 : Int), (0 : Int))))[j]? = some (.int .i64 0) by rw [hd, hm]; exact h2]
      simp [madeCells, Value.cells, h, hm]
  · rw [Array.getElem?_eq_none (by rw [size_madeCells]; omega), Array.getElem?_eq_none (by simp [tc_length]; omega)]
theorem made_toks (n : Nat) (hn : n ≤ 1000000000) (W : World) :
    (Instr.makeSlice 117 (.int .i64 (n : Int)) (.int .i64 (n : Int))).run Tryz.prog W = .ok (.slice (some ⟨W.heap.size, 0, none⟩) n n) (W.alloc (.cells (tc (List.replicate n (0, 0, 0))).toArray 159)) := by
  obtain ⟨i, hi, hz, hs, hb⟩ := info_parts Tryz.infoTok
  have := run_make (P := Tryz.prog) W 117 159 i _ Tryz.underlying117 hi hz .i64 .i64 n n (by omega) (by omega) (by rw [hb]; omega) (by omega)
  rw [this, hs, Int.toNat_natCast, tc_zero]

theorem Bys.cell {w w' : World} {a : Option Addr} {zs : List Int} (h : Bys w a zs) (k : Below w.heap.size w w') {i : Nat} (hi : i < zs.length) : ∃ b off, a = some ⟨b, off, none⟩ ∧ b < w.heap.size ∧ w'.cell? ⟨b, off + i, none⟩ = some (.int .u8 (ln zs i)) := by
  rcases h.at_ with h' | ⟨b, off, h1, ha, hc⟩
  · omega
  · exact ⟨b, off, ha, h1, (k.cell (p := ⟨b, off + i, none⟩) h1).trans (hc i hi)⟩

/-- Find, token by token: one answer. -/
inductive Fnd (zs : List Int) (tr : Nat) (two : Prop) : Nat → Nat → List Tk → Prop
  | start : Fnd zs tr two 0 0 []
  | byte {k p : Nat} {xs : List Tk} : Fnd zs tr two k p xs → p < zs.length → RunIs zs p tr 0 0 → Fnd zs tr two (k + 1) (p + 1) (xs ++ [(ln zs p, 0, 0)])
  | run {k p L B : Nat} {xs : List Tk} : Fnd zs tr two k p xs → p < zs.length → RunIs zs p tr L B → 0 < L → (¬ two ∨ ∃ L2 B2, RunIs zs (p + 1) tr L2 B2 ∧ ¬ L < L2) → Fnd zs tr two (k + 1) (p + L) (xs ++ [(0, (L : Int), (B : Int))])
  | wait {k p L B L2 B2 : Nat} {xs : List Tk} : Fnd zs tr two k p xs → p < zs.length → RunIs zs p tr L B → 0 < L → two → RunIs zs (p + 1) tr L2 B2 → L < L2 → Fnd zs tr two (k + 1) (p + 1 + L2) (xs ++ [(ln zs p, 0, 0)] ++ [(0, (L2 : Int), (B2 : Int))])
theorem Fnd.step {zs : List Int} {tr : Nat} {two : Prop} {k p q : Nat} {xs ys : List Tk} (h : Fnd zs tr two (k + 1) p xs) (h' : Fnd zs tr two (k + 1) q ys) (ih : ∀ p q xs ys, Fnd zs tr two k p xs → Fnd zs tr two k q ys → p = q ∧ xs = ys) : p = q ∧ xs = ys := by
  cases h with
  | byte a b c =>
    cases h' with
    | byte a' b' c' => obtain ⟨rfl, rfl⟩ := ih _ _ _ _ a a'; exact ⟨rfl, rfl⟩
    | run a' b' c' d' e' => obtain ⟨rfl, rfl⟩ := ih _ _ _ _ a a'; have := (c.one c').1; omega
    | wait a' b' c' d' e' f' g' => obtain ⟨rfl, rfl⟩ := ih _ _ _ _ a a'; have := (c.one c').1; omega
  | run a b c d e =>
    cases h' with
    | byte a' b' c' => obtain ⟨rfl, rfl⟩ := ih _ _ _ _ a a'; have := (c.one c').1; omega
    | run a' b' c' d' e' => obtain ⟨rfl, rfl⟩ := ih _ _ _ _ a a'; obtain ⟨rfl, rfl⟩ := c.one c'; exact ⟨rfl, rfl⟩
    | wait a' b' c' d' e' f' g' =>
      obtain ⟨rfl, rfl⟩ := ih _ _ _ _ a a'
      obtain ⟨rfl, rfl⟩ := c.one c'
      rcases e with e | ⟨L2, B2, e1, e2⟩
      · exact absurd e' e
      · have := (e1.one f').1; omega
  | wait a b c d e f g =>
    cases h' with
    | byte a' b' c' => obtain ⟨rfl, rfl⟩ := ih _ _ _ _ a a'; have := (c.one c').1; omega
    | run a' b' c' d' e' =>
      obtain ⟨rfl, rfl⟩ := ih _ _ _ _ a a'
      obtain ⟨rfl, rfl⟩ := c.one c'
      rcases e' with e' | ⟨L2, B2, e1, e2⟩
      · exact absurd e e'
      · have := (e1.one f).1; omega
    | wait a' b' c' d' e' f' g' =>
      obtain ⟨rfl, rfl⟩ := ih _ _ _ _ a a'
      obtain ⟨rfl, rfl⟩ := f.one f'
      exact ⟨rfl, rfl⟩
theorem Fnd.one {zs : List Int} {tr : Nat} {two : Prop} : ∀ (k p q : Nat) (xs ys : List Tk), Fnd zs tr two k p xs → Fnd zs tr two k q ys → p = q ∧ xs = ys
  | 0, p, q, xs, ys, h, h' => by cases h; cases h'; exact ⟨rfl, rfl⟩
  | k + 1, p, q, xs, ys, h, h' => h.step h' (Fnd.one k)
theorem Fnd.ahead {zs : List Int} {tr : Nat} {two : Prop} : ∀ (k p : Nat) (xs : List Tk), Fnd zs tr two k p xs → ∀ j, j < k → ∃ q ys, Fnd zs tr two j q ys ∧ q < zs.length
  | 0, _, _, _, j, hj => by omega
  | k + 1, p, xs, h, j, hj => by
    have key : ∃ q ys, Fnd zs tr two k q ys ∧ q < zs.length := by
      cases h with
      | byte a b _ => exact ⟨_, _, a, b⟩
      | run a b _ _ _ => exact ⟨_, _, a, b⟩
      | wait a b _ _ _ _ _ => exact ⟨_, _, a, b⟩
    obtain ⟨q, ys, h1, h2⟩ := key
    by_cases e : j = k
    · subst e; exact ⟨q, ys, h1, h2⟩
    · exact Fnd.ahead k q ys h1 j (by omega)
/-- All that is found. -/
def FndAll (zs : List Int) (lv : Int) (xs : List Tk) : Prop := ∃ k, Fnd zs (trF lv) (1 < lv) k zs.length xs
theorem FndAll.one {zs : List Int} {lv : Int} {xs ys : List Tk} (h : FndAll zs lv xs) (h' : FndAll zs lv ys) : xs = ys := by
  obtain ⟨k, h⟩ := h
  obtain ⟨m, h'⟩ := h'
  rcases Nat.lt_trichotomy k m with e | e | e
  · obtain ⟨q, zs', h1, h2⟩ := Fnd.ahead m _ _ h' k e
    have := (Fnd.one k _ _ _ _ h h1).1
    omega
  · subst e; exact (Fnd.one k _ _ _ _ h h').2
  · obtain ⟨q, zs', h1, h2⟩ := Fnd.ahead k _ _ h m e
    have := (Fnd.one m _ _ _ _ h' h1).1
    omega
/-- What Find answers. -/
def FindOk (zs : List Int) (lv : Int) (w : World) (e : Ending) (w' : World) : Prop :=
  ∃ a cap xs, e = .returned (.slice a xs.length cap) ∧ OwnsT w' w.heap.size (.slice a xs.length cap) xs ∧ Below w.heap.size w w' ∧ (lv < 1 → xs = alT zs) ∧ (1 ≤ lv → FdTo zs zs.length xs ∧ FndAll zs lv xs)
set_option maxHeartbeats 2000000 in
theorem alone_c (a : Option Addr) (cap : Nat) (zs : List Int) (w : World) (h : Bys w a zs) (hl : zs.length ≤ 1000000000) :
    Calls Tryz.prog 97 #[.slice a zs.length cap] w fun e w' => e = .returned (.slice (some ⟨w.heap.size, 0, none⟩) zs.length zs.length) ∧ TRo w.heap.size (alT zs) w' ∧ Below w.heap.size w w' := by
  have HT := hide h
  have hmk := made_toks zs.length hl
  have HZ : Hid ((tc (List.replicate zs.length (0, 0, 0))).toArray = (tc (alF zs 0)).toArray) := by rw [alF_zero]; exact rfl
  clear h
  go_enter Tryz.func97, Tryz.ntmps97
  go_wp2_with fail
  go_loopg [4, 5, 11] zs.length (fun gk v4 v5 v11 wx => ∃ i : Nat, i + gk = zs.length ∧ v11 = .int .i64 i ∧ Hid (TRo w.heap.size (alF zs i) wx ∧ Below w.heap.size w wx))
  case atStart =>
    refine ⟨0, by omega, rfl, ?_, (Below.refl _ w).alloc (Nat.le_refl _) _⟩
    unfold TRo
    rw [← HZ.out]
    exact heap_new w _
  case round =>
    obtain ⟨i, hig, rfl, HR⟩ := hrel
    cases gk with
    | zero =>
      obtain rfl : i = zs.length := by omega
      go_wp2_with fail
      go_ret
      refine ⟨rfl, ?_, HR.out.2⟩
      have := HR.out.1
      rw [alF_all] at this
      exact this
    | succ g1 =>
      have hlt : (i : Int) < (zs.length : Int) := by omega
      obtain ⟨b, off, rfl, hbl, hc⟩ := HT.out.cell HR.out.2 (i := i) (by omega)
      have t0 := HR.out.1.cell (i := i) (by rw [alF_length]; omega)
      have f0 := free_of HR.out.1 (i * 3)
      have hset := HR.out.1.set0 (i := i) (by rw [alF_length]; omega) (ln zs i)
      rw [alF_at zs i (by omega)] at t0 hset
      simp only at t0 hset
      rw [alF_set zs i (by omega)] at hset
      have HSET := hide hset
      clear hset HZ
      generalize ln zs i = X at hc HSET
      go_wp2_with fail
      go_roundg g1
      case measure => omega
      case rel => exact ⟨i + 1, by omega, by go_num, HSET.out, HR.out.2.setCell (Nat.le_refl _) _⟩
end Go.Proofs.YtgjafmppkfgkfaaGreatDoor.M

/- Which tokens may be: the program's Right and the reference's. -/
namespace Go.Proofs.YtgjafmppkfgkfaaGreatDoor.M
set_option maxRecDepth 100000
open Go Go.RowKit

/-- What Right answers. -/
def RightOk (xs : List Tk) (w : World) (e : Ending) (w' : World) : Prop := ∃ β, e = .returned (.bool β) ∧ (β = true ↔ Rt xs) ∧ Below w.heap.size w w'
theorem RightOk.no {xs : List Tk} {w w' : World} {i : Nat} (hi : i < xs.length) (h : ¬ OkT (sm (xs.take i)) (tk xs i)) (hb : Below w.heap.size w w') : RightOk xs w (.returned (.bool false)) w' :=
  ⟨false, rfl, ⟨fun e => (by cases e), fun e => absurd (e i hi) h⟩, hb⟩
theorem RightOk.yes {xs : List Tk} {w w' : World} {i : Nat} (hi : i = xs.length) (h : RtTo xs i) (hb : Below w.heap.size w w') : RightOk xs w (.returned (.bool true)) w' :=
  ⟨true, rfl, ⟨fun _ => (by subst hi; exact h), fun _ => rfl⟩, hb⟩

end Go.Proofs.YtgjafmppkfgkfaaGreatDoor.M
