/- A new finder: contract. -/
import Derived.Test.YtofcpnehnpopaaaMNote
namespace Go.Proofs.Ytofcpnehnpopaaa
set_option maxRecDepth 100000
open Go Go.RowKit

def isZ : Value → Bool
  | .int .i32 n => decide (n = 0)
  | _ => false
theorem isZ_eq {v : Value} (h : isZ v = true) : v = .int .i32 0 := by
  unfold isZ at h
  split at h
  · simp at h; subst h; rfl
  · cases h
/-- A finder's zero cells. -/
noncomputable def finZ : List Value := ((((Try.prog.info? 49).bind (·.zero)).map (fun z => z.cells.toList))).getD []
theorem finZ_len : finZ.length = 16388 := by kernel_rfl
theorem finZ_zero : ((finZ.drop 3).take 16384).all isZ = true := by kernel_rfl
theorem finZ_two : finZ[2]? = some (.int .i64 0) := by kernel_rfl
theorem finZ_places : (Try.prog.underlying 49).bind (fun d => match d with | .struct fields => fields.toList.mapM (fun f => (Try.prog.info? f.type).map fun i => (f.offset, i.size)) | _ => none) = some [(0, 1), (1, 1), (2, 1), (3, 16384), (16387, 1)] := by kernel_rfl
theorem finZ_info : (Try.prog.info? 49).isSome = true := by kernel_rfl
theorem finZ_some : (((Try.prog.info? 49).bind (·.zero))).isSome = true := by kernel_rfl
theorem finZ_at {s : Nat} (h : s < 16384) : finZ[3 + s]? = some (.int .i32 0) := by
  have h1 : ((finZ.drop 3).take 16384)[s]? = finZ[3 + s]? := by rw [List.getElem?_take_of_lt h, List.getElem?_drop]
  have hl : s < ((finZ.drop 3).take 16384).length := by rw [List.length_take, List.length_drop, finZ_len]; omega
  rw [← h1, List.getElem?_eq_getElem hl]
  have := List.all_eq_true.1 finZ_zero _ (List.getElem_mem hl)
  rw [isZ_eq this]

theorem fill_one {pl : Nat → Option (Nat × Nat)} {cells : Array Value} {i off : Nat} {v : Value} {rest : List (Nat × Value)} (h : pl i = some (off, 1)) (hv : v.cells = #[v]) (ho : off + 1 ≤ cells.size) : Instr.fill pl cells ((i, v) :: rest) = Instr.fill pl (cells.setIfInBounds off v) rest := by
  rw [Instr.fill, h]
  simp only [hv]
  have : ¬ off + 1 > cells.size := by omega
  simp [this]
theorem wpList_build {P : Program} {ops : Array Oper} {rest : List Oper} {op : Oper} {a : Act} {w : World} {Q : Exit → Act → World → Prop} (hgd : op.guard = none) (t : TypeId) (parts : Array (Nat × Operand)) (ho : op.op = .build t parts)
    (ps : List (Nat × Value)) (cells : Array Value) (hc : P.built t ps = some cells) (hps : (parts.map fun (i, x) => (i, a.eval x)).toList = ps) (h : wpList P ops Q rest (a.put op.dst (.agg cells)) w) : wpList P ops Q (op :: rest) a w :=
  wpList_plain hgd fun _ hK => by
    unfold Oper.wp execOp
    subst hps
    simp only [ho, Sem.run_bind, run_build w t _ cells hc, Result.andThen_ok]
    exact hK _ _ h
/-- What a finder's literal builds. -/
theorem built_fin (d t b : Value) (hd : d.cells = #[d]) (ht : t.cells = #[t]) (hb : b.cells = #[b]) :
    ∃ cs : Array Value, Try.prog.built 49 [(0, d), (1, t), (4, b)] = some cs ∧ cs.size = 16388 ∧ cs[0]? = some d ∧ cs[1]? = some t ∧ cs[2]? = some (.int .i64 0) ∧ (∀ s, s < 16384 → cs[3 + s]? = some (.int .i32 0)) ∧ cs[16387]? = some b := by
  obtain ⟨z, hz⟩ := Option.isSome_iff_exists.1 finZ_some
  obtain ⟨it, hit⟩ := Option.isSome_iff_exists.1 finZ_info
  have hzz : it.zero = some z := by rw [hit] at hz; exact hz
  have hZ : finZ = z.cells.toList := by unfold finZ; rw [hz]; rfl
  have hp := finZ_places
  cases hu : Try.prog.underlying 49 with
  | none => rw [hu] at hp; cases hp
  | some dd =>
    rw [hu] at hp
    have hsz : z.cells.size = 16388 := by have := finZ_len; rw [hZ] at this; simpa using this
    have h2 : z.cells[2]? = some (.int .i64 0) := by have := finZ_two; rw [hZ] at this; simpa using this
    have h3 : ∀ s, s < 16384 → z.cells[3 + s]? = some (.int .i32 0) := fun s hs => by have := finZ_at hs; rw [hZ] at this; simpa using this
    cases dd <;> try (cases hp; done)
    case struct fields =>
      simp only [Option.bind_some] at hp
      generalize hcz : z.cells = C at hsz h2 h3
      refine ⟨((C.setIfInBounds 0 d).setIfInBounds 1 t).setIfInBounds 16387 b, ?_, ?_, ?_, ?_, ?_, fun s hs => ?_, ?_⟩
      · unfold Program.built
        simp only [hit, hu, hzz, hp, hcz]
        rw [fill_one (off := 0) (by rfl) hd (by omega), fill_one (off := 1) (by rfl) ht (by simp; omega), fill_one (off := 16387) (by rfl) hb (by simp; omega)]
        rfl
      · simp [hsz]
      · rw [Array.getElem?_setIfInBounds, if_neg (by omega), Array.getElem?_setIfInBounds, if_neg (by omega), Array.getElem?_setIfInBounds, if_pos rfl, if_pos (by omega)]
      · rw [Array.getElem?_setIfInBounds, if_neg (by omega), Array.getElem?_setIfInBounds, if_pos rfl, if_pos (by simp; omega)]
      · rw [Array.getElem?_setIfInBounds, if_neg (by omega), Array.getElem?_setIfInBounds, if_neg (by omega), Array.getElem?_setIfInBounds, if_neg (by omega)]; exact h2
      · rw [Array.getElem?_setIfInBounds, if_neg (by omega), Array.getElem?_setIfInBounds, if_neg (by omega), Array.getElem?_setIfInBounds, if_neg (by omega)]; exact h3 s hs
      · rw [Array.getElem?_setIfInBounds, if_pos rfl, if_pos (by simp; omega)]
theorem Try.infoI32 : (Try.prog.info? 21).map (fun i => (i.zero, i.size, i.bytes)) = some (some (.int .i32 0), 1, 4) := by kernel_rfl
theorem made_i32 (n : Nat) (hn : n ≤ 1000000000) (W : World) :
    (Instr.makeSlice 46 (.int .i64 (n : Int)) (.int .i64 (n : Int))).run Try.prog W = .ok (.slice (some ⟨W.heap.size, 0, none⟩) n n) (W.alloc (.cells (List.replicate n (.int .i32 0)).toArray 21)) := by
  obtain ⟨i, hi, hz, hs, hb⟩ := info_parts Try.infoI32
  have := run_make (P := Try.prog) W 46 21 i (.int .i32 0) Try.underlying46 hi hz .i64 .i64 n n (by omega) (by omega) (by rw [hb]; omega) (by omega)
  rw [this, hs]
  have e2 : madeCells (Value.int .i32 0).cells n = (List.replicate n (.int .i32 0)).toArray := by
    have := toList_madeCells_one (Value.int .i32 0) n
    rw [← Array.toList_inj]
    simpa [Value.cells] using this
  rw [Int.toNat_natCast, Nat.mul_one, e2]

set_option maxHeartbeats 2000000 in
theorem new_c (a : Option Addr) (cap : Nat) (zs : List Int) (lv : Int) (w : World) (h : Bys w a zs) (hl : zs.length ≤ 1000000000) (hcp : zs.length ≤ cap) (hB : 0 < zs.length → ∀ b off, a = some ⟨b, off, none⟩ → b < w.heap.size) (hlv : 1 ≤ lv) :
    Calls Try.prog 24 #[.slice a zs.length cap, .int .i64 lv] w fun e w' => e = .returned (.pointer (some ⟨w.heap.size + 1, 0, none⟩)) ∧ ∃ tr, 64 ≤ tr ∧ tr ≤ 256 ∧ FinAt w.heap.size w' (w.heap.size + 1) w.heap.size a cap zs tr 0 (fun _ => 0) (fun _ => 0) ∧ Below w.heap.size w w' := by
  obtain ⟨N, hN⟩ : ∃ N, min zs.length 32768 = N := ⟨_, rfl⟩
  have hNi : (if 32768 < (zs.length : Int) then (32768 : Int) else (zs.length : Int)) = (N : Int) := by omega
  have hmk := made_i32 N (by omega)
  have hout : ∀ (tr : Nat) (cs : Array Value), 64 ≤ tr → tr ≤ 256 → (cs.size = 16388 ∧ cs[0]? = some (.slice a zs.length cap) ∧ cs[1]? = some (.int .i64 (tr : Int)) ∧ cs[2]? = some (.int .i64 0) ∧ (∀ s, s < 16384 → cs[3 + s]? = some (.int .i32 0)) ∧ cs[16387]? = some (.slice (some ⟨w.heap.size, 0, none⟩) N N)) → ∃ tr, 64 ≤ tr ∧ tr ≤ 256 ∧ FinAt w.heap.size ((w.alloc (.cells (List.replicate N (.int .i32 0)).toArray 21)).alloc (.cells cs 49)) (w.heap.size + 1) w.heap.size a cap zs tr 0 (fun _ => 0) (fun _ => 0) ∧ Below w.heap.size w ((w.alloc (.cells (List.replicate N (.int .i32 0)).toArray 21)).alloc (.cells cs 49)) := by
    intro tr cs t1 t2 ⟨_, k0, k1, k2, k3, k4⟩
    have hbl : Below w.heap.size w ((w.alloc (.cells (List.replicate N (.int .i32 0)).toArray 21)).alloc (.cells cs 49)) := ((Below.refl _ w).alloc (Nat.le_refl _) _).alloc (by simp) _
    refine ⟨tr, t1, t2, ⟨⟨cs, heap_new2 w _ _, k0, k1, k2, k3, by rw [hN]; exact k4⟩, ⟨_, heap_new1 w _ _, fun x hx => ?_⟩, h.stay hbl, hB, ⟨by omega, Nat.le_refl _⟩, hcp⟩, hbl⟩
    rw [hN] at hx
    simp [hx]
  have HOUT := hide hout
  clear hout h hN
  by_cases h3 : 3 ≤ lv
  · have hif : (if 3 < lv then (3 : Int) else lv) = 3 := by omega
    obtain ⟨cs, hb, hr⟩ := built_fin (.slice a zs.length cap) (.int .i64 256) (.slice (some ⟨w.heap.size, 0, none⟩) N N) rfl rfl rfl
    have HBD := hide hb
    have HR := hide (HOUT.out 256 cs (by omega) (by omega) hr)
    clear hr hb HOUT
    go_enter Try.func24, Try.ntmps24
    go_wp2_with (refine wpList_build rfl 49 _ rfl _ cs HBD.out (by simp [Act.eval]) ?_)
    go_ret
    exact ⟨rfl, HR.out⟩
  · by_cases h2 : 2 ≤ lv
    · obtain rfl : lv = 2 := by omega
      obtain ⟨cs, hb, hr⟩ := built_fin (.slice a zs.length cap) (.int .i64 128) (.slice (some ⟨w.heap.size, 0, none⟩) N N) rfl rfl rfl
      have HBD := hide hb
      have HR := hide (HOUT.out 128 cs (by omega) (by omega) hr)
      clear hr hb HOUT
      go_enter Try.func24, Try.ntmps24
      go_wp2_with (refine wpList_build rfl 49 _ rfl _ cs HBD.out (by simp [Act.eval]) ?_)
      go_ret
      exact ⟨rfl, HR.out⟩
    · obtain rfl : lv = 1 := by omega
      obtain ⟨cs, hb, hr⟩ := built_fin (.slice a zs.length cap) (.int .i64 64) (.slice (some ⟨w.heap.size, 0, none⟩) N N) rfl rfl rfl
      have HBD := hide hb
      have HR := hide (HOUT.out 64 cs (by omega) (by omega) hr)
      clear hr hb HOUT
      go_enter Try.func24, Try.ntmps24
      go_wp2_with (refine wpList_build rfl 49 _ rfl _ cs HBD.out (by simp [Act.eval]) ?_)
      go_ret
      exact ⟨rfl, HR.out⟩
end Go.Proofs.Ytofcpnehnpopaaa
