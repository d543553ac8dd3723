/- Several texts, laid together: MNote, MNew, MRun. -/
import Derived.Test.YteknifnadbmfiaaGreatDoorpMg00MSlot
/- The finder's note: contract. -/
namespace Go.Proofs.YteknifnadbmfiaaGreatDoor.M
set_option maxRecDepth 100000
open Go Go.RowKit

def NSt (B : Nat) (bf bb : Nat) (a : Option Addr) (cap : Nat) (zs : List Int) (tr : Nat) (w wx : World) (m : Nat) : Prop :=
 ∃ la be, FinAt B wx bf bb a cap zs tr m la be /\ Chain (sl zs) m la be /\ Kept (fun b => b = bf \/ b = bb) w wx
section
variable {B : Nat} {w w' : World} {bf bb : Nat} {a : Option Addr} {cap : Nat} {zs : List Int} {tr n : Nat} {la be : Nat -> Nat}
theorem FinAt.setB (h : FinAt B w bf bb a cap zs tr n la be) {x : Nat} (hx : x < min zs.length 32768) (v : Nat) : FinAt B (w.setCell ⟨bb, x, none⟩ (.int .i32 (v : Int))) bf bb a cap zs tr n la (up be x v) := by
 obtain ⟨cs, hb, hr⟩ := h.fb
 obtain ⟨ds, hd, hs⟩ := h.bk
 have hk : Kept (fun b => b = bb) w (w.setCell ⟨bb, x, none⟩ (.int .i32 (v : Int))) := Kept.setCell (M := fun b => b = bb) (Kept.refl _ w) (fun _ => rfl) _
 refine ⟨⟨cs, Kept.heap hk hb h.ne, hr⟩, ⟨_, set_of hd x _, fun y hy => ?_⟩, h.tx.kept hk (fun h0 b off e => by have := h.hB h0 b off e; have := h.inb; omega), h.hB, h.inb, h.cp⟩
 rw [Array.getElem?_setIfInBounds]
 by_cases e : x = y
 ·subst e
  have : x < ds.size := by
   have := hs x hx
   rcases Nat.lt_or_ge x ds.size with h' | h'
   ·exact h'
   ·rw [Array.getElem?_eq_none h'] at this; cases this
  rw [if_pos rfl, if_pos this, up_same]
 ·rw [if_neg e, up_other _ _ (fun e' => e e'.symm)]; exact hs y hy
theorem FinAt.setL (h : FinAt B w bf bb a cap zs tr n la be) {s : Nat} (hs : s < 16384) (v : Nat) : FinAt B (w.setCell ⟨bf, 3 + s, none⟩ (.int .i32 (v : Int))) bf bb a cap zs tr n (up la s v) be := by
 obtain ⟨cs, hb, h0, h1, h2, h3, h4⟩ := h.fb
 obtain ⟨ds, hd, hr⟩ := h.bk
 have hk : Kept (fun b => b = bf) w (w.setCell ⟨bf, 3 + s, none⟩ (.int .i32 (v : Int))) := Kept.setCell (M := fun b => b = bf) (Kept.refl _ w) (fun _ => rfl) _
 refine ⟨⟨_, set_of hb (3 + s) _, ?_, ?_, ?_, fun y hy => ?_, ?_⟩, ⟨ds, Kept.heap hk hd (fun e => h.ne e.symm), hr⟩, h.tx.kept hk (fun h0 b off e => by have := h.hB h0 b off e; have := h.inb; omega), h.hB, h.inb, h.cp⟩
 ·rw [Array.getElem?_setIfInBounds, if_neg (by omega)]; exact h0
 ·rw [Array.getElem?_setIfInBounds, if_neg (by omega)]; exact h1
 ·rw [Array.getElem?_setIfInBounds, if_neg (by omega)]; exact h2
 ·rw [Array.getElem?_setIfInBounds]
  by_cases e : s = y
  ·subst e
   have : 3 + s < cs.size := by
    have := h3 s hs
    rcases Nat.lt_or_ge (3 + s) cs.size with h' | h'
    ·exact h'
    ·rw [Array.getElem?_eq_none h'] at this; cases this
   rw [if_pos rfl, if_pos this, up_same]
  ·rw [if_neg (by omega), up_other _ _ (fun e' => e e'.symm)]; exact h3 y hy
 ·rw [Array.getElem?_setIfInBounds, if_neg (by omega)]; exact h4
theorem FinAt.setN (h : FinAt B w bf bb a cap zs tr n la be) (v : Nat) : FinAt B (w.setCell ⟨bf, 2, none⟩ (.int .i64 (v : Int))) bf bb a cap zs tr v la be := by
 obtain ⟨cs, hb, h0, h1, h2, h3, h4⟩ := h.fb
 obtain ⟨ds, hd, hr⟩ := h.bk
 have hk : Kept (fun b => b = bf) w (w.setCell ⟨bf, 2, none⟩ (.int .i64 (v : Int))) := Kept.setCell (M := fun b => b = bf) (Kept.refl _ w) (fun _ => rfl) _
 have hsz : 2 < cs.size := by
  rcases Nat.lt_or_ge 2 cs.size with h' | h'
  ·exact h'
  ·rw [Array.getElem?_eq_none h'] at h2; cases h2
 refine ⟨⟨_, set_of hb 2 _, ?_, ?_, ?_, fun y hy => ?_, ?_⟩, ⟨ds, Kept.heap hk hd (fun e => h.ne e.symm), hr⟩, h.tx.kept hk (fun h0 b off e => by have := h.hB h0 b off e; have := h.inb; omega), h.hB, h.inb, h.cp⟩
 ·rw [Array.getElem?_setIfInBounds, if_neg (by omega)]; exact h0
 ·rw [Array.getElem?_setIfInBounds, if_neg (by omega)]; exact h1
 ·rw [Array.getElem?_setIfInBounds, if_pos rfl, if_pos hsz]
 ·rw [Array.getElem?_setIfInBounds, if_neg (by omega)]; exact h3 y hy
 ·rw [Array.getElem?_setIfInBounds, if_neg (by omega)]; exact h4

set_option maxHeartbeats 4000000 in
theorem note_c (h : FinAt B w bf bb a cap zs tr n la be) (hch : Chain (sl zs) n la be) (p : Nat) (hn : n <= p) (hp : p + 2 <= zs.length) (hl : zs.length <= 1000000000) (hcap : cap <= 9223372036854775807) :
  Calls Tryz.prog 72 #[.pointer (some ⟨bf, 0, none⟩), .int .i64 (p : Int)] w fun e w' => e = .returned (.tuple #[]) /\ NSt B bf bb a cap zs tr w w' p := by
 have HS0 : Hid (NSt B bf bb a cap zs tr w w n) := ⟨la, be, h, hch, Kept.refl _ _⟩
 clear h hch
 go_enter Tryz.func72, Tryz.ntmps72
 go_wp2_with fail
 go_loopg [4] (p - n) (fun gk v4 wx => ∃ m : Nat, m + gk = p /\ Hid (NSt B bf bb a cap zs tr w wx m))
 case atStart => exact ⟨n, by omega, HS0.out⟩
 case round =>
  obtain ⟨m, hmg, HS⟩ := hrel
  cases gk with
  | zero =>
   obtain rfl : m = p := by omega
   obtain ⟨la', be', hF, hC, hK⟩ := HS.out
   have c2 := hF.c2
   clear hF hC hK
   go_wp2_with fail
   go_end0
   exact ⟨rfl, HS.out⟩
  | succ g1 =>
   have hlt : (m : Int) < (p : Int) := by omega
   obtain ⟨la', be', hF, hC, hK⟩ := HS.out
   have HF := hide hF
   have HC := hide hC
   have HK := hide hK
   have c2 := hF.c2
   have hslot := hide (slot_c hF m (by omega) hl hcap)
   clear hF hC hK
   go_upto_region 3 with (go_at_call 73; refine hslot.out.mono ?_; rintro e w1 ⟨rfl, q, rfl⟩)
   clear hslot c2
   have HF1 := hide (HF.out.drewN q)
   have HK1 := hide (HK.out.drewN q)
   generalize wr.drewN q = w1 at HF1 HK1 ⊢
   clear HF HK
   have hs := sl_lt zs m
   obtain ⟨s, hsd⟩ : ∃ s, sl zs m = s := ⟨_, rfl⟩
   obtain ⟨x, hx⟩ : ∃ x, m % 32768 = x := ⟨_, rfl⟩
   have hxl : x < min zs.length 32768 := by omega
   have hxm : (m : Int).tmod 32768 = (x : Int) := by rw [Int.tmod_eq_emod_of_nonneg (by omega)]; omega
   have hxm2 : (m : Int) % 32768 = (x : Int) := by omega
   rw [hsd] at hs ⊢
   have c2 := HF1.out.c2
   have c3 := HF1.out.c3 hs
   have c4 := HF1.out.c4
   have b0 := HF1.out.b0 hxl
   have fb := HF1.out.bfree x
   have HSD := hide hsd
   have HX := hide hx
   have HXL := hide hxl
   obtain ⟨N, hN⟩ : ∃ N, min zs.length 32768 = N := ⟨_, rfl⟩
   rw [hN] at hxl c4
   have HN := hide hN
   clear hN hsd hx
   have i1 : (0 : Int) <= (x : Int) := by omega
   have i2 : (x : Int) < (N : Int) := by omega
   have i3 : (0 : Int) <= (s : Int) := by omega
   have i4 : (s : Int) < 16384 := by omega
   have c3' : w1.cell? ⟨bf, 3 + s * 1, none⟩ = some (.int .i32 (la' s : Int)) := by rw [Nat.mul_one]; exact c3
   have hv := HC.out.la_le s
   generalize hV : la' s = V at c3 c3' hv
   generalize hE : be' x = E at b0
   have HV := hide hV
   clear hV hE
   go_region
   go_upto_region 4 with fail
   have HF2 : Hid (FinAt B (w1.setCell ⟨bb, x, none⟩ (.int .i32 (V : Int))).drew bf bb a cap zs tr m la' (up be' x V)) := (HF1.out.setB HXL.out V).drew
   have HK2 : Hid (Kept (fun b => b = bf \/ b = bb) w (w1.setCell ⟨bb, x, none⟩ (.int .i32 (V : Int))).drew) := (HK1.out.setCell (fun _ => .inr rfl) _).drew
   generalize (w1.setCell ⟨bb, x, none⟩ (.int .i32 (V : Int))).drew = w2 at HF2 HK2 ⊢
   clear HF1 HK1 c2 c3 c3' c4 b0 fb hxm hxm2
   have c2 := HF2.out.c2
   have c3 := HF2.out.c3 hs
   have f3 := HF2.out.ffree (3 + s)
   have hw : IntKind.i32.wrap ((m : Int) + 1) = (m : Int) + 1 := by simp only [IntKind.wrap_i32]; omega
   generalize hE : la' s = E2 at c3
   clear hE
   go_region
   go_upto_region 1 with fail
   have HF3 : Hid (FinAt B (w2.setCell ⟨bf, 3 + s, none⟩ (.int .i32 ((m : Int) + 1))).drew bf bb a cap zs tr m (up la' s (m + 1)) (up be' x V)) := (HF2.out.setL hs (m + 1)).drew
   have HK3 : Hid (Kept (fun b => b = bf \/ b = bb) w (w2.setCell ⟨bf, 3 + s, none⟩ (.int .i32 ((m : Int) + 1))).drew) := (HK2.out.setCell (fun _ => .inl rfl) _).drew
   generalize (w2.setCell ⟨bf, 3 + s, none⟩ (.int .i32 ((m : Int) + 1))).drew = w3 at HF3 HK3 ⊢
   clear HF2 HK2 c2 c3 f3 hw
   have c2 := HF3.out.c2
   have f2 := HF3.out.ffree 2
   go_wp2_with fail
   go_roundg g1
   case measure => omega
   case rel =>
    refine ⟨m + 1, by omega, _, _, HF3.out.setN (m + 1), ?_, HK3.out.setCell (fun _ => .inl rfl) _⟩
    have := HC.out.step
    rw [HSD.out, HX.out, HV.out] at this
    exact this
end
end Go.Proofs.YteknifnadbmfiaaGreatDoor.M

/- A new finder: contract. -/
namespace Go.Proofs.YteknifnadbmfiaaGreatDoor.M
set_option maxRecDepth 100000
open Go Go.RowKit

def isZ : Value -> Bool
 | .int .i32 n => decide (n = 0)
 | _ => false
theorem isZ_eq {v : Value} (h : isZ v = true) : v = .int .i32 0 := by
 unfold isZ at h
 split at h
 ·simp at h; subst h; rfl
 ·cases h
noncomputable def finZ : List Value := ((((Tryz.prog.info? 141).bind (·.zero)).map (fun z => z.cells.toList))).getD []
theorem finZ_len : finZ.length = 16388 := by kernel_rfl
theorem finZ_zero : ((finZ.drop 3).take 16384).all isZ = true := by kernel_rfl
theorem finZ_two : finZ[2]? = some (.int .i64 0) := by kernel_rfl
theorem finZ_places : (Tryz.prog.underlying 141).bind (fun d => match d with | .struct fields => fields.toList.mapM (fun f => (Tryz.prog.info? f.type).map fun i => (f.offset, i.size)) | _ => none) = some [(0, 1), (1, 1), (2, 1), (3, 16384), (16387, 1)] := by kernel_rfl
theorem finZ_info : (Tryz.prog.info? 141).isSome = true := by kernel_rfl
theorem finZ_some : (((Tryz.prog.info? 141).bind (·.zero))).isSome = true := by kernel_rfl
theorem finZ_at {s : Nat} (h : s < 16384) : finZ[3 + s]? = some (.int .i32 0) := by
 have h1 : ((finZ.drop 3).take 16384)[s]? = finZ[3 + s]? := by rw [List.getElem?_take_of_lt h, List.getElem?_drop]
 have hl : s < ((finZ.drop 3).take 16384).length := by rw [List.length_take, List.length_drop, finZ_len]; omega
 rw [<- h1, List.getElem?_eq_getElem hl]
 have := List.all_eq_true.1 finZ_zero _ (List.getElem_mem hl)
 rw [isZ_eq this]

theorem fill_one {pl : Nat -> Option (Nat × Nat)} {cells : Array Value} {i off : Nat} {v : Value} {rest : List (Nat × Value)} (h : pl i = some (off, 1)) (hv : v.cells = #[v]) (ho : off + 1 <= cells.size) : Instr.fill pl cells ((i, v) :: rest) = Instr.fill pl (cells.setIfInBounds off v) rest := by
 rw [Instr.fill, h]
 simp only [hv]
 have : ¬ off + 1 > cells.size := by omega
 simp [this]
theorem wpList_build {P : Program} {ops : Array Oper} {rest : List Oper} {op : Oper} {a : Act} {w : World} {Q : Exit -> Act -> World -> Prop} (hgd : op.guard = none) (t : TypeId) (parts : Array (Nat × Operand)) (ho : op.op = .build t parts)
  (ps : List (Nat × Value)) (cells : Array Value) (hc : P.built t ps = some cells) (hps : (parts.map fun (i, x) => (i, a.eval x)).toList = ps) (h : wpList P ops Q rest (a.put op.dst (.agg cells)) w) : wpList P ops Q (op :: rest) a w :=
 wpList_plain hgd fun _ hK => by
  unfold Oper.wp execOp
  subst hps
  simp only [ho, Sem.run_bind, run_build w t _ cells hc, Result.andThen_ok]
  exact hK _ _ h
theorem built_fin (d t b : Value) (hd : d.cells = #[d]) (ht : t.cells = #[t]) (hb : b.cells = #[b]) :
  ∃ cs : Array Value, Tryz.prog.built 141 [(0, d), (1, t), (4, b)] = some cs /\ cs.size = 16388 /\ cs[0]? = some d /\ cs[1]? = some t /\ cs[2]? = some (.int .i64 0) /\ (∀ s, s < 16384 -> cs[3 + s]? = some (.int .i32 0)) /\ cs[16387]? = some b := by
 obtain ⟨z, hz⟩ := Option.isSome_iff_exists.1 finZ_some
 obtain ⟨it, hit⟩ := Option.isSome_iff_exists.1 finZ_info
 have hzz : it.zero = some z := by rw [hit] at hz; exact hz
 have hZ : finZ = z.cells.toList := by unfold finZ; rw [hz]; rfl
 have hp := finZ_places
 cases hu : Tryz.prog.underlying 141 with
 | none => rw [hu] at hp; cases hp
 | some dd =>
  rw [hu] at hp
  have hsz : z.cells.size = 16388 := by have := finZ_len; rw [hZ] at this; simpa using this
  have h2 : z.cells[2]? = some (.int .i64 0) := by have := finZ_two; rw [hZ] at this; simpa using this
  have h3 : ∀ s, s < 16384 -> z.cells[3 + s]? = some (.int .i32 0) := fun s hs => by have := finZ_at hs; rw [hZ] at this; simpa using this
  cases dd <;> try (cases hp; done)
  case struct fields =>
   simp only [Option.bind_some] at hp
   generalize hcz : z.cells = C at hsz h2 h3
   refine ⟨((C.setIfInBounds 0 d).setIfInBounds 1 t).setIfInBounds 16387 b, ?_, ?_, ?_, ?_, ?_, fun s hs => ?_, ?_⟩
   ·unfold Program.built
    simp only [hit, hu, hzz, hp, hcz]
    rw [fill_one (off := 0) (by rfl) hd (by omega), fill_one (off := 1) (by rfl) ht (by simp; omega), fill_one (off := 16387) (by rfl) hb (by simp; omega)]
    rfl
   ·simp [hsz]
   ·rw [Array.getElem?_setIfInBounds, if_neg (by omega), Array.getElem?_setIfInBounds, if_neg (by omega), Array.getElem?_setIfInBounds, if_pos rfl, if_pos (by omega)]
   ·rw [Array.getElem?_setIfInBounds, if_neg (by omega), Array.getElem?_setIfInBounds, if_pos rfl, if_pos (by simp; omega)]
   ·rw [Array.getElem?_setIfInBounds, if_neg (by omega), Array.getElem?_setIfInBounds, if_neg (by omega), Array.getElem?_setIfInBounds, if_neg (by omega)]; exact h2
   ·rw [Array.getElem?_setIfInBounds, if_neg (by omega), Array.getElem?_setIfInBounds, if_neg (by omega), Array.getElem?_setIfInBounds, if_neg (by omega)]; exact h3 s hs
   ·rw [Array.getElem?_setIfInBounds, if_pos rfl, if_pos (by simp; omega)]
theorem Tryz.infoI32 : (Tryz.prog.info? 21).map (fun i => (i.zero, i.size, i.bytes)) = some (some (.int .i32 0), 1, 4) := by kernel_rfl
theorem made_i32 (n : Nat) (hn : n <= 1000000000) (W : World) :
  (Instr.makeSlice 138 (.int .i64 (n : Int)) (.int .i64 (n : Int))).run Tryz.prog W = .ok (.slice (some ⟨W.heap.size, 0, none⟩) n n) (W.alloc (.cells (List.replicate n (.int .i32 0)).toArray 21)) := by
 obtain ⟨i, hi, hz, hs, hb⟩ := info_parts Tryz.infoI32
 have := run_make (P := Tryz.prog) W 138 21 i (.int .i32 0) Tryz.underlying138 hi hz .i64 .i64 n n (by omega) (by omega) (by rw [hb]; omega) (by omega)
 rw [this, hs]
 have e2 : madeCells (Value.int .i32 0).cells n = (List.replicate n (.int .i32 0)).toArray := by
  have := toList_madeCells_one (Value.int .i32 0) n
  rw [<- Array.toList_inj]
  simpa [Value.cells] using this
 rw [Int.toNat_natCast, Nat.mul_one, e2]

def trF (lv : Int) : Nat := if 3 <= lv then 256 else if 2 <= lv then 128 else 64
def NewOk (zs : List Int) (lv : Int) (a : Option Addr) (cap : Nat) (w w' : World) : Prop := ∃ tr, tr = trF lv /\ 64 <= tr /\ tr <= 256 /\ FinAt w.heap.size w' (w.heap.size + 1) w.heap.size a cap zs tr 0 (fun _ => 0) (fun _ => 0) /\ Below w.heap.size w w'
set_option maxHeartbeats 2000000 in
theorem new_c (a : Option Addr) (cap : Nat) (zs : List Int) (lv : Int) (w : World) (h : Bys w a zs) (hl : zs.length <= 1000000000) (hcp : zs.length <= cap) (hB : 0 < zs.length -> ∀ b off, a = some ⟨b, off, none⟩ -> b < w.heap.size) (hlv : 1 <= lv) :
  Calls Tryz.prog 53 #[.slice a zs.length cap, .int .i64 lv] w fun e w' => e = .returned (.pointer (some ⟨w.heap.size + 1, 0, none⟩)) /\ NewOk zs lv a cap w w' := by
 obtain ⟨N, hN⟩ : ∃ N, min zs.length 32768 = N := ⟨_, rfl⟩
 have hNi : (if 32768 < (zs.length : Int) then (32768 : Int) else (zs.length : Int)) = (N : Int) := by omega
 have hmk := made_i32 N (by omega)
 have hout : ∀ (tr : Nat) (cs : Array Value), tr = trF lv -> 64 <= tr -> tr <= 256 -> (cs.size = 16388 /\ cs[0]? = some (.slice a zs.length cap) /\ cs[1]? = some (.int .i64 (tr : Int)) /\ cs[2]? = some (.int .i64 0) /\ (∀ s, s < 16384 -> cs[3 + s]? = some (.int .i32 0)) /\ cs[16387]? = some (.slice (some ⟨w.heap.size, 0, none⟩) N N)) -> NewOk zs lv a cap w ((w.alloc (.cells (List.replicate N (.int .i32 0)).toArray 21)).alloc (.cells cs 141)) := by
  intro tr cs t0 t1 t2 ⟨_, k0, k1, k2, k3, k4⟩
  have hbl : Below w.heap.size w ((w.alloc (.cells (List.replicate N (.int .i32 0)).toArray 21)).alloc (.cells cs 141)) := ((Below.refl _ w).alloc (Nat.le_refl _) _).alloc (by simp) _
  refine ⟨tr, t0, t1, t2, ⟨⟨cs, heap_new2 w _ _, k0, k1, k2, k3, by rw [hN]; exact k4⟩, ⟨_, heap_new1 w _ _, fun x hx => ?_⟩, h.stay hbl, hB, ⟨by omega, Nat.le_refl _⟩, hcp⟩, hbl⟩
  rw [hN] at hx
  simp [hx]
 have HOUT := hide hout
 clear hout h hN
 by_cases h3 : 3 <= lv
 ·have hif : (if 3 < lv then (3 : Int) else lv) = 3 := by omega
  obtain ⟨cs, hb, hr⟩ := built_fin (.slice a zs.length cap) (.int .i64 256) (.slice (some ⟨w.heap.size, 0, none⟩) N N) rfl rfl rfl
  have HBD := hide hb
  have HR := hide (HOUT.out 256 cs (by unfold trF; rw [if_pos h3]) (by omega) (by omega) hr)
  clear hr hb HOUT
  go_enter Tryz.func53, Tryz.ntmps53
  go_wp2_with (refine wpList_build rfl 141 _ rfl _ cs HBD.out (by simp [Act.eval]) ?_)
  go_ret
  exact ⟨rfl, HR.out⟩
 ·by_cases h2 : 2 <= lv
  ·obtain rfl : lv = 2 := by omega
   obtain ⟨cs, hb, hr⟩ := built_fin (.slice a zs.length cap) (.int .i64 128) (.slice (some ⟨w.heap.size, 0, none⟩) N N) rfl rfl rfl
   have HBD := hide hb
   have HR := hide (HOUT.out 128 cs rfl (by omega) (by omega) hr)
   clear hr hb HOUT
   go_enter Tryz.func53, Tryz.ntmps53
   go_wp2_with (refine wpList_build rfl 141 _ rfl _ cs HBD.out (by simp [Act.eval]) ?_)
   go_ret
   exact ⟨rfl, HR.out⟩
  ·obtain rfl : lv = 1 := by omega
   obtain ⟨cs, hb, hr⟩ := built_fin (.slice a zs.length cap) (.int .i64 64) (.slice (some ⟨w.heap.size, 0, none⟩) N N) rfl rfl rfl
   have HBD := hide hb
   have HR := hide (HOUT.out 64 cs rfl (by omega) (by omega) hr)
   clear hr hb HOUT
   go_enter Tryz.func53, Tryz.ntmps53
   go_wp2_with (refine wpList_build rfl 141 _ rfl _ cs HBD.out (by simp [Act.eval]) ?_)
   go_ret
   exact ⟨rfl, HR.out⟩
end Go.Proofs.YteknifnadbmfiaaGreatDoor.M

/- The finder's common and run: contracts. -/
namespace Go.Proofs.YteknifnadbmfiaaGreatDoor.M
set_option maxRecDepth 100000
open Go Go.RowKit
section
variable {B : Nat} {w w' : World} {bf bb : Nat} {a : Option Addr} {cap : Nat} {zs : List Int} {tr n : Nat} {la be : Nat -> Nat}

def Com (zs : List Int) (i p most m : Nat) : Prop := m <= most /\ (∀ x, x < m -> ln zs (i + x) = ln zs (p + x)) /\ (m < most -> ln zs (i + m) ≠ ln zs (p + m))
theorem Com.le {zs : List Int} {i p most m : Nat} (h : Com zs i p most m) {k : Nat} (hk : k <= most) (hs : ∀ x, x < k -> ln zs (i + x) = ln zs (p + x)) : k <= m := by
 rcases Nat.lt_or_ge m k with h' | h'
 ·exact absurd (hs m h') (h.2.2 (by omega))
 ·exact h'

set_option maxHeartbeats 2000000 in
theorem common_c (h : FinAt B w bf bb a cap zs tr n la be) (i p most : Nat) (hi : i + most <= zs.length) (hp : p + most <= zs.length) (h0 : 0 < most) (hl : zs.length <= 1000000000) :
  Calls Tryz.prog 74 #[.pointer (some ⟨bf, 0, none⟩), .int .i64 (i : Int), .int .i64 (p : Int), .int .i64 (most : Int)] w fun e w' => (∃ m : Nat, e = .returned (.int .i64 (m : Int)) /\ Com zs i p most m) /\ ∃ q, w' = w.drewN q := by
 obtain ⟨b, off, rfl, hbl, hc⟩ := h.text (by omega)
 have c0 := h.c0
 have HC := hide hc
 clear hc h
 go_enter Tryz.func74, Tryz.ntmps74
 go_wp2_with fail
 go_loopg [9] most (fun gk v9 wx => ∃ m q : Nat, m + gk = most /\ v9 = .int .i64 m /\ Hid (∀ x, x < m -> ln zs (i + x) = ln zs (p + x)) /\ wx = w.drewN q)
 case atStart => exact ⟨0, 0, by omega, rfl, fun x hx => by omega, rfl⟩
 case round =>
  obtain ⟨m, q, hmg, rfl, HS, rfl⟩ := hrel
  cases gk with
  | zero =>
   have hge : ¬ (m : Int) < (most : Int) := by omega
   have hd : decide ((m : Int) < (most : Int)) = false := by simpa using hge
   generalize hW : w.drewN q = w1 at *
   have HW := hide hW
   clear hW c0
   go_upto_region 2 with fail
   go_quiet (fail)
   go_wp2_with fail
   go_ret
   exact ⟨⟨m, rfl, by omega, HS.out, fun h => by omega⟩, q + nq, by rw [<- HW.out, World.drewN_drewN]⟩
  | succ g1 =>
   have hlt : (m : Int) < (most : Int) := by omega
   have hd : decide ((m : Int) < (most : Int)) = true := by simpa using hlt
   have c1 : (w.drewN q).cell? ⟨bf, 0, none⟩ = some (.slice (some ⟨b, off, none⟩) zs.length cap) := c0
   have d1 : (w.drewN q).cell? ⟨b, off + (i + m), none⟩ = some (.int .u8 (ln zs (i + m))) := HC.out (i + m) (by omega)
   have d2 : (w.drewN q).cell? ⟨b, off + (p + m), none⟩ = some (.int .u8 (ln zs (p + m))) := HC.out (p + m) (by omega)
   have HX : Hid (ln zs (i + m) = ln zs (i + m) /\ ln zs (p + m) = ln zs (p + m)) := ⟨rfl, rfl⟩
   obtain ⟨X, hX⟩ : ∃ X, ln zs (i + m) = X := ⟨_, rfl⟩
   obtain ⟨Y, hY⟩ : ∃ Y, ln zs (p + m) = Y := ⟨_, rfl⟩
   rw [hX] at d1
   rw [hY] at d2
   have EX := hide hX
   have EY := hide hY
   have HQ : Hid (∀ nq, (w.drewN q).drewN nq = w.drewN (q + nq)) := fun nq => World.drewN_drewN _ _ _
   generalize w.drewN q = w1 at c1 d1 d2 HQ ⊢
   clear c0 hX hY HX
   obtain ⟨I, hI⟩ : ∃ I, i + m = I := ⟨_, rfl⟩
   obtain ⟨J, hJ⟩ : ∃ J, p + m = J := ⟨_, rfl⟩
   rw [hI] at d1 EX
   rw [hJ] at d2 EY
   have hI1 : (i : Int) + (m : Int) = (I : Int) := by omega
   have hJ1 : (p : Int) + (m : Int) = (J : Int) := by omega
   have hI2 : (I : Int) < (zs.length : Int) := by omega
   have hJ2 : (J : Int) < (zs.length : Int) := by omega
   have HI := hide hI
   have HJ := hide hJ
   clear hI hJ
   by_cases hXY : X = Y
   ·subst hXY
    go_upto_region 2 with fail
    go_quiet (fail)
    go_wp2_with fail
    go_roundg g1
    case measure => omega
    case rel =>
     refine ⟨m + 1, q + nq, by omega, by go_num, fun x hx => ?_, HQ.out nq⟩
     by_cases e : x = m
     ·subst e; rw [HI.out, HJ.out, EX.out, EY.out]
     ·exact HS.out x (by omega)
   ·have hne : (X == Y) = false := by simpa using hXY
    go_upto_region 2 with fail
    go_quiet (fail)
    go_wp2_with fail
    go_ret
    exact ⟨⟨m, rfl, by omega, HS.out, fun _ => by rw [HI.out, HJ.out, EX.out, EY.out]; exact hXY⟩, q + nq, HQ.out nq⟩
end
end Go.Proofs.YteknifnadbmfiaaGreatDoor.M
