/- The sum of bytes: contracts of bytes, Hash.Sum, New and Sum. -/
import Derived.Test.YtgamfpgejkhbcaaDoorSFinish
namespace Go.Proofs.YtgamfpgejkhbcaaDoor.S
set_option maxRecDepth 100000
open Go Go.RowKit

/-- The state's five words lie in block b. -/
structure StIn (w : World) (b : Nat) (s : St) : Prop where
  c0 : w.cell? ⟨b, 0, none⟩ = some (.int .u32 (s.a : Int))
  c1 : w.cell? ⟨b, 1, none⟩ = some (.int .u32 (s.b : Int))
  c2 : w.cell? ⟨b, 2, none⟩ = some (.int .u32 (s.c : Int))
  c3 : w.cell? ⟨b, 3, none⟩ = some (.int .u32 (s.d : Int))
  c4 : w.cell? ⟨b, 4, none⟩ = some (.int .u32 (s.e : Int))
theorem StIn.get {w : World} {b : Nat} {s : St} (h : StIn w b s) {i : Nat} (hi : i < 5) : w.cell? ⟨b, i, none⟩ = some (.int .u32 (s.get i : Nat)) := by
  match i, hi with
  | 0, _ => exact h.c0
  | 1, _ => exact h.c1
  | 2, _ => exact h.c2
  | 3, _ => exact h.c3
  | 4, _ => exact h.c4
theorem StIn.below {B : Nat} {w w' : World} {b : Nat} {s : St} (h : StIn w b s) (k : Below B w w') (hb : b < B) : StIn w' b s :=
  ⟨(k.cell (p := ⟨b, 0, none⟩) hb).trans h.c0, (k.cell (p := ⟨b, 1, none⟩) hb).trans h.c1, (k.cell (p := ⟨b, 2, none⟩) hb).trans h.c2, (k.cell (p := ⟨b, 3, none⟩) hb).trans h.c3, (k.cell (p := ⟨b, 4, none⟩) hb).trans h.c4⟩
theorem HashIn.st {w : World} {b : Nat} {s : St} {n : Nat} {q : List Nat} (h : HashIn w b s n q) : StIn w b s :=
  ⟨cells_of h 0, cells_of h 1, cells_of h 2, cells_of h 3, cells_of h 4⟩
def oA (s : St) (t : Nat) : Array Value := fA .u8 20 (oB s) t
/-- What stands in memory while the bytes are told. -/
structure OutAt (s : St) (w wx : World) (t : Nat) : Prop where
  r0 : wx.heap[w.heap.size]? = some (.cells (oA s 0) 55 (0, 0))
  r1 : wx.heap[w.heap.size + 1]? = some (.cells (oA s t) 55 (0, 0))
  bel : Below w.heap.size w wx
theorem OutAt.set {s : St} {w wx : World} {t : Nat} (h : OutAt s w wx t) (ht : t < 20) : OutAt s w (wx.setCell ⟨w.heap.size + 1, t, none⟩ (.int .u8 (oB s t : Nat))) (t + 1) := by
  refine ⟨?_, ?_, ?_⟩
  · rw [set_other (by omega)]; exact h.r0
  · rw [set_of h.r1, oA, fA_set .u8 _ ht]; rfl
  · exact h.bel.setCell (by simp) _
theorem OutAt.start (s : St) (w : World) : OutAt s w ((w.alloc (.cells (oA s 0) 55)).alloc (.cells (oA s 0) 55)) 0 :=
  ⟨heap_new1 _ _ _, heap_new2 _ _ _, ((Below.refl _ w).alloc (Nat.le_refl _) _).alloc (by simp) _⟩

set_option maxHeartbeats 4000000 in
theorem bytes_c (b : Nat) (s : St) (w : World) (hs : StIn w b s) (hbw : b < w.heap.size) :
    Calls Tryd.prog 67 #[.pointer (some ⟨b, 0, none⟩)] w fun e w' => e = .returned (.agg (oA s 20)) ∧ Below w.heap.size w w' := by
  have hz : ∀ w, (zeroValue 55).run Tryd.prog w = .ok (.agg (oA s 0)) w := (zero20 _).1
  have HS0 := hide (OutAt.start s w)
  have HI := hide (info20 (oB s) 20)
  have HS := hide hs
  clear hs
  go_enter Tryd.func67, Tryd.ntmps67
  go_wp2_with fail
  go_loopg [5] 20 (fun g s5 wx => ∃ t : Nat, t + g = 20 ∧ s5 = .int .i64 t ∧ Hid (OutAt s w wx t))
  case atStart => exact ⟨0, by omega, rfl, HS0⟩
  case round =>
    obtain ⟨t, htg, rfl, HO⟩ := hrel
    clear HS0
    cases gk with
    | zero =>
      obtain rfl : t = 20 := by omega
      go_wp2_with (first
        | (refine wpList_load_row rfl 55 (.tmp 3) rfl (w.heap.size + 1) (by rfl) (oA s 20) 55 (0, 0) HO.out.r1 _ Tryd.underlying55 rfl HI.out ?_)
        | (refine wpList_store_row rfl 55 (.tmp 2) (.tmp 23) rfl w.heap.size (oA s 20) (by rfl) (by rfl) (oA s 0) 55 HO.out.r0 HI.out (by rw [oA, oA, fA_size, fA_size]) (fA_one _ _ _ _) ?_; intro w2 G2 K2))
      have hld : (loadVar 55 ⟨w.heap.size, 0, none⟩).run Tryd.prog w2 = .ok (.agg (oA s 20)) w2 :=
        run_loadVar_row _ _ 55 55 (oA s 20) (0, 0) _ G2.out Tryd.underlying55 rfl HI.out
      refine bodyPost_ret (v := .agg (oA s 20)) ?_ rfl ⟨rfl, HO.out.bel.trans (K2.out.below HO.out.bel.size (fun i hi e => by omega))⟩
      simp [results, asAddr, hld]
    | succ g =>
      have hlt : (t : Int) < 20 := by omega
      have hn := (cells_of HO.out.r1 t).trans (fA_not .u8 (oB s) (show t < 20 by omega))
      have hf := free_of HO.out.r1 t
      have hset := hide (HO.out.set (show t < 20 by omega))
      have hg := (HS.out.below HO.out.bel hbw).get (show t / 4 < 5 by omega)
      have d1 : (t : Int).tdiv 4 = ((t / 4 : Nat) : Int) := by rw [Int.tdiv_eq_ediv_of_nonneg (by omega)]; omega
      have d2 : (t : Int) / 4 = ((t / 4 : Nat) : Int) := by omega
      have d3 : (t : Int).tmod 4 = ((t % 4 : Nat) : Int) := by rw [Int.tmod_eq_emod_of_nonneg (by omega)]; omega
      have d4 : (t : Int) % 4 = ((t % 4 : Nat) : Int) := by omega
      have hoB : oB s t = s.get (t / 4) / 2 ^ (24 - 8 * (t % 4)) % 256 := rfl
      rw [hoB] at hset
      have hj : t / 4 < 5 := by omega
      have hr : t % 4 < 4 := by omega
      have hv1 : (s.get (t / 4) : Int) / 2 ^ (24 - 8 * (t % 4)) = ((s.get (t / 4) / 2 ^ (24 - 8 * (t % 4)) : Nat) : Int) := by push_cast; rfl
      generalize s.get (t / 4) = G at *
      generalize t / 4 = j at *
      generalize t % 4 = r at *
      have hj' : (j : Int) < 5 := by omega
      have hr' : (r : Int) < 4 := by omega
      clear hoB
      have hset2 : Hid (OutAt s w (wr.setCell ⟨w.heap.size + 1, t, none⟩ (.int .u8 ((G : Int) / 2 ^ (24 - r * 8) % 256))) (t + 1)) := by
        have := hset.out
        rw [Nat.mul_comm 8 r] at this
        push_cast at this
        exact this
      clear hset
      go_wp2_with fail
      go_roundg g
      case measure => omega
      case rel => exact ⟨t + 1, by omega, by go_num, hset2⟩

theorem infoH (s : St) (n : Nat) (q : List Nat) (h : q.length = 64) : (Tryd.prog.info? 97).map (·.size) = some (hA s n q).size := by
  rw [hA_size, h]; kernel_rfl
def zq : List Nat := List.replicate 64 0
theorem zeroH : (∀ w, (zeroValue 97).run Tryd.prog w = .ok (.agg (hA ⟨0, 0, 0, 0, 0⟩ 0 zq)) w) ∧ (Tryd.prog.info? 97).map (·.size) = some 70 := zero_of_info (by kernel_rfl)
set_option maxHeartbeats 4000000 in
theorem hsum_c (bh : Nat) (xs : List Nat) (w : World) (hh : HashAt w bh xs) (hx : xs.length ≤ 1000000000000000) :
    Calls Tryd.prog 63 #[.pointer (some ⟨bh, 0, none⟩)] w fun e w' => e = .returned (.agg (oA (sum xs) 20)) ∧ Below w.heap.size w w' := by
  have hbw := hh.lt
  obtain ⟨q, hI, hW⟩ := hh
  have HI := hide hI
  have HW := hide hW
  have HF := hide (infoH (blks xs (xs.length / 64)) xs.length q hW.len)
  have H20 := hide (info20 (oB (sum xs)) 20)
  have hz : ∀ w, (zeroValue 55).run Tryd.prog w = .ok (.agg (oA (sum xs) 0)) w := (zero20 _).1
  have hzh := zeroH.1
  obtain ⟨hc, hhc⟩ : ∃ hc, hc = hA (blks xs (xs.length / 64)) xs.length q := ⟨_, rfl⟩
  obtain ⟨zc, hzc⟩ : ∃ zc, zc = hA ⟨0, 0, 0, 0, 0⟩ 0 zq := ⟨_, rfl⟩
  have HSZ : Hid (zc.size = hc.size) := by rw [hhc, hzc, hA_size, hA_size, hW.len]; rfl
  have HON : Hid (hc.all (·.oneCell') = true) := by rw [hhc]; exact hA_one _ _ _
  have HC := hide hhc
  rw [← hhc] at HF
  rw [← hzc] at hzh
  clear hI hW hhc hzc
  obtain ⟨oc, hoc⟩ : ∃ oc, oc = oA (sum xs) 20 := ⟨_, rfl⟩
  have HOC := hide hoc
  have HO0 := hide (show (oA (sum xs) 0).size = oc.size by rw [hoc, oA, oA, fA_size, fA_size])
  have HO1 : Hid (oc.all (·.oneCell') = true) := by rw [hoc]; exact fA_one _ _ _ _
  have H20' : Hid ((Tryd.prog.info? 55).map (·.size) = some oc.size) := by rw [hoc]; exact H20
  rw [← hoc]
  obtain ⟨o0, ho0⟩ : ∃ o0, o0 = oA (sum xs) 0 := ⟨_, rfl⟩
  rw [← ho0] at hz HO0
  clear hoc H20 ho0
  go_enter Tryd.func63, Tryd.ntmps63
  go_upto_region 2 with (first
    | (refine wpList_load_row rfl 97 (.tmp 5) rfl bh (by rfl) hc 97 (0, 0) (by rw [HC.out]; exact heap_old HI.out) _ Tryd.underlying97 rfl HF.out ?_)
    | (refine wpList_store_row rfl 97 (.tmp 3) (.tmp 6) rfl (w.heap.size + 1) hc (by rfl) (by rfl) zc 97 (heap_new2 _ _ _) HF.out HSZ.out HON.out ?_; intro w2 G2 K2))
  have B2 : Hid (Below w.heap.size w w2) := (((Below.refl _ w).alloc (Nat.le_refl _) _).alloc (by simp) _).trans (K2.out.below (by simp; omega) (fun i hi e => by omega))
  have O2 : Hid (w2.heap[w.heap.size]? = some (.cells o0 55 (0, 0))) := K2.out.heap (heap_new1 _ _ _) (by omega)
  have HA2 : Hid (HashAt w2 (w.heap.size + 1) xs) := ⟨q, by have := G2.out; rw [HC.out] at this; exact this, HW.out⟩
  clear K2 G2 HC HI HW HF HSZ HON hzh hz
  have HFI := hide (finish_c (w.heap.size + 1) xs w2 HA2.out hx)
  have h2 := lt_of_block' O2.out
  go_upto_region 3 with (go_at_call 66; refine HFI.out.mono ?_; rintro e w4 ⟨rfl, h4, k4⟩; have H4 := hide h4; have K4 := hide k4; clear h4 k4)
  have B4 : Hid (Below w.heap.size w w4) := B2.out.trans (K4.out.below B2.out.size (fun i hi e => by omega))
  have O4 : Hid (w4.heap[w.heap.size]? = some (.cells o0 55 (0, 0))) := K4.out.heap O2.out (by omega)
  have HBY : Hid (Calls Tryd.prog 67 #[.pointer (some ⟨w.heap.size + 1, 0, none⟩)] w4 fun e w' => e = .returned (.agg oc) ∧ Below w4.heap.size w4 w') := by
    obtain ⟨q4, h5, h6⟩ := H4.out
    rw [HOC.out]
    exact bytes_c (w.heap.size + 1) (sum xs) w4 h5.st (lt_of_block h5)
  have h4 := lt_of_block' O4.out
  clear H4 K4 O2 B2 HFI HA2
  go_wp2_with (first
    | (go_at_call 67; refine HBY.out.mono ?_; rintro e w5 ⟨rfl, k5⟩; have K5 := hide k5; clear k5)
    | (refine wpList_store_row rfl 55 (.tmp 2) (.tmp 9) rfl w.heap.size oc (by rfl) (by rfl) o0 55 ((K5.out.block _ h4).trans O4.out) H20'.out HO0.out HO1.out ?_; intro w6 G6 K6))
  have hld : (loadVar 55 ⟨w.heap.size, 0, none⟩).run Tryd.prog w6 = .ok (.agg oc) w6 :=
    run_loadVar_row _ _ 55 55 oc (0, 0) _ G6.out Tryd.underlying55 rfl H20'.out
  have B5 := B4.out.trans (K5.out.mono B4.out.size)
  refine bodyPost_ret (v := .agg oc) ?_ rfl ⟨rfl, B5.trans (K6.out.below B5.size (fun i hi e => by omega))⟩
  simp [results, asAddr, Act.put, hld]

theorem wpList_build {P : Program} {ops : Array Oper} {rest : List Oper} {op : Oper} {a : Act} {w : World} {Q : Exit → Act → World → Prop} (hgd : op.guard = none) (t : TypeId) (parts : Array (Nat × Operand)) (ho : op.op = .build t parts)
    (ps : List (Nat × Value)) (cells : Array Value) (hc : P.built t ps = some cells) (hps : (parts.map fun (i, x) => (i, a.eval x)).toList = ps) (h : wpList P ops Q rest (a.put op.dst (.agg cells)) w) : wpList P ops Q (op :: rest) a w :=
  wpList_plain hgd fun _ hK => by
    unfold Oper.wp execOp
    subst hps
    simp only [ho, Sem.run_bind, run_build w t _ cells hc, Result.andThen_ok]
    exact hK _ _ h
def stA (s : St) : Array Value := #[.int .u32 (s.a : Int), .int .u32 (s.b : Int), .int .u32 (s.c : Int), .int .u32 (s.d : Int), .int .u32 (s.e : Int)]
theorem built_hash : Tryd.prog.built 97 [(0, .agg (stA st0))] = some (hA st0 0 zq) := by kernel_rfl
theorem infoS : (Tryd.prog.info? 94).map (·.size) = some (stA st0).size := by kernel_rfl
theorem first_c (w : World) : Calls Tryd.prog 64 #[] w fun e w' => e = .returned (.agg (stA st0)) ∧ Below w.heap.size w w' := by
  go_enter Tryd.func64, Tryd.ntmps64
  go_wp2
  have hld : (loadVar 94 ⟨w.heap.size, 0, none⟩).run Tryd.prog (w.alloc (.cells (stA st0) 94)) = .ok (.agg (stA st0)) (w.alloc (.cells (stA st0) 94)) :=
    run_loadVar_row _ _ 94 94 (stA st0) (0, 0) _ (heap_new _ _) Tryd.underlying94 rfl infoS
  refine bodyPost_ret (v := .agg (stA st0)) ?_ rfl ⟨rfl, (Below.refl _ w).alloc (Nat.le_refl _) _⟩
  simp [results, asAddr]
  exact hld
/-- What New answers: a hash to which nothing was written, in a block of its own. -/
def NewOk (w : World) (e : Ending) (w' : World) : Prop := ∃ b, e = .returned (.pointer (some ⟨b, 0, none⟩)) ∧ w.heap.size ≤ b ∧ HashAt w' b [] ∧ Below w.heap.size w w'
theorem new_c (w : World) : Calls Tryd.prog 61 #[] w (NewOk w) := by
  have HB := hide built_hash
  have HE : Hid (Wt [] zq) := ⟨rfl, fun x hx => by simp [zq] at hx; omega, rfl⟩
  go_enter Tryd.func61, Tryd.ntmps61
  go_wp2_with (first
    | (go_at_call 64; refine (first_c _).mono ?_; rintro e w1 ⟨rfl, b1⟩)
    | (refine wpList_build rfl 97 _ rfl _ _ HB.out (by simp [Act.eval]) ?_))
  go_ret
  exact ⟨w1.heap.size, rfl, b1.size, ⟨zq, heap_new _ _, HE.out⟩, b1.alloc b1.size _⟩

set_option maxHeartbeats 4000000 in
theorem sum_c (a : Option Addr) (cap : Nat) (ys : List Nat) (w : World) (hy : By ys) (ha : ys.length = 0 ∨ ∃ b off, a = some ⟨b, off, none⟩ ∧ b < w.heap.size ∧ Bs w b off ys) (hcap : ys.length ≤ cap) (hcm : cap ≤ 9223372036854775807) (hl : ys.length ≤ 1000000000000000) :
    Calls Tryd.prog 60 #[.slice a ys.length cap] w fun e w' => e = .returned (.agg (oA (sum ys) 20)) ∧ Below w.heap.size w w' := by
  obtain ⟨oc, hoc⟩ : ∃ oc, oc = oA (sum ys) 20 := ⟨_, rfl⟩
  have HOC := hide hoc
  obtain ⟨o0, ho0⟩ : ∃ o0, o0 = oA (sum ys) 0 := ⟨_, rfl⟩
  have HO0 := hide (show o0.size = oc.size by rw [hoc, ho0, oA, oA, fA_size, fA_size])
  have HO1 : Hid (oc.all (·.oneCell') = true) := by rw [hoc]; exact fA_one _ _ _ _
  have H20 : Hid ((Tryd.prog.info? 55).map (·.size) = some oc.size) := by rw [hoc]; exact info20 _ _
  have hz : ∀ w, (zeroValue 55).run Tryd.prog w = .ok (.agg o0) w := by rw [ho0]; exact (zero20 _).1
  have HA := hide ha
  have HY := hide hy
  rw [← hoc]
  clear hoc ho0 ha hy
  go_enter Tryd.func60, Tryd.ntmps60
  go_upto_region 2 with (go_at_call 61; refine (new_c _).mono ?_; rintro e w1 ⟨bh, rfl, h1, h2, h3⟩; have H2 := hide h2; have B1 := hide h3; clear h2 h3)
  have B1w : Hid (Below w.heap.size w w1) := ((Below.refl _ w).alloc (Nat.le_refl _) _).trans (B1.out.mono (by simp))
  have O1 : Hid (w1.heap[w.heap.size]? = some (.cells o0 55 (0, 0))) := (B1.out.block _ (by simp)).trans (heap_new _ _)
  have hbg : w.heap.size + 1 ≤ bh := by simpa using h1
  have HWR := hide (write_c bh a cap [] ys w1 H2.out HY.out (HA.out.imp_right fun ⟨b, off, e, h, k⟩ => ⟨b, off, e, Nat.lt_of_lt_of_le h B1w.out.size, by omega, k.below B1w.out h⟩) hcap hcm (by simp; omega))
  have hs1 := lt_of_block' O1.out
  clear h1 B1 H2
  go_upto_region 3 with (go_at_call 62; refine HWR.out.mono ?_; rintro e w2 ⟨rfl, h2, k2⟩; have H2 := hide h2; have K2 := hide k2; clear h2 k2)
  have B2 : Hid (Below w.heap.size w w2) := B1w.out.trans (K2.out.below B1w.out.size (fun i hi e => by omega))
  have O2 : Hid (w2.heap[w.heap.size]? = some (.cells o0 55 (0, 0))) := K2.out.heap O1.out (by omega)
  have HS : Hid (Calls Tryd.prog 63 #[.pointer (some ⟨bh, 0, none⟩)] w2 fun e w' => e = .returned (.agg oc) ∧ Below w2.heap.size w2 w') := by
    rw [HOC.out]; exact hsum_c bh ys w2 H2.out hl
  have hs2 := lt_of_block' O2.out
  clear K2 H2 B1w O1 HWR
  go_wp2_with (first
    | (go_at_call 63; refine HS.out.mono ?_; rintro e w5 ⟨rfl, k5⟩; have K5 := hide k5; clear k5)
    | (refine wpList_store_row rfl 55 (.tmp 2) (.tmp 9) rfl w.heap.size oc (by rfl) (by rfl) o0 55 ((K5.out.block _ hs2).trans O2.out) H20.out HO0.out HO1.out ?_; intro w6 G6 K6))
  have hld : (loadVar 55 ⟨w.heap.size, 0, none⟩).run Tryd.prog w6 = .ok (.agg oc) w6 :=
    run_loadVar_row _ _ 55 55 oc (0, 0) _ G6.out Tryd.underlying55 rfl H20.out
  have B5 := B2.out.trans (K5.out.mono B2.out.size)
  refine bodyPost_ret (v := .agg oc) ?_ rfl ⟨rfl, B5.trans (K6.out.below B5.size (fun i hi e => by omega))⟩
  simp [results, asAddr, Act.put, hld]
end Go.Proofs.YtgamfpgejkhbcaaDoor.S
