/- gz: qGbData. -/
import Derived.Test.YteknifnadbmfiaaGreatDoorqG6Bld
import Derived.Lib.Builder
import Derived.Lib.UnsafeStr
import Derived.Lib.AppendStr
import Derived.Laws.Externs
namespace Go.Proofs.YteknifnadbmfiaaGreatDoor
set_option maxRecDepth 100000
open Go Go.RowKit
set_option linter.unusedVariables false

theorem sbInfo : ∃ j, Tryz.prog.info? 52 = some j /\ j.size = 2 := by
 have h : (Tryz.prog.info? 52).map (·.size) = some 2 := by kernel_rfl
 obtain ⟨j, h1, h2⟩ := Option.map_eq_some_iff.1 h
 exact ⟨j, h1, h2⟩
theorem sbLies : liesAt Tryz.prog Tryz.prog.depth 52 (2 / Tryz.prog.cellsOf 52) 0 52 1 = true := by kernel_rfl
set_option maxHeartbeats 1000000 in
theorem copyUsed (b : Nat) (w : World) (h0 : w.cell? ⟨b, 0, none⟩ = some (.pointer (some ⟨b, 0, none⟩))) :
  Calls Tryz.prog 27 #[.pointer (some ⟨b, 0, none⟩)] w fun e w' => e = .returned (.tuple #[]) /\ w' = w := by
 obtain ⟨j, hj, _⟩ := sbInfo
 go_enter Tryz.func27, Tryz.ntmps27
 go_wp2
 rw [Lib.run_neq_ptr_same w _ Tryz.underlying50 hj]
 go_wp2
 go_end0
 exact ⟨rfl, rfl⟩
set_option maxHeartbeats 1000000 in
theorem copyFresh (b : Nat) (w : World) (h0 : w.cell? ⟨b, 0, none⟩ = some (.pointer none)) (hsh : w.shape? b = some (52, 2)) (hfz : w.frozen? ⟨b, 0, none⟩ = false) :
  Calls Tryz.prog 27 #[.pointer (some ⟨b, 0, none⟩)] w fun e w' => e = .returned (.tuple #[]) /\ w' = w.setCell ⟨b, 0, none⟩ (.pointer (some ⟨b, 0, none⟩)) := by
 obtain ⟨j, hj, hjs⟩ := sbInfo
 go_enter Tryz.func27, Tryz.ntmps27
 go_wp2
 rw [Lib.run_to_unsafe w ⟨b, 0, none⟩ Tryz.underlying50 Tryz.underlying90 hj (by rw [hjs]; decide) hsh (Nat.zero_lt_succ 1)]
 simp only [Result.andThen]
 rw [Oper.upon_value]
 go_wp2
 rw [run_callFunc_extern Tryz.func43 (by kernel_rfl) (by kernel_rfl) (by kernel_rfl) (e := Extern.AbiNoEscape.same) (by kernel_rfl), Lib.run_noEscape]
 simp only [Result.andThen]
 rw [Oper.upon_value]
 go_wp2
 rw [Lib.run_from_unsafe w ⟨b, 0, none⟩ Tryz.underlying90 Tryz.underlying50 hj hsh sbLies]
 simp only [Result.andThen]
 rw [Oper.upon_value]
 go_wp2
 go_end0
 exact ⟨rfl, rfl⟩
theorem copy_c (B b : Nat) (bs : List Value) (w : World) (h : Lib.IsBuilder 52 5 B b bs w) :
  Calls Tryz.prog 27 #[.pointer (some ⟨b, 0, none⟩)] w fun e w' => e = .returned (.tuple #[]) /\ (Lib.BuilderAt 52 5 B b (.pointer (some ⟨b, 0, none⟩)) bs w' /\ Below B w w') := by
 rcases h with h | h
 ·refine (copyFresh b w h.cell0 h.shape h.frozen0).mono ?_
  rintro e w' ⟨rfl, rfl⟩
  exact ⟨rfl, h.used _, (Below.refl B w).setCell (p := ⟨b, 0, none⟩) h.1 _⟩
 ·refine (copyUsed b w h.cell0).mono ?_
  rintro e w' ⟨rfl, rfl⟩
  exact ⟨rfl, h, Below.refl B _⟩
theorem slice_of {w : World} {base : Nat} {e : TypeId} {size : Nat} {v : Value} {n : Nat} {xs : List Value} (h : w.ownsRow base e size v n xs) : ∃ a n' cap, v = .slice a n' cap := by
 rcases h.2 with ⟨hv, _⟩ | ⟨g, cap, cur, hv, _⟩
 ·exact ⟨_, _, _, hv⟩
 ·exact ⟨_, _, _, hv⟩
theorem sb_ne : (52 : TypeId) ≠ 5 := by decide
set_option maxHeartbeats 2000000 in
theorem writeString_c (B b : Nat) (bs : List Value) (s : ByteArray) (w : World) (h : Lib.IsBuilder 52 5 B b bs w) (hlen : bs.length + s.size <= 140737488355328) (hBw : B <= w.heap.size) :
  Calls Tryz.prog 14 #[.pointer (some ⟨b, 0, none⟩), .string s] w fun e w' => e = .returned (.tuple #[.int .i64 s.size, .nilIface]) /\ (Lib.BuilderAt 52 5 B b (.pointer (some ⟨b, 0, none⟩)) (bs ++ Lib.strCells s) w' /\ Below B w w') := by
 obtain ⟨i5, hi5, hz5, hs5, hb5⟩ := info_parts Tryz.info5
 have HC := hide (copy_c B b bs w h)
 clear h
 go_enter Tryz.func14, Tryz.ntmps14
 go_upto_region 2 with (go_at_call 27; refine HC.out.mono ?_; rintro e w1 ⟨rfl, h1, hb1⟩; have Q1 := hide h1; have HB1 := hide hb1; clear h1 hb1 HC)
 obtain ⟨hB, v, hbk, hown, hne⟩ := Q1.out
 have c1 : w1.cell? ⟨b, 1, none⟩ = some v := by rw [Lib.cell_of_heap hbk]; rfl
 have hlt := lt_of_block hbk
 have hsz := HB1.out.size
 have HOWN := hide hown
 have HBK := hide hbk
 have HNE := hide hne
 clear hown hbk hne Q1
 go_wp2_with (at_builtin; refine Lib.wpList_append_own_string _ rfl (.tmp 12) (.tmp 13) 24 9 rfl B 5 i5 Tryz.underlying24 Tryz.underlying9 hi5 hz5 hs5 hb5 v bs.length bs (by rfl) HOWN.out s (by rfl) (by unfold maxLen; omega) (by omega) (by omega) ?_; intro v' w2 hown' hgrow _; obtain ⟨a2, n2, cp2, hv2⟩ := slice_of hown'; subst hv2; have hb2 := (Kept.of_grown hgrow).heap HBK.out (fun e => HNE.out e.symm); have d1 := Lib.cell_of_heap hb2 1; have f1 := Lib.frozen_of_heap hb2 1; have HO2 := hide hown'; have HG2 := hide hgrow; have HB2 := hide hb2; clear hown' hgrow hb2; simp at d1)
 go_ret2
 refine ⟨rfl, Lib.BuilderAt.put (T := 52) (e := 5) hB HB2.out (bs' := bs ++ Lib.strCells s) (by simpa [Lib.strCells_length] using HO2.out) sb_ne, ?_⟩
 exact (HB1.out.grown HG2.out (by omega) (fun k hk => (HOWN.out.lt k hk).1)).setCell (p := ⟨b, 1, none⟩) hB _
set_option maxHeartbeats 2000000 in
theorem string_c (B b : Nat) (l : List UInt8) (w : World) (h : Lib.IsBuilder 52 5 B b (Lib.byteCells l) w) (h0 : l ≠ []) :
  Calls Tryz.prog 15 #[.pointer (some ⟨b, 0, none⟩)] w fun e w' => e = .returned (.string ⟨l.toArray⟩) /\ Below B w w' := by
 obtain ⟨p, hB, v, hbk, hown, hne⟩ : ∃ p, Lib.BuilderAt 52 5 B b p (Lib.byteCells l) w := by
  rcases h with h | h
  ·exact ⟨_, h⟩
  ·exact ⟨_, h⟩
 have hl0 : l.length ≠ 0 := by simpa using h0
 rw [Lib.byteCells_length] at hown
 obtain ⟨g, cap, cur, rfl, hbg, hg, hnc, hcm, hcs, htake⟩ : ∃ g cap cur, v = .slice (some ⟨g, 0, none⟩) l.length cap /\ B <= g /\ w.heap[g]? = some (.cells cur 5 (0, 0)) /\ l.length <= cap /\ cap <= maxLen /\ cur.size = cap * 1 /\ cur.toList.take (l.length * 1) = Lib.byteCells l := by
  rcases hown.2 with ⟨_, hz⟩ | ⟨g, cap, cur, hv, r⟩
  ·exact absurd hz hl0
  ·exact ⟨g, cap, cur, hv, r⟩
 have c1 : w.drew.cell? ⟨b, 1, none⟩ = some (.slice (some ⟨g, 0, none⟩) l.length cap) := by
  have : w.drew.heap[b]? = some (.cells #[p, .slice (some ⟨g, 0, none⟩) l.length cap] 52 (0, 0)) := hbk
  rw [Lib.cell_of_heap this]; rfl
 have hSD : (Builtin.unsafeSliceData_ #[24] 72 #[.slice (some ⟨g, 0, none⟩) l.length cap]).run Tryz.prog w.drew = .ok (.pointer (some ⟨g, 0, none⟩)) w.drew := Lib.run_unsafeSliceData_row _ _ _ _ _ _ (by omega)
 have hUS : (Builtin.unsafeString_ #[72, 3] 9 #[.pointer (some ⟨g, 0, none⟩), .int .i64 l.length]).run Tryz.prog w.drew = .ok (.string ⟨l.toArray⟩) (w.drew.freeze ⟨g, 0, none⟩ l.length) := by
  refine Lib.run_unsafeString_row w.drew 72 3 9 5 Tryz.underlying72 (by kernel_rfl) g cur.size (by have hg' : w.drew.heap[g]? = some (.cells cur 5 (0, 0)) := hg; simp [World.shape?, hg']) l h0 (by omega) (by unfold maxLen at hcm; omega) ?_
  intro j x hx
  have := hown.cells (g := g) rfl j (.int .u8 x.toNat) (by simp [Lib.byteCells, hx])
  exact this
 clear h hown hne hg htake hcs
 go_enter Tryz.func15, Tryz.ntmps15
 go_wp2
 go_region
 all_goals (go_wp2; go_ret; exact ⟨rfl, Lib.below_freeze (Below.drew (Below.refl B w)) (p := ⟨g, 0, none⟩) hbg _⟩)
def dat (ms : List Mb) : List UInt8 := ms.flatMap fun m => m.data.data.toList
theorem dat_take {ms : List Mb} {i : Nat} (h : i < ms.length) : dat (ms.take (i + 1)) = dat (ms.take i) ++ (ms[i]).data.data.toList := by
 unfold dat
 rw [List.take_add_one, List.getElem?_eq_getElem h, List.flatMap_append]
 simp
theorem mbL_at : ∀ (ms : List Mb) (i k : Nat) (h : i < ms.length), k < 6 -> (mbL ms)[i * 6 + k]? = (ms[i]).cells[k]?
 | m :: ms, 0, k, _, hk => by
  show (m.cells.toList ++ mbL ms)[0 * 6 + k]? = _
  rw [Nat.zero_mul, Nat.zero_add, List.getElem?_append_left (by simpa [Mb.cells] using hk)]
  simp
 | m :: ms, i + 1, k, h, hk => by
  show (m.cells.toList ++ mbL ms)[(i + 1) * 6 + k]? = _
  rw [List.getElem?_append_right (by simp [Mb.cells]; omega)]
  have := mbL_at ms i k (by simpa using h) hk
  rw [show (i + 1) * 6 + k - m.cells.toList.length = i * 6 + k by simp [Mb.cells]; omega, this]
  rfl
theorem mbL_length (ms : List Mb) : (mbL ms).length = ms.length * 6 := by
 induction ms with
 | nil => rfl
 | cons m ms ih => show (m.cells.toList ++ mbL ms).length = _; rw [List.length_append, ih]; simp [Mb.cells]; omega
theorem OwnsMb.at {w : World} {base : Nat} {v : Value} {ms : List Mb} (h : OwnsMb w base v ms) {i : Nat} (hi : i < ms.length) : ∃ g cap, v = .slice (some ⟨g, 0, none⟩) ms.length cap /\ g < w.heap.size /\ base <= g /\ ∀ k, k < 6 -> w.cell? ⟨g, i * 6 + k, none⟩ = (ms[i]).cells[k]? := by
 rcases h.2 with ⟨rfl, h0⟩ | ⟨g, cap, cur, rfl, hg, hh, hc, hm, hs, ht⟩
 ·omega
 ·refine ⟨g, cap, rfl, lt_of_block hh, hg, fun k hk => ?_⟩
  rw [cells_of hh, <- mbL_at ms i k hi hk, <- ht, List.getElem?_take_of_lt (by omega), Array.getElem?_toList]
theorem strCells_dat (m : Mb) (l : List UInt8) : Lib.byteCells l ++ Lib.strCells m.data = Lib.byteCells (l ++ m.data.data.toList) := by simp [Lib.byteCells, Lib.strCells]
set_option maxHeartbeats 4000000 in
theorem gdata_c (w : World) (base : Nat) (v : Value) (ms : List Mb) (h : OwnsMb w base v ms) (h0 : dat ms ≠ []) (hl : (dat ms).length <= 1000000000) (hn : ms.length <= 1000000000) :
  Calls Tryz.prog 8 #[v] w fun e w' => e = .returned (.string ⟨(dat ms).toArray⟩) /\ Below w.heap.size w w' := by
 obtain ⟨a, cap, rfl, hcap, hnil⟩ := h.form
 have HI0 : Hid (Lib.IsBuilder 52 5 w.heap.size w.heap.size (Lib.byteCells []) (w.alloc (.cells #[.pointer none, .slice none 0 0] 52))) := .inl ⟨Nat.le_refl _, _, heap_new w _, World.ownsRow_nil _ _ _ _, by simp [Value.ownBlock]⟩
 have HB0 := hide ((Below.refl w.heap.size w).alloc (Nat.le_refl _) (.cells #[.pointer none, .slice none 0 0] 52))
 have HO := hide h
 have HN0 := hide h0
 have HLL : Hid (∀ i, (dat (ms.take i)).length <= (dat ms).length) := fun i => by
  have : dat ms = dat (ms.take i) ++ dat (ms.drop i) := by unfold dat; rw [<- List.flatMap_append, List.take_append_drop]
  rw [this, List.length_append]; omega
 clear h h0 hnil
 obtain ⟨NM, hNM⟩ : ∃ n, ms.length = n := ⟨_, rfl⟩
 rw [hNM] at HO hn ⊢
 have HNM := hide hNM
 clear hNM
 obtain ⟨b, hb⟩ : ∃ b, b = w.heap.size := ⟨_, rfl⟩
 go_enter Tryz.func8, Tryz.ntmps8
 go_upto_region 2 with fail
 obtain ⟨W0, hW0⟩ : ∃ W0, W0 = w.alloc (.cells #[.pointer none, .slice none 0 0] 52) := ⟨_, rfl⟩
 rw [<- hW0] at HI0 HB0 ⊢
 rw [<- hb] at HI0 HB0 ⊢
 have HBE := hide hb
 clear hW0 hb
 go_wp2_with fail
 go_loopg [8] NM (fun gk v8 wx => ∃ i : Nat, i + gk = NM /\ v8 = .int .i64 i /\ Hid (Lib.IsBuilder 52 5 b b (Lib.byteCells (dat (ms.take i))) wx) /\ Hid (Below b w wx))
 case atStart => exact ⟨0, by omega, rfl, HI0.out, HB0.out⟩
 case round =>
  obtain ⟨i, hig, rfl, HI, HB⟩ := hrel
  clear HI0 HB0
  cases gk with
  | zero =>
   obtain rfl : i = NM := by omega
   have hfull : ms.take i = ms := List.take_of_length_le (by have := HNM.out; omega)
   rw [hfull] at HI
   have HS := hide (string_c b b (dat ms) wr HI.out HN0.out)
   clear hfull
   go_wp2_with (go_at_call 15; refine HS.out.mono ?_; rintro e w2 ⟨rfl, b2⟩; have B2 := hide (HB.out.trans b2); clear b2 HS)
   go_ret
   exact ⟨rfl, by rw [<- HBE.out]; exact B2.out⟩
  | succ g1 =>
   have hi : i < ms.length := by have := HNM.out; omega
   obtain ⟨g, cap', hv, hg, _, hcl⟩ := OwnsMb.at (by have := HO.out; rwa [<- HNM.out] at this) hi
   simp only [Value.slice.injEq] at hv
   obtain ⟨rfl, _, rfl⟩ := hv
   obtain ⟨m, hm⟩ : ∃ m, m = ms[i] := ⟨_, rfl⟩
   rw [<- hm] at hcl
   have hcx : ∀ k, k < 6 -> wr.cell? ⟨g, i * 6 + k, none⟩ = m.cells[k]? := fun k hk => by
    rw [<- hcl k hk]
    exact (Kept.of_below HB.out).cell (p := ⟨g, i * 6 + k, none⟩) hg (by show ¬ b <= g; have := HBE.out; omega)
   have c0 := hcx 0 (by decide)
   have c1 := hcx 1 (by decide)
   have c2 := hcx 2 (by decide)
   have c3 := hcx 3 (by decide)
   have c4 := hcx 4 (by decide)
   have c5 := hcx 5 (by decide)
   simp only [Mb.cells] at c0 c1 c2 c3 c4 c5
   have hdt : dat (ms.take (i + 1)) = dat (ms.take i) ++ m.data.data.toList := by rw [dat_take hi, hm]
   have HWS : Hid (∀ W, Below b wr W -> Lib.IsBuilder 52 5 b b (Lib.byteCells (dat (ms.take i))) W -> Calls Tryz.prog 14 #[.pointer (some ⟨b, 0, none⟩), .string m.data] W fun e w' => e = .returned (.tuple #[.int .i64 m.data.size, .nilIface]) /\ Lib.IsBuilder 52 5 b b (Lib.byteCells (dat (ms.take (i + 1)))) w' /\ Below b w w') := fun W bW hI => by
    have hlen : (Lib.byteCells (dat (ms.take i))).length + m.data.size <= 140737488355328 := by
     have e1 : (Lib.byteCells (dat (ms.take i))).length = (dat (ms.take i)).length := Lib.byteCells_length _
     have e2 : m.data.data.toList.length = m.data.size := Array.length_toList
     have h1 := HLL.out (i + 1)
     rw [hdt, List.length_append, e2] at h1
     rw [e1]
     exact Nat.le_trans h1 (Nat.le_trans hl (by decide))
    refine (writeString_c b b _ m.data W hI hlen (by have := bW.size; have := HB.out.size; have := HBE.out; omega)).mono ?_
    rintro e w' ⟨rfl, h1, h2⟩
    refine ⟨rfl, .inr ?_, HB.out.trans (bW.trans h2)⟩
    rw [hdt, <- strCells_dat]
    exact h1
   have HIS : Hid (∀ o : Obj, Lib.IsBuilder 52 5 b b (Lib.byteCells (dat (ms.take i))) (wr.alloc o)) := fun o => by
    have kk : Kept (fun _ => False) wr (wr.alloc o) := Kept.alloc _ (Kept.refl _ wr) o
    rcases HI.out with ⟨h1, vv, h2, h3, h4⟩ | ⟨h1, vv, h2, h3, h4⟩
    ·exact .inl ⟨h1, vv, kk.heap h2 (fun e => e), ownsRow_kept h3 kk (fun _ _ e => e), h4⟩
    ·exact .inr ⟨h1, vv, kk.heap h2 (fun e => e), ownsRow_kept h3 kk (fun _ _ e => e), h4⟩
   have hsz : b <= wr.heap.size := by have := HB.out.size; have := HBE.out; omega
   have hin : (i : Int) < (NM : Int) := by omega
   clear hcx hcl hm hdt HI hi
   simp only [Nat.add_zero] at c0
   have d5 : (wr.alloc (.cells m.cells 27)).cell? ⟨wr.heap.size, 5, none⟩ = some (.string m.data) := (cells_of (heap_new wr (.cells m.cells 27)) 5).trans rfl
   have HW1 := hide (HWS.out (wr.alloc (.cells m.cells 27)) ((Below.refl b wr).alloc hsz _) (HIS.out _))
   clear HWS HIS hsz
   go_wp2_with (first
    | (refine C.wpList_store_row rfl 27 (.tmp 5) (.tmp 11) rfl wr.heap.size m.cells (by rfl) (by rfl) mb0.cells 27 (heap_new wr _) sizeM rfl (Mb.one m) (wr.alloc (.cells m.cells 27)) (World.setRow_alloc_new _ _ _ _) ?_)
    | (go_at_call 14; refine HW1.out.mono ?_; rintro e w2 ⟨rfl, i2, b2⟩; have I2 := hide i2; have B2 := hide b2; clear i2 b2 HW1))
   go_roundg g1
   case measure => omega
   case rel => exact ⟨i + 1, by omega, by go_num, I2.out, B2.out⟩
end Go.Proofs.YteknifnadbmfiaaGreatDoor
