/- The program's Sort: its closure, what its swaps do, contract. -/
import Derived.Test.YtlfffpgokemjbaaSStb
import Derived.Test.YtlfffpgokemjbaaSPth
import Derived.Test.YtlfffpgokemjbaaVCop
import Derived.Lib.ReflectliteSwap
import Derived.Laws.Externs
namespace Go.Proofs.Ytlfffpgokemjbaa.U
set_option maxRecDepth 100000
open Go Go.RowKit
open Go.Proofs.Ytlfffpgokemjbaa.O
set_option linter.unusedVariables false
theorem wp_region_drew {P : Program} {id : Nat} {Q : Exit → Act → World → Prop} {a : Act} {w : World} {l : List Oper} (hm : P.follows .mixedOrders = true) (hB : Region.lexB .any l.toArray = true)
    (h : WQ P l.toArray (fun w' => ∃ n : Nat, w' = w.drewN n) (fun a' => ∀ w', (∃ n : Nat, w' = w.drewN n) → Q .normal a' w') l a) : (Code.region id l.toArray true).wp P Q a w :=
  wp_region_quiet (C := fun w' => ∃ n : Nat, w' = w.drewN n) hm hB ⟨1, rfl⟩ (by simpa using h.out)
theorem lss_c (t : TypeId) (a b : ByteArray) : binOp .lss t (.string a) (.string b) = pure (.bool (Op.bytesLess a.toList b.toList)) := by simp [binOp, Op.stringOp]
set_option maxHeartbeats 4000000 in
set_option maxRecDepth 100000 in
theorem sort1_c (B g n : Nat) (ms : List En) (i j : Nat) (mi mj : En) (w : World) (hB : w.cell? ⟨B, 0, none⟩ = some (.slice (some ⟨g, 0, none⟩) n n)) (hE : Er g ms w) (hi : ms[i]? = some mi) (hj : ms[j]? = some mj) (hn : ms.length = n) (hl : n ≤ 1000000000) :
    Calls Try.prog 30 #[.int .i64 i, .int .i64 j, .pointer (some ⟨B, 0, none⟩)] w fun e w' => e = .returned (.bool (gtB mj.path mi.path)) ∧ ∃ q, w' = w.drewN q := by
  have ci : w.cell? ⟨g, i * 6 + 1, none⟩ = some (.string mi.path) := hE.cell hi (j := 1) rfl
  have cj : w.cell? ⟨g, j * 6 + 1, none⟩ = some (.string mj.path) := hE.cell hj (j := 1) rfl
  have hi1 := (List.getElem?_eq_some_iff.1 hi).1
  have hj1 := (List.getElem?_eq_some_iff.1 hj).1
  have hi2 : (i : Int) < (n : Int) := by omega
  have hj2 : (j : Int) < (n : Int) := by omega
  have hlI : (n : Int) ≤ 1000000000 := by omega
  obtain ⟨b, hb⟩ : ∃ b, gtB mj.path mi.path = b := ⟨_, rfl⟩
  have hb2 : Op.bytesLess mi.path.toList mj.path.toList = b := by
    rw [← hb]
    have := gt_iff (a := mj.path) (b := mi.path)
    cases h : gtB mj.path mi.path <;> cases h2 : Op.bytesLess mi.path.toList mj.path.toList <;> simp_all
  have hls := lss_c 9 mi.path mj.path
  rw [hb2] at hls
  rw [hb]
  clear hb hb2 hE hi hj hn hl hi1 hj1
  generalize mi.path = pi at *
  generalize mj.path = pj at *
  go_enter Try.func30, Try.ntmps30
  go_upto_region 1 with fail
  refine wp_region_drew (by kernel_rfl) (by kernel_rfl) ?_
  repeat (refine WQ.step (fun K hK => ?_); go_simp; first | (refine hK _ ?_; clear hK K))
  refine WQ.nil ?_
  rintro w3 ⟨q, rfl⟩
  go_wp2_with fail
  go_ret
  exact ⟨rfl, q, rfl⟩
end Go.Proofs.Ytlfffpgokemjbaa.U
namespace Go.Proofs.Ytlfffpgokemjbaa.U
open Go Go.RowKit Go.Lib
open Go.Proofs.Ytlfffpgokemjbaa.O
set_option linter.unusedVariables false
/-- The row d of the places of es, laid in block g, and the slice that leads there, in block B. -/
def Rw (es : List En) (g B n : Nat) (d : List Int) (w : World) : Prop := d.Perm (idx n) ∧ Er g (pm es d) w ∧ w.heap[B]? = some (.cells #[.slice (some ⟨g, 0, none⟩) n n] 22 (0, 0))
noncomputable def iEnts : TypeInfo := (Try.prog.info? 22).get (by kernel_rfl)
noncomputable def iEnt : TypeInfo := (Try.prog.info? 30).get (by kernel_rfl)
theorem iEnt_size : iEnt.size = 6 := by kernel_rfl
theorem iEnt_nine (n : Nat) (h2 : 2 ≤ n) : Lib.swapperK n iEnt 25 = 9 := by
  have a : iEnt.hasPointers = true := by kernel_rfl
  have b : (iEnt.bytes == 8) = false := by kernel_rfl
  have c : (n == 0) = false := by simp; omega
  have d : (n == 1) = false := by simp; omega
  simp [Lib.swapperK, a, b, c, d]
theorem Rw.swap {es : List En} {g B n : Nat} (hgB : B ≠ g) (hl : n ≤ 1000000000) (hn : n = es.length) {d : List Int} {w : World} (h : Rw es g B n d w) (i j : Nat) (hi : i < n) (hj : j < n) :
    ∃ w', (callFunc 68 (#[.int .i64 i, .int .i64 j] ++ #[.slice (some ⟨g, 0, none⟩) n n, typeHandle Try.prog 30])).run Try.prog w = .ok (.value (.tuple #[])) w' ∧ Rw es g B n (swp d i j) w' ∧ Kept (fun i => i = g) w w' := by
  have hd : d.length = n := by rw [h.1.length_eq, idx_len]
  have pi := pm_at (es := es) (d := d) (i := i) (by omega)
  have pj := pm_at (es := es) (d := d) (i := j) (by omega)
  have hpl : (pm es d).length = n := by simp [pm, hd]
  have e := run_swap_cells (P := Try.prog) false 30 iEnt (by kernel_rfl) (fun _ => by kernel_rfl) g 0 n n i j hi hj (pk es (ln d i)).cells.toList (pk es (ln d j)).cells.toList (by rw [iEnt_size]; rfl) (by rw [iEnt_size]; rfl)
    (by intro u hu; simp [En.cells] at hu; rcases hu with rfl | rfl | rfl | rfl | rfl | rfl <;> rfl) (by intro u hu; simp [En.cells] at hu; rcases hu with rfl | rfl | rfl | rfl | rfl | rfl <;> rfl) w
    (fun k v hv => by rw [iEnt_size, Nat.zero_add]; exact h.2.1.cell pi (by rwa [Array.getElem?_toList] at hv)) (fun k v hv => by rw [iEnt_size, Nat.zero_add]; exact h.2.1.cell pj (by rwa [Array.getElem?_toList] at hv))
    (fun k _ => h.2.1.free _) (fun k _ => h.2.1.free _)
  rw [iEnt_size, Nat.zero_add, Nat.zero_add] at e
  obtain ⟨r1, k1⟩ := h.2.1.put (i := i) (by omega) (pk es (ln d j))
  obtain ⟨r2, k2⟩ := r1.put (i := j) (by simp [hpl]; omega) (pk es (ln d i))
  refine ⟨_, ?_, ⟨?_, ?_, ?_⟩, k1.trans k2 (fun _ _ h => h)⟩
  · rw [run_callFunc_extern (e := Extern.ReflectliteSwapper.swap false) Try.func68 (by kernel_rfl) (by kernel_rfl) (by kernel_rfl) (by kernel_rfl),
      show (#[Value.int .i64 (i : Int), Value.int .i64 (j : Int)] ++ #[Value.slice (some ⟨g, 0, none⟩) n n, typeHandle Try.prog 30]) = #[.int .i64 i, .int .i64 j, .slice (some ⟨g, 0, none⟩) n n, typeHandle Try.prog 30] from rfl, e]
    rfl
  · exact (swp_perm (by omega) (by omega)).trans h.1
  · rw [pm_swp]; exact r2
  · exact (k1.trans k2 (fun _ _ h => h)).heap h.2.2 (by exact hgB)
theorem Rw.less {es : List En} {g B n : Nat} (hl : n ≤ 1000000000) (hn : n = es.length) {d : List Int} {w : World} (h : Rw es g B n d w) (i j : Nat) (hi : i < n) (hj : j < n) :
    Calls Try.prog 30 (#[.int .i64 i, .int .i64 j] ++ #[.pointer (some ⟨B, 0, none⟩)]) w fun e w' => e = .returned (.bool (decide (rk es (ln d i) < rk es (ln d j)))) ∧ ∃ q, w' = w.drewN q := by
  have hd : d.length = n := by rw [h.1.length_eq, idx_len]
  have pi := pm_at (es := es) (d := d) (i := i) (by omega)
  have pj := pm_at (es := es) (d := d) (i := j) (by omega)
  have hpl : (pm es d).length = n := by simp [pm, hd]
  have hm : ln d i ∈ d := by rw [ln_in (by omega)]; exact List.getElem_mem _
  have hr := idx_mem.1 (h.1.mem_iff.1 hm)
  have e : decide (rk es (ln d i) < rk es (ln d j)) = gtB (pk es (ln d j)).path (pk es (ln d i)).path := by
    rw [Bool.eq_iff_iff, decide_eq_true_iff]
    exact rk_lt hr.1 (by rw [← hn]; exact hr.2)
  rw [e]
  exact sort1_c B g n (pm es d) i j _ _ w (by rw [cells_of h.2.2]; rfl) h.2.1 pi pj hpl hl
theorem ls_any {es : List En} {g B n : Nat} (hgB : B ≠ g) (hl : n ≤ 1000000000) (hn : n = es.length) (sf : Nat) (sb : Array Value)
    (hs : n ≤ 1 ∨ (sf = 68 ∧ sb = #[.slice (some ⟨g, 0, none⟩) n n, typeHandle Try.prog 30])) : LS 30 #[.pointer (some ⟨B, 0, none⟩)] sf sb g n (rk es) (Rw es g B n) where
  eg := fun args w => enters_of Try.func30 (by kernel_rfl) rfl args w
  drew := fun q h => ⟨h.1, h.2.1, h.2.2⟩
  alloc := fun o h => ⟨h.1, by have := h.2.1; unfold Er at *; rw [Below.heap_alloc _ _ _ (lt_of_block this)]; exact this, by rw [Below.heap_alloc _ _ _ (lt_of_block h.2.2)]; exact h.2.2⟩
  len := fun h => by rw [h.1.length_eq, idx_len]
  lt := fun h => h.2.1.lt
  less := fun i j h hi hj => h.less hl hn i j hi hj
  swap := fun i j h hi hj hij => by
    rcases hs with h1 | ⟨rfl, rfl⟩
    · omega
    · exact h.swap hgB hl hn i j hi hj
end Go.Proofs.Ytlfffpgokemjbaa.U
namespace Go.Proofs.Ytlfffpgokemjbaa.U
open Go Go.RowKit Go.Lib
open Go.Proofs.Ytlfffpgokemjbaa.O
set_option linter.unusedVariables false
/-- What the library's swaps are, by the length. -/
theorem swapper_c (g n : Nat) : ∃ (sf : Nat) (sb : Array Value), (n ≤ 1 ∨ (sf = 68 ∧ sb = #[.slice (some ⟨g, 0, none⟩) n n, typeHandle Try.prog 30])) ∧
    ∀ w, (callFunc 46 #[.iface 22 (.slice (some ⟨g, 0, none⟩) n n)]).run Try.prog w = .ok (.value (.func (.func sf) #[] sb)) w := by
  have hx : ∀ w, (callFunc 46 #[.iface 22 (.slice (some ⟨g, 0, none⟩) n n)]).run Try.prog w = ((Extern.ReflectliteSwapper.swapper "internal/reflectlite" (Extern.ReflectliteValue.valueError "Swapper") #[.iface 22 (.slice (some ⟨g, 0, none⟩) n n)]).run Try.prog w).andThen fun v w' => .ok (.value v) w' := fun w =>
    run_callFunc_extern (e := Extern.ReflectliteSwapper.swapper "internal/reflectlite" (Extern.ReflectliteValue.valueError "Swapper")) Try.func46 (by kernel_rfl) (by kernel_rfl) (by kernel_rfl) (by kernel_rfl) _ w
  have hk : ∀ f, Try.prog.funcs.findIdx? (·.name == "internal/reflectlite" ++ ".Swapper$" ++ toString (swapperK n iEnt 25)) = some f → ∀ w, (callFunc 46 #[.iface 22 (.slice (some ⟨g, 0, none⟩) n n)]).run Try.prog w = .ok (.value (.func (.func f) #[] (if swapperK n iEnt 25 ≤ 2 then #[] else #[.slice (some ⟨g, 0, none⟩) n n, typeHandle Try.prog 30]))) w := fun f hf w => by
    rw [hx, run_swapper_slice (P := Try.prog) 22 30 iEnts iEnt (by kernel_rfl) (by kernel_rfl) (by kernel_rfl) 25 (fun _ => by kernel_rfl) (some ⟨g, 0, none⟩) n n f hf w]
    rfl
  rcases Nat.lt_trichotomy n 1 with h | h | h
  · obtain rfl : n = 0 := by omega
    exact ⟨60, _, .inl (by omega), hk 60 (by kernel_rfl)⟩
  · subst h
    exact ⟨61, _, .inl (by omega), hk 61 (by kernel_rfl)⟩
  · have e := iEnt_nine n (by omega)
    refine ⟨68, _, .inr ⟨rfl, rfl⟩, fun w => ?_⟩
    rw [hk 68 (by rw [e]; kernel_rfl) w, if_neg (by rw [e]; decide)]
/-- What the sort makes of the row. -/
def SsOk (es : List En) (g B n : Nat) (w w' : World) : Prop := ∃ d, Rw es g B n d w' ∧ pm es d = srt es ∧ Kept (fun i => i = g) w w'
theorem valueOf_c (p : Option Addr) (n c : Nat) (w : World) : (callFunc 45 #[.iface 22 (.slice p n c)]).run Try.prog w = .ok (.value (.agg #[.pointer (some ⟨Try.prog.globals.size, 22, none⟩), .pointer (some ⟨w.heap.size, 0, none⟩), .int .u64 151])) (w.alloc (.cells #[.slice p n c] 22)) := by
  rw [run_callFunc_extern (e := fun args => Extern.ReflectliteValue.unpack (args.getD 0 (.tuple #[]))) Try.func45 (by kernel_rfl) (by kernel_rfl) (by kernel_rfl) (by kernel_rfl) _ w,
    show Sem.run Try.prog ((fun args : Array Value => Extern.ReflectliteValue.unpack (args.getD 0 (.tuple #[]))) #[.iface 22 (.slice p n c)]) w = _ from run_valueOf_slice (P := Try.prog) 22 30 iEnts (by kernel_rfl) (by kernel_rfl) p n c w]
  rfl
theorem valueLen_c (p : Option Addr) (n c b : Nat) (w : World) (h : w.cell? ⟨b, 0, none⟩ = some (.slice p n c)) : (callFunc 48 #[.agg #[.pointer (some ⟨Try.prog.globals.size, 22, none⟩), .pointer (some ⟨b, 0, none⟩), .int .u64 151]]).run Try.prog w = .ok (.value (.int .i64 n)) w := by
  have e := run_valueLen_slice (P := Try.prog) 22 30 iEnts (by kernel_rfl) (by kernel_rfl) (by kernel_rfl) ⟨b, 0, none⟩ p n c w h
  rw [run_callFunc_extern (e := Extern.ReflectliteValue.method (Extern.ReflectliteValue.valueError "reflectlite.Value.Len" 0) Extern.ReflectliteValue.len) Try.func48 (by kernel_rfl) (by kernel_rfl) (by kernel_rfl) (by kernel_rfl) _ w,
    show Sem.run Try.prog (Extern.ReflectliteValue.method (Extern.ReflectliteValue.valueError "reflectlite.Value.Len" 0) Extern.ReflectliteValue.len #[.agg #[.pointer (some ⟨Try.prog.globals.size, 22, none⟩), .pointer (some ⟨b, 0, none⟩), .int .u64 151]]) w = _ from e]
  rfl
set_option maxHeartbeats 4000000 in
set_option maxRecDepth 100000 in
theorem sliceStable_c (es : List En) (g B n : Nat) (w : World) (hgB : B ≠ g) (hn : n = es.length) (hl : n ≤ 1000) (h : Rw es g B n (idx n) w) :
    Calls Try.prog 29 #[.iface 22 (.slice (some ⟨g, 0, none⟩) n n), .func (.func 30) #[] #[.pointer (some ⟨B, 0, none⟩)]] w fun e w' => e = .returned (.tuple #[]) ∧ SsOk es g B n w w' := by
  obtain ⟨sf, sb, hs, hsw⟩ := swapper_c g n
  have L := ls_any hgB (by omega) hn sf sb hs
  have hv := valueOf_c (some ⟨g, 0, none⟩) n n w
  have hln := fun (V : World) hV => valueLen_c (some ⟨g, 0, none⟩) n n w.heap.size V hV
  obtain ⟨W1, hW1⟩ : ∃ W1, W1 = w.alloc (.cells #[.slice (some ⟨g, 0, none⟩) n n] 22) := ⟨_, rfl⟩
  generalize Try.prog.globals.size = G at hv hln
  obtain ⟨W2, hW2⟩ : ∃ W2, W2 = W1.alloc (.cells #[.pointer (some ⟨G, 22, none⟩), .pointer (some ⟨w.heap.size, 0, none⟩), .int .u64 151] 59) := ⟨_, rfl⟩
  have hc : W2.cell? ⟨w.heap.size, 0, none⟩ = some (.slice (some ⟨g, 0, none⟩) n n) := by
    rw [hW2, cells_of (b := w.heap.size) (by rw [Below.heap_alloc _ _ _ (by rw [hW1]; simp), hW1]; exact heap_new w _)]
    rfl
  have hL := hln W2 hc
  have R2 : Rw es g B n (idx n) W2 := by rw [hW2, hW1]; exact L.alloc _ (L.alloc _ h)
  have K2 : Hid (Kept (fun i => i = g) w W2) := hide (by rw [hW2, hW1]; exact ((Kept.refl _ w).alloc _ _).alloc _ _)
  have HQ := hide (stable_c L (idx n) W2 R2 hl)
  have HN := hide hn
  have HF : Hid (∀ d w', Srt (rk es) d 0 n → Stirk (rk es) 0 n (idx n) d → Rw es g B n d w' → Kept (fun i => i = g) W2 w' → SsOk es g B n w w') := hide fun d w' q1 q2 q3 q4 =>
    ⟨d, q3, pm_srt (by rw [← HN.out]; exact q3.1) (by rw [← HN.out]; exact q1) (q2.up (idx_st n _)), K2.out.trans q4 (fun _ _ h => h)⟩
  rw [hW2, hW1] at HQ hL
  clear hc R2 K2 hln L hs h hgB hn
  go_enter Try.func29, Try.ntmps29
  go_wp2_with (go_at_call 47; refine HQ.out.mono ?_; rintro e w1 ⟨rfl, K⟩; have HK := hide K; clear K)
  go_end0
  obtain ⟨d, q1, q2, q3, q4⟩ := HK.out
  exact ⟨rfl, HF.out d _ q1 q2 q3 (by rw [hW2, hW1]; exact q4)⟩
theorem srt_length (es : List En) : (srt es).length = es.length := by have := srt_len es []; simpa [srt] using this
set_option maxHeartbeats 4000000 in
set_option maxRecDepth 100000 in
theorem sort_c (a : Option Addr) (cap : Nat) (es : List En) (w : World) (h : EntsIn w a es) (hl : es.length ≤ 1000) : Calls Try.prog 13 #[.slice a es.length cap] w (CpOk (srt es) w) := by
  have HC := hide (copied_c a cap es w h (by omega))
  have HP : Hid (∀ g w', w.heap.size ≤ g → Er g (srt es) w' → Below w.heap.size w w' → CpOk (srt es) w (.returned (.slice (some ⟨g, 0, none⟩) es.length es.length)) w') := hide fun g w' q1 q2 q3 => ⟨g, q1, by rw [srt_length], q2, q3⟩
  obtain ⟨n, hnn⟩ : ∃ n, n = es.length := ⟨_, rfl⟩
  have HS := fun (g B : Nat) (V : World) (hgB : B ≠ g) (hR : Rw es g B n (idx n) V) => hide (sliceStable_c es g B n V hgB hnn (by omega) hR)
  have HN := hide hnn
  have hmf : ∀ (fn : Fn) (first cap : Array Value) (w : World), (Instr.makeFunc fn first cap).run Try.prog w = .ok (.func fn first cap) w := fun _ _ _ _ => rfl
  rw [← hnn] at HP HC ⊢
  clear h hnn hl
  go_enter Try.func13, Try.ntmps13
  go_upto_region 2 with (go_at_call 28; refine HC.out.mono ?_; rintro e w1 ⟨g, hgw, rfl, he, hb⟩; have E1 := hide he; have B1 := hide hb; have GW := hide hgw; clear he hb hgw HC)
  rw [← HN.out]
  have HB : Hid (w1.heap.size ≠ g) := hide (by have := E1.out.lt; omega)
  have R1 : Rw es g w1.heap.size n (idx n) (w1.alloc (.cells #[.slice (some ⟨g, 0, none⟩) n n] 22)) := by
    refine ⟨List.Perm.refl _, ?_, heap_new _ _⟩
    rw [HN.out, pm_idx]
    have := E1.out
    unfold Er at *
    rw [Below.heap_alloc _ _ _ (lt_of_block this)]
    exact this
  have HQ := HS g w1.heap.size _ HB.out R1
  have B2 := hide (B1.out.alloc B1.out.size (.cells #[.slice (some ⟨g, 0, none⟩) n n] 22))
  have cB : (w1.alloc (.cells #[.slice (some ⟨g, 0, none⟩) n n] 22)).cell? ⟨w1.heap.size, 0, none⟩ = some (.slice (some ⟨g, 0, none⟩) n n) := by rw [cells_of R1.2.2]; rfl
  clear R1 HS E1
  generalize w1.alloc (.cells #[.slice (some ⟨g, 0, none⟩) n n] 22) = W2 at *
  generalize w1.heap.size = B at *
  go_upto_region 3 with (go_at_call 29; refine HQ.out.mono ?_; rintro e w3 ⟨rfl, K⟩; have HK := hide K; clear K HQ)
  have c3 : w3.cell? ⟨B, 0, none⟩ = some (.slice (some ⟨g, 0, none⟩) n n) := by
    obtain ⟨d, q1, q2, q3⟩ := HK.out
    rw [cells_of q1.2.2]; rfl
  go_wp2_with fail
  go_ret
  obtain ⟨d, q1, q2, q3⟩ := HK.out
  exact HP.out g _ GW.out (by rw [← q2]; exact q1.2.1) (B2.out.trans (q3.below B2.out.size (fun k hk hkg => by have := GW.out; omega)))
end Go.Proofs.Ytlfffpgokemjbaa.U
