/- PROVED: the walk of the law CheckXors. -/
import Derived.Test.YtddhegohecajcaaFill
import Derived.Deep.DeepCutAuto
import Derived.Deep.RegionWith
import Derived.Deep.DeepFit
namespace Go.Proofs.Ytddhegohecajcaa
open Go Go.RowKit

set_option maxRecDepth 100000 in
theorem xors_walk (aa ab ac : Option Addr) (la lb lc ca cb cc : Nat) (xa xb xc : List Nat) (w : World) (ha : BytesAt w (.slice aa la ca) xa) (hb : BytesAt w (.slice ab lb cb) xb) (hc : BytesAt w (.slice ac lc cc) xc)
    (ea : xa.length = la) (eb : xb.length = lb) (ec : xc.length = lc) (ma : ∀ x ∈ xa, x < 256) (mb : ∀ x ∈ xb, x < 256) (mc : ∀ x ∈ xc, x < 256) (na : la ≤ 140737488351232) (nb : lb ≤ 140737488351232) (nc : lc ≤ 140737488351232) (pa : la ≤ ca) (pb : lb ≤ cb) (pc : lc ≤ cc) :
    Calls Try.prog 7 #[.slice aa la ca, .slice ab lb cb, .slice ac lc cc] w fun e w' => e = .returned (.bool true) ∧ Below w.heap.size w w' := by
  have hz := zeroA
  obtain ⟨n, hna, hnb, hnc, hmin⟩ : ∃ n : Nat, n ≤ la ∧ n ≤ lb ∧ n ≤ lc ∧ ∀ w, (Builtin.min_ #[3, 3, 3] 3 #[.int .i64 (la : Int), .int .i64 (lb : Int), .int .i64 (lc : Int)]).run Try.prog w = .ok (.int .i64 (n : Int)) w := by
    refine ⟨min (min la lb) lc, by omega, by omega, by omega, fun w => ?_⟩
    simp only [Builtin.min_, List.foldlM, Builtin.min2, Sem.run_bind, Sem.run_pure, Result.andThen]
    congr 2
    omega
  obtain ⟨ta, hta⟩ : ∃ ta, ta = xa.take n := ⟨_, rfl⟩
  obtain ⟨tb, htb⟩ : ∃ tb, tb = xb.take n := ⟨_, rfl⟩
  obtain ⟨tc, htc⟩ : ∃ tc, tc = xc.take n := ⟨_, rfl⟩
  obtain ⟨X, hX⟩ : ∃ X, X = x3 ta tb tc := ⟨_, rfl⟩
  have la' : ta.length = n := by rw [hta]; simp; omega
  have lb' : tb.length = n := by rw [htb]; simp; omega
  have lc' : tc.length = n := by rw [htc]; simp; omega
  have mta : ∀ x ∈ ta, x < 256 := by rw [hta]; exact take_mem_lt ma n
  have mtb : ∀ x ∈ tb, x < 256 := by rw [htb]; exact take_mem_lt mb n
  have mtc : ∀ x ∈ tc, x < 256 := by rw [htc]; exact take_mem_lt mc n
  have lX : X.length = n := by rw [hX]; exact x3_length n la' lb' lc'
  have mX : ∀ x ∈ X, x < 256 := by rw [hX]; exact x3_mem n la' lb' lc' mta mtb mtc
  have gX : ∀ k, k < n → X.getD k 0 = xa.getD k 0 ^^^ xb.getD k 0 ^^^ xc.getD k 0 := by
    intro k hk
    rw [hX, x3_getD n la' lb' lc' k hk, hta, htb, htc, getD_take hk, getD_take hk, getD_take hk]
  have sX : mr 0 ta ^^^ mr 0 tb ^^^ mr 0 tc = mr 0 X := by rw [hX]; exact mr_x3 la' lb' lc' mta mtb mtc
  obtain ⟨i5, hi5, hz5, hs5, hb5⟩ := info5
  have hmk := made5 n i5 hi5 hz5 hs5 hb5 (by omega) w
  rw [← lX, ← fil_zero, lX] at hmk
  clear hi5 hz5 hs5 hb5
  have HA : Hid (BytesAt w (.slice aa la ca) xa) := ha
  have HB : Hid (BytesAt w (.slice ab lb cb) xb) := hb
  have HC : Hid (BytesAt w (.slice ac lc cc) xc) := hc
  have EA : Hid (xa.length = la) := ea
  have EB : Hid (xb.length = lb) := eb
  have EC : Hid (xc.length = lc) := ec
  have MA : Hid (∀ x ∈ xa, x < 256) := ma
  have MB : Hid (∀ x ∈ xb, x < 256) := mb
  have MC : Hid (∀ x ∈ xc, x < 256) := mc
  have LX : Hid (X.length = n) := lX
  have GX : Hid (∀ k, k < n → X.getD k 0 = xa.getD k 0 ^^^ xb.getD k 0 ^^^ xc.getD k 0) := gX
  have OA : Hid (Ok w (.slice aa n ca) ta) := ⟨by rw [hta]; exact bytes_take ha ea hna, mta, by omega⟩
  have OB : Hid (Ok w (.slice ab n cb) tb) := ⟨by rw [htb]; exact bytes_take hb eb hnb, mtb, by omega⟩
  have OC : Hid (Ok w (.slice ac n cc) tc) := ⟨by rw [htc]; exact bytes_take hc ec hnc, mtc, by omega⟩
  have OX : Hid (∀ x ∈ X, x < 256) := mX
  have SX : Hid (mr 0 ta ^^^ mr 0 tb ^^^ mr 0 tc = mr 0 X) := sX
  clear ha hb hc ea eb ec ma mb mc lX gX mta mtb mtc la' lb' lc' mX sX hta htb htc hX
  go_enter Try.func7, Try.ntmps7
  go_wp2_with fail
  go_loopg [22] n (fun g s22 wx => ∃ k : Nat, k + g = n ∧ s22 = .int .i64 k ∧ wx.heap[w.heap.size]? = some (.cells (fil X k) 5 (0, 0)) ∧ Below w.heap.size w wx)
  case atStart => exact ⟨0, by omega, rfl, heap_new _ _, (Below.refl _ w).alloc (Nat.le_refl _) _⟩
  case round =>
    obtain ⟨k, hkg, rfl, hb3, b0⟩ := hrel
    have B0 : Hid (Below w.heap.size w wr) := b0
    clear b0
    cases gk with
    | zero =>
      obtain rfl : k = n := by omega
      have VX : Hid (Ok wr (.slice (some ⟨w.heap.size, 0, none⟩) k k) X) := by
        rw [← LX.out] at hb3 ⊢
        exact ⟨fil_bytes hb3, OX.out, by rw [LX.out]; omega⟩
      have VA : Hid (Ok wr (.slice aa k ca) ta) := ⟨bytes_keep B0.out OA.out.1 (Nat.le_refl _), OA.out.2⟩
      have VB : Hid (Ok wr (.slice ab k cb) tb) := ⟨bytes_keep B0.out OB.out.1 (Nat.le_refl _), OB.out.2⟩
      have VC : Hid (Ok wr (.slice ac k cc) tc) := ⟨bytes_keep B0.out OC.out.1 (Nat.le_refl _), OC.out.2⟩
      clear hb3
      obtain ⟨A, hA⟩ : ∃ A, A = mr 0 ta := ⟨_, rfl⟩
      obtain ⟨B, hB⟩ : ∃ B, B = mr 0 tb := ⟨_, rfl⟩
      obtain ⟨C, hC⟩ : ∃ C, C = mr 0 tc := ⟨_, rfl⟩
      obtain ⟨D, hD⟩ : ∃ D, D = mr 0 X := ⟨_, rfl⟩
      have hxx := xor32_3 (mr_lt 0 ta) (mr_lt 0 tb) (mr_lt 0 tc) SX.out
      rw [← hA, ← hB, ← hC, ← hD] at hxx
      have kk1 : (k : Int) ≤ (ca : Int) := by omega
      have kk2 : (k : Int) ≤ (cb : Int) := by omega
      have kk3 : (k : Int) ≤ (cc : Int) := by omega
      have CA : Hid (∀ b w, TabIn w b → Ok w (.slice aa k ca) ta → Calls Try.prog 11 #[.pointer (some ⟨b, 0, none⟩), .slice aa k ca] w fun e w' => e = .returned (.int .u32 (A : Int)) ∧ w' = w) := fun b w h1 h2 => by rw [hA]; exact sum_ok b _ ta w h1 h2
      have CB : Hid (∀ b w, TabIn w b → Ok w (.slice ab k cb) tb → Calls Try.prog 11 #[.pointer (some ⟨b, 0, none⟩), .slice ab k cb] w fun e w' => e = .returned (.int .u32 (B : Int)) ∧ w' = w) := fun b w h1 h2 => by rw [hB]; exact sum_ok b _ tb w h1 h2
      have CC : Hid (∀ b w, TabIn w b → Ok w (.slice ac k cc) tc → Calls Try.prog 11 #[.pointer (some ⟨b, 0, none⟩), .slice ac k cc] w fun e w' => e = .returned (.int .u32 (C : Int)) ∧ w' = w) := fun b w h1 h2 => by rw [hC]; exact sum_ok b _ tc w h1 h2
      have CX : Hid (∀ b W, TabIn W b → Ok W (.slice (some ⟨w.heap.size, 0, none⟩) k k) X → Calls Try.prog 11 #[.pointer (some ⟨b, 0, none⟩), .slice (some ⟨w.heap.size, 0, none⟩) k k] W fun e w' => e = .returned (.int .u32 (D : Int)) ∧ w' = W) := fun b W h1 h2 => by rw [hD]; exact sum_ok b _ X W h1 h2
      clear hA hB hC hD
      go_wp2_with (first
        | (go_at_call 8; refine (make_b _).mono ?_; rintro e w1 ⟨rfl, b1⟩; have B1 : Hid (Below wr.heap.size wr w1) := b1; clear b1)
        | (refine wpList_store_row rfl 24 (.tmp 10) (.tmp 43) rfl _ (tabA 256) (by rfl) (by rfl) (tabA 0) 24 (heap_new _ _) infoT (by rw [tabA_size, tabA_size]) (tabA_one _) _ (World.setRow_alloc_new _ _ _ _) ?_))
      obtain ⟨V, hV⟩ : ∃ V, V = w1.alloc (.cells (tabA 256) 24) := ⟨_, rfl⟩
      have T1 : Hid (TabIn V w1.heap.size) := by rw [hV]; exact tab_new w1 24
      have HS : Hid (w1.heap.size < V.heap.size) := by rw [hV]; simp [Hid]
      have B2 : Hid (Below wr.heap.size wr V) := by rw [hV]; exact B1.out.alloc B1.out.size _
      rw [← hV]
      clear hV hz
      generalize tabA 256 = TA
      go_region_held3 (fun _ => True) (trivial) (first
        | (go_at_call 9; refine (alive_c _).mono ?_; rintro e w2 ⟨rfl, b2⟩; have T2 : Hid (TabIn w2 w1.heap.size) := tab_below b2 HS.out T1.out; have B3 : Hid (Below wr.heap.size wr w2) := B2.out.drew.trans (b2.mono B2.out.size); have ZA : Hid (Ok w2 (.slice aa k ca) ta) := ⟨bytes_keep B3.out VA.out.1 (Nat.le_refl _), VA.out.2⟩; have ZB : Hid (Ok w2 (.slice ab k cb) tb) := ⟨bytes_keep B3.out VB.out.1 (Nat.le_refl _), VB.out.2⟩; have ZC : Hid (Ok w2 (.slice ac k cc) tc) := ⟨bytes_keep B3.out VC.out.1 (Nat.le_refl _), VC.out.2⟩; have ZX : Hid (Ok w2 (.slice (some ⟨w.heap.size, 0, none⟩) k k) X) := ⟨bytes_keep B3.out VX.out.1 (Nat.le_refl _), VX.out.2⟩; clear b2)
        | (go_at_call 11; first
          | (go_fit (CX.out _ _ T2.out ZX.out); rintro e w4 ⟨rfl, hw4⟩; obtain rfl : w2 = w4 := hw4.symm)
          | (go_fit (CA.out _ _ T2.out ZA.out); rintro e w4 ⟨rfl, hw4⟩; obtain rfl : w2 = w4 := hw4.symm)
          | (go_fit (CB.out _ _ T2.out ZB.out); rintro e w4 ⟨rfl, hw4⟩; obtain rfl : w2 = w4 := hw4.symm)
          | (go_fit (CC.out _ _ T2.out ZC.out); rintro e w4 ⟨rfl, hw4⟩; obtain rfl : w2 = w4 := hw4.symm)))
      all_goals go_wp2
      all_goals go_ret
      all_goals exact ⟨rfl, B0.out.trans (B3.out.mono B0.out.size)⟩
    | succ g =>
      have hk : (k : Int) < (n : Int) := by omega
      obtain ⟨ba, oa, rfl, wa, cella⟩ := bytes_addr HA.out EA.out (by omega)
      obtain ⟨bb, ob, rfl, wb, cellb⟩ := bytes_addr HB.out EB.out (by omega)
      obtain ⟨bc, oc, rfl, wc, cellc⟩ := bytes_addr HC.out EC.out (by omega)
      have c1 := (B0.out.cell (p := ⟨ba, oa + k, none⟩) wa).trans (cella k (by omega))
      have c2 := (B0.out.cell (p := ⟨bb, ob + k, none⟩) wb).trans (cellb k (by omega))
      have c3 := (B0.out.cell (p := ⟨bc, oc + k, none⟩) wc).trans (cellc k (by omega))
      have d1 := getD_mem_lt MA.out (k := k) (by rw [EA.out]; omega)
      have d2 := getD_mem_lt MB.out (k := k) (by rw [EB.out]; omega)
      have d3 := getD_mem_lt MC.out (k := k) (by rw [EC.out]; omega)
      have hx := GX.out k (by omega)
      have hset := @fil_set X k (by rw [LX.out]; omega)
      have hnot := (cells_of hb3 k).trans (@fil_not X k (by rw [LX.out]; omega))
      have hfree := free_of hb3 k
      generalize xa.getD k 0 = A at c1 d1 hx
      generalize xb.getD k 0 = B at c2 d2 hx
      generalize xc.getD k 0 = C at c3 d3 hx
      generalize X.getD k 0 = D at hx hset
      have HB3 : Hid (((wr.setCell ⟨w.heap.size, k, none⟩ (.int .u8 (D : Int))).heap[w.heap.size]? = some (.cells (fil X (k + 1)) 5 (0, 0)))) := by
        have := set_of hb3 k (.int .u8 (D : Int))
        rw [hset] at this
        exact this
      clear hb3 hset
      have hxor := xor8_3 d1 d2 d3 hx
      clear cella cellb cellc hx d1 d2 d3
      have la1 : (k : Int) < (la : Int) := by omega
      have lb1 : (k : Int) < (lb : Int) := by omega
      have lc1 : (k : Int) < (lc : Int) := by omega
      have KS : Hid ((wr.setCell ⟨w.heap.size, k, none⟩ (.int .u8 (D : Int))).drew.cell? ⟨ba, oa + k, none⟩ = some (.int .u8 (A : Int)) ∧ (wr.setCell ⟨w.heap.size, k, none⟩ (.int .u8 (D : Int))).drew.cell? ⟨bb, ob + k, none⟩ = some (.int .u8 (B : Int)) ∧ (wr.setCell ⟨w.heap.size, k, none⟩ (.int .u8 (D : Int))).drew.cell? ⟨bc, oc + k, none⟩ = some (.int .u8 (C : Int))) := by
        refine ⟨?_, ?_, ?_⟩
        · exact (World.cell?_of_block (w := wr) (Below.heap_setCell _ _ _ _ (by show ba ≠ w.heap.size; omega))).trans c1
        · exact (World.cell?_of_block (w := wr) (Below.heap_setCell _ _ _ _ (by show bb ≠ w.heap.size; omega))).trans c2
        · exact (World.cell?_of_block (w := wr) (Below.heap_setCell _ _ _ _ (by show bc ≠ w.heap.size; omega))).trans c3
      go_upto_region 6 with fail
      go_region_held3 (fun w' => w'.cell? ⟨ba, oa + k, none⟩ = some (.int .u8 (A : Int)) ∧ w'.cell? ⟨bb, ob + k, none⟩ = some (.int .u8 (B : Int)) ∧ w'.cell? ⟨bc, oc + k, none⟩ = some (.int .u8 (C : Int))) (first | exact KS.out | go_keep) (fail)
      all_goals go_wp2
      go_roundg g
      case measure => omega
      case rel => exact ⟨k + 1, by omega, by go_num, HB3.out, (B0.out.setCell (Nat.le_refl _) _).drew⟩
end Go.Proofs.Ytddhegohecajcaa
