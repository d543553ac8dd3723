/- Several texts, laid together: DMany, DOpen, DFewT. -/
import Derived.Test.YtlakgbckopjelaaGreatDoorDLst
import Derived.Test.YtlakgbckopjelaaGreatDoorKRInf
import Derived.Test.YtlakgbckopjelaaGreatDoorK34DAns
import Derived.Test.YtlakgbckopjelaaGreatDoorK46DQSto
import Derived.Test.YtlakgbckopjelaaGreatDoorDFewQ
/- How many are so: contract; rows of bools. What the lengths of a dynamic block cost. -/
namespace Go.Proofs.YtlakgbckopjelaaGreatDoor
set_option maxRecDepth 100000
open Go Go.RowKit

/-- Bools as cells. -/
def bolA (K : List Bool) : Array Value := (K.map Value.bool).toArray
theorem bolA_at (K : List Bool) {i : Nat} (h : i < K.length) : (bolA K)[i]? = some (.bool (K.getD i false)) := by simp [bolA, List.getD, h]
theorem bolA_set (K : List Bool) (i : Nat) (x : Bool) : (bolA K).setIfInBounds i (.bool x) = bolA (K.set i x) := by
  rw [← Array.toList_inj]
  simp [bolA, List.map_set]
def cntB (K : List Bool) (n : Nat) : Nat := (K.take n).countP id
theorem cntB_succ {K : List Bool} {i : Nat} (h : i < K.length) : cntB K (i + 1) = cntB K i + if K.getD i false then 1 else 0 := by
  unfold cntB
  rw [List.take_succ_eq_append_getElem h, List.countP_append]
  simp [List.getD, h, List.countP_singleton]
theorem cntB_le (K : List Bool) (n : Nat) : cntB K n ≤ K.length := by
  unfold cntB
  refine Nat.le_trans List.countP_le_length ?_
  rw [List.length_take]; omega
set_option maxHeartbeats 1000000 in
theorem many_c (g : Nat) (T : TypeId) (K : List Bool) (w : World) (h : w.heap[g]? = some (.cells (bolA K) T (0, 0))) (hl : K.length ≤ 1000) :
    Calls Tryz.prog 22 #[.slice (some ⟨g, 0, none⟩) K.length K.length] w fun e w' => e = .returned (.int .i64 (cntB K K.length : Int)) ∧ w' = w := by
  have HC : Hid (∀ i, i < K.length → w.cell? ⟨g, i, none⟩ = some (.bool (K.getD i false))) := fun i hi => by rw [cells_of h i, bolA_at K hi]
  have HL : Hid (∀ i, cntB K i ≤ K.length) := cntB_le K
  have hg := lt_of_block h
  clear h
  go_enter Tryz.func22, Tryz.ntmps22
  go_wp2_with fail
  go_loop [3, 8] (fun v3 v8 => ∃ i : Nat, i ≤ K.length ∧ v8 = .int .i64 i ∧ v3 = .int .i64 (cntB K i : Int)) (fun _ v8 => K.length - (intOf v8).toNat)
  case atStart => exact ⟨0, Nat.zero_le _, rfl, by simp [cntB]⟩
  case round =>
    obtain ⟨i, hi, rfl, rfl⟩ := hrel
    by_cases hlt : i < K.length
    · have hlt' : (i : Int) < (K.length : Int) := by omega
      have c := HC.out i hlt
      have hb := HL.out i
      have HS := hide (cntB_succ hlt)
      generalize K.getD i false = x at c HS
      generalize hX : cntB K i = X at hb HS ⊢
      clear hX
      cases x with
      | true =>
        have HS' : Hid (cntB K (i + 1) = X + 1) := HS.out
        clear HS
        go_wp2_with fail
        go_round
        case rel => exact ⟨i + 1, by omega, by go_num, by rw [HS'.out]; go_num⟩
        case measure => simp [intOf]; omega
      | false =>
        have HS' : Hid (cntB K (i + 1) = X) := HS.out
        clear HS
        go_wp2_with fail
        go_round
        case rel => exact ⟨i + 1, by omega, by go_num, by rw [HS'.out]⟩
        case measure => simp [intOf]; omega
    · have hge : ¬ (i : Int) < (K.length : Int) := by omega
      obtain rfl : i = K.length := by omega
      go_wp2_with fail
      go_ret
      exact ⟨rfl, rfl⟩
/-- What the marks cost is what the least cost is. -/
theorem mco_least {b : Bool} {n least : Nat} {ms : List (Bool × Mk)} {F : List Int} (hn : least ≤ n ∧ n ≤ 320) (hl : ms.length ≤ 1000000) (h : L.LGoodR (tly b n ms) 15 F) (hm : ∀ x ∈ ms, x.1 = b → x.2.1 < n) :
    mco b (F.take (trm F least n)) ms = lstV (tly b n ms) F := by
  have hA := alw_tly b n ms hl hn.2
  have hv := h.valid hA.2.2.2 (by decide)
  have hf := valid_fit hv h.len (by decide)
  have hlen : F.length = n := by rw [h.len, tly_length]
  have h1 := cost_tly b F n ms hf (by omega) (fun x hx hb => ⟨hm x hx hb, by rw [hlen]; exact hm x hx hb⟩)
  have h2 := h.cost hA
  have ht := (trimmed hn (by omega) h).2.2.2.2
  have e : mco b (F.take (trm F least n)) ms = mco b F ms := by
    unfold mco
    congr 1
    apply List.map_congr_left
    intro x hx
    by_cases hb : x.1 = b
    · rw [if_pos hb, if_pos hb]
      have hlt := (ht x hx hb (hm x hx hb)).1
      rw [List.length_take] at hlt
      unfold ln
      simp only [List.getD]
      rw [List.getElem?_take_of_lt (by omega)]
    · rw [if_neg hb, if_neg hb]
  rw [e, ← h1]
  exact h2
theorem mco_comm (b : Bool) (S : List Int) (x y : List (Bool × Mk)) : mco b S (x ++ y) = mco b S (y ++ x) := by
  unfold mco
  rw [List.map_append, List.map_append, List.sum_append, List.sum_append, Int.add_comm]
theorem mco_mst (b : Bool) (S : List Int) (ts : List M.Tk) : mco b S (mst ts ts.length) = mco b S (emk ts) := by
  unfold mst emk
  rw [List.take_length, mco_comm]
theorem mco_bd {b : Bool} {S : List Int} (hS : Fit S) (ms : List (Bool × Mk)) : 0 ≤ mco b S ms ∧ mco b S ms ≤ 15 * ms.length := by
  induction ms with
  | nil => simp [mco]
  | cons x r ih =>
    have h1 := ln_fit hS x.2.1
    have e : mco b S (x :: r) = (if x.1 = b then ln S x.2.1 else 0) + mco b S r := by simp [mco]
    rw [e, List.length_cons]
    split <;> omega
/-- Two rows of bools, the first two blocks of the call's own. -/
structure CSt (w wx : World) (K V : List Bool) : Prop where
  k : wx.heap[w.heap.size]? = some (.cells (bolA K) 35 (0, 0))
  v : wx.heap[w.heap.size + 1]? = some (.cells (bolA V) 36 (0, 0))
  bel : Below w.heap.size w wx
  kl : K.length = 286
  vl : V.length = 30
theorem CSt.setK {w wx : World} {K V : List Bool} (h : CSt w wx K V) (i : Nat) : CSt w (wx.setCell ⟨w.heap.size, i, none⟩ (.bool true)) (K.set i true) V := by
  have k := Kept.setCell (M := fun b => b = w.heap.size) (Kept.refl _ wx) (p := ⟨w.heap.size, i, none⟩) (fun _ => rfl) (.bool true)
  exact ⟨by rw [set_of h.k i, bolA_set], k.heap h.v (by omega), h.bel.trans (k.below h.bel.size (fun i hi e => by omega)), by rw [List.length_set]; exact h.kl, h.vl⟩
theorem CSt.setV {w wx : World} {K V : List Bool} (h : CSt w wx K V) (i : Nat) : CSt w (wx.setCell ⟨w.heap.size + 1, i, none⟩ (.bool true)) K (V.set i true) := by
  have k := Kept.setCell (M := fun b => b = w.heap.size + 1) (Kept.refl _ wx) (p := ⟨w.heap.size + 1, i, none⟩) (fun _ => rfl) (.bool true)
  exact ⟨k.heap h.k (by omega), by rw [set_of h.v i, bolA_set], h.bel.trans (k.below h.bel.size (fun i hi e => by omega)), h.kl, by rw [List.length_set]; exact h.vl⟩
theorem CSt.stay {w wx wy : World} {K V : List Bool} (h : CSt w wx K V) (k : Below wx.heap.size wx wy) : CSt w wy K V := ⟨(k.block _ (lt_of_block h.k)).trans h.k, (k.block _ (lt_of_block h.v)).trans h.v, h.bel.trans (k.mono h.bel.size), h.kl, h.vl⟩
theorem CSt.new (w : World) (K V : List Bool) (hk : K.length = 286) (hv : V.length = 30) : CSt w ((w.alloc (.cells (bolA K) 35)).alloc (.cells (bolA V) 36)) K V := by
  refine ⟨heap_old (heap_new w _), ?_, ((Below.refl _ w).alloc (Nat.le_refl _) _).alloc (by simp) _, hk, hv⟩
  have := heap_new (w.alloc (.cells (bolA K) 35)) (.cells (bolA V) 36)
  simpa using this
end Go.Proofs.YtlakgbckopjelaaGreatDoor

/- The reference's Opening of a stream whose first block is a dynamic one: contract. -/
namespace Go.Proofs.YtlakgbckopjelaaGreatDoor
set_option maxRecDepth 100000
open Go Go.RowKit

theorem tokB_leng {S D : List Int} (hS : Fit S) (hD : Fit D) {t : M.Tk} (h : (t.2.1 = 0 ∧ 0 ≤ t.1 ∧ t.1 ≤ 255) ∨ (3 ≤ t.2.1 ∧ t.2.1 ≤ 258 ∧ 1 ≤ t.2.2 ∧ t.2.2 ≤ 32768)) : (tokB S D t).length ≤ 48 := by
  have l1 : ∀ v, (ln S v).toNat ≤ 15 := fun v => by have := ln_fit hS v; omega
  have l2 : ∀ v, (ln D v).toNat ≤ 15 := fun v => by have := ln_fit hD v; omega
  unfold tokB
  split
  · rw [mkB_length]; have := l1 t.1.toNat; simp only; omega
  · rename_i h0
    have h' := h.resolve_left (fun e => h0 e.1)
    have a1 := lmk_ok t.2.1.toNat (by omega)
    have a2 := bmk_ok t.2.2.toNat (by omega)
    have a3 := l1 (lmk t.2.1.toNat).1
    have a4 := l2 (bmk t.2.2.toNat).1
    rw [List.length_append, mkB_length, mkB_length]
    omega
theorem datB_leng {S D : List Int} (hS : Fit S) (hD : Fit D) : ∀ ts : List M.Tk, TOk ts → (datB S D ts).length ≤ 48 * ts.length + 15
  | [], _ => by
    have := ln_fit hS 256
    simp only [datB, List.flatMap_nil, List.nil_append, mkB_length, List.length_nil]
    omega
  | t :: r, h => by
    have h1 := tokB_leng hS hD (h t (List.mem_cons_self ..))
    have h2 := datB_leng hS hD r (fun x hx => h x (List.mem_cons_of_mem _ hx))
    rw [datB_cons, List.length_append, List.length_cons]
    omega
theorem datB_len {kk : Nat} {ts : List M.Tk} {S D : List Int} (h : BkOk kk ts S D) : (datB S D ts).length ≤ 48 * ts.length + 15 := datB_leng (check_good h.cs).fit (check_good h.cd).fit ts h.ok
/-- What Dynamic tells of tokens. -/
def DynX (ts : List M.Tk) (X : List Int) : Prop := ∃ S D H, BkOk 2 ts S D ∧ DynOk ts S D ∧ HdIs 2 S D H ∧ X = dataL (blB 2 true H S D ts)
/-- A dynamic block's beginning, as it is read. -/
theorem open_facts {ts : List M.Tk} {S D H : List Int} (hk : BkOk 2 ts S D) (hH : HdIs 2 S D H) : iTk (ib (dataL (blB 2 true H S D ts))) (8 * (dataL (blB 2 true H S D ts)).length) 0 1 = .ok (1, 1) ∧ iTk (ib (dataL (blB 2 true H S D ts))) (8 * (dataL (blB 2 true H S D ts)).length) 1 2 = .ok (3, 2) ∧ ∃ q, iHdr (ib (dataL (blB 2 true H S D ts))) (8 * (dataL (blB 2 true H S D ts)).length) 3 = .ok (q, (S, D)) := by
  have hB : BAt (ib (dataL (blB 2 true H S D ts))) (8 * (dataL (blB 2 true H S D ts)).length) 0 (blB 2 true H S D ts) := ⟨by rw [dataL_length]; omega, fun i hi => by rw [Nat.zero_add]; exact ib_data _ (bin_bl hH) i hi⟩
  have hle : ∀ i, ib (dataL (blB 2 true H S D ts)) i ≤ 1 := ib_le _
  generalize ib (dataL (blB 2 true H S D ts)) = b at hB hle
  generalize 8 * (dataL (blB 2 true H S D ts)).length = T at hB
  unfold blB at hB
  have h1 := hB.left.left
  have h2 := hB.left.right
  have h3 := hB.right.left
  rw [knd_length] at h3
  rw [bitsN_length] at h2
  rcases hH with ⟨h, _⟩ | ⟨_, hsd, F, many, hll, rfl⟩
  · omega
  · exact ⟨BAt.tk (x := 1) h1 (by decide), BAt.tk (x := 2) h2 (by decide), _, (hsd.read hk.cs hk.cd hll).read hle h3⟩
/-- What Dynamic told is short. -/
theorem dyn_short {ts : List M.Tk} {S D H : List Int} (hk : BkOk 2 ts S D) (hH : HdIs 2 S D H) (hl : ts.length ≤ 600) : (dataL (blB 2 true H S D ts)).length ≤ 100000 := by
  have h1 := hd_len hH
  have h2 := datB_len hk
  rw [dataL_length]
  unfold blB
  rw [List.length_append, List.length_append, knd_length]
  omega
set_option maxHeartbeats 4000000 in
theorem ropen_c (a0 : Option Addr) (cap0 : Nat) (zs : List Int) (w : World) (ht : Text w.heap.size w a0 zs.length zs) (hl : zs.length ≤ 100000) (l q : Nat) (S D : List Int)
    (h1 : iTk (ib zs) (8 * zs.length) 0 1 = .ok (1, l)) (h2 : iTk (ib zs) (8 * zs.length) 1 2 = .ok (3, 2)) (hh : iHdr (ib zs) (8 * zs.length) 3 = .ok (q, (S, D))) :
    Calls Tryz.prog 18 #[.slice a0 zs.length cap0] w fun x w' => ∃ (a1 a2 : Option Addr) (c1 c2 : Nat), x = .returned (.tuple #[.slice a1 S.length c1, .slice a2 D.length c2, .bool true]) ∧ Ints 0 w'.heap.size w' a1 S ∧ Ints 0 w'.heap.size w' a2 D ∧ Below w.heap.size w w' := by
  have HRW := hide (row_any w.heap.size a0 zs.length cap0 zs w ht (by omega) (Nat.le_refl _))
  obtain ⟨L, hLd⟩ : ∃ L, rowOf zs = L := ⟨_, rfl⟩
  have hLl : L.length = 8 * zs.length := by rw [← hLd, rowOf_length]
  have hL : L.length ≤ 1000000 := by omega
  have HB : Hid (Bin L) := by rw [← hLd]; exact bin_rowOf zs
  have hlb : ib zs = lb L := by rw [← hLd, lb_row]
  rw [hlb, ← hLl] at h1 h2 hh
  rw [hLd] at HRW
  have h3L : 3 ≤ L.length := by have := (iTk_got h2).2.1; omega
  have HC1 := fun (g : Nat) (a : Option Addr) (ac : Nat) w' (hi' : Ints w.heap.size g w' a L) => hide (rbits_got (o := none) (ac := ac) (ol := 0) (oc := 0) (m := (0 : Int)) hL HB.out hi' (by decide) h1 1 rfl)
  have HC2 := fun (g : Nat) (a : Option Addr) (ac : Nat) w' (hi' : Ints w.heap.size g w' a L) => hide (rbits_got (o := none) (ac := ac) (ol := 0) (oc := 0) (m := (0 : Int)) hL HB.out hi' (by decide) h2 2 rfl)
  have HC3 : Hid (∀ (g : Nat) (a : Option Addr) (ac : Nat) w', Ints w.heap.size g w' a L → Calls Tryz.prog 42 #[.agg (sA a L.length ac (3 : Nat) none 0 0 0 0)] w' fun x w'' => ∃ (a1 a2 : Option Addr) (c1 c2 : Nat), x = .returned (.tuple #[.agg (sA a L.length ac (q : Int) none 0 0 0 0), .slice a1 S.length c1, .slice a2 D.length c2]) ∧ Ints w'.heap.size w''.heap.size w'' a1 S ∧ Ints w'.heap.size w''.heap.size w'' a2 D ∧ Below w'.heap.size w' w'') := fun g a ac w' hi' => (rhead_c w.heap.size g a none ac 0 0 L 3 0 w' hL HB.out h3L hi').mono (by
    rw [hh]
    rintro x w'' ⟨hb', ⟨q', S', D', a1, a2, c1, c2, he, rfl, i1, i2⟩ | ⟨e', q', _, _, he, _⟩⟩
    · cases he; exact ⟨a1, a2, c1, c2, rfl, i1, i2, hb'⟩
    · cases he)
  clear ht hLd hLl hlb h1 h2 hh
  go_enter Tryz.func18, Tryz.ntmps18
  go_upto_region 3 with (go_at_call 40; refine HRW.out.mono ?_; rintro x w1 ⟨v1, rfl, ow, b1⟩; obtain ⟨a, ac, rfl, hcl⟩ := ow.form; have OW := hide ow; have B1 := hide b1; clear ow b1 hcl HRW)
  have H0 : Hid (JS w1.heap.size w (w1.alloc (.cells #[.slice a L.length ac, .int .i64 0, .slice none 0 0, .int .i64 0, .int .i64 0] 68)) a L ac 0 none 0 0 0 []) := JS.new OW.out B1.out
  obtain ⟨g, hg⟩ : ∃ g, g = w1.heap.size := ⟨_, rfl⟩
  rw [← hg] at H0 ⊢
  generalize w1.alloc (.cells #[.slice a L.length ac, .int .i64 0, .slice none 0 0, .int .i64 0, .int .i64 0] 68) = w2 at H0 ⊢
  have zz := H0.out.lt
  have c4 := cells_of H0.out.s0 4
  simp [sA] at c4
  clear OW B1 hg
  go_upto_region 4 with (first
    | (refine st_load rfl (.tmp 5) rfl g (by rfl) a none L.length ac 0 0 _ 0 0 (0, 0) H0.out.s0 ?_)
    | (go_at_call 41; refine (HC1 _ _ _ _ H0.out.row).out.mono ?_; rintro x wb ⟨rfl, hbb⟩; have J1 := hide (H0.out.stay hbb); clear hbb H0 HC1)
    | (refine st_store rfl (.tmp 5) (.tmp 15) rfl g (by rfl) a none L.length ac 0 0 _ 0 0 (by rfl) _ (by rfl) J1.out.s0 ?_; intro wz hgz hkz; have J2 := hide (J1.out.set hgz hkz); clear c4 zz; have c4 := cells_of J2.out.s0 4; simp [sA] at c4; have zz := J2.out.lt; clear hgz hkz J1))
  go_upto_region 5 with (first
    | (refine st_load rfl (.tmp 5) rfl g (by rfl) a none L.length ac 0 0 _ 0 0 (0, 0) J2.out.s0 ?_)
    | (go_at_call 41; refine (HC2 _ _ _ _ J2.out.row).out.mono ?_; rintro x wc ⟨rfl, hbc⟩; have J3 := hide (J2.out.stay hbc); clear hbc J2 HC2)
    | (refine st_store rfl (.tmp 5) (.tmp 20) rfl g (by rfl) a none L.length ac 0 0 _ 0 0 (by rfl) _ (by rfl) J3.out.s0 ?_; intro wy hgz hkz; have J4 := hide (J3.out.set hgz hkz); clear c4 zz; have c4 := cells_of J4.out.s0 4; simp [sA] at c4; have zz := J4.out.lt; clear hgz hkz J3))
  go_upto_region 7 with fail
  go_upto_region 8 with (first
    | (refine st_load rfl (.tmp 5) rfl g (by rfl) a none L.length ac 0 0 _ 0 0 (0, 0) J4.out.s0 ?_)
    | (go_at_call 42; refine (HC3.out _ _ _ _ J4.out.row).mono ?_; rintro x wd ⟨a1, a2, c1, c2, rfl, i1, i2, bd⟩; have J5 := hide (J4.out.stay bd); have I1 := hide (i1.wide (Nat.zero_le _) (Nat.le_refl _)); have I2 := hide (i2.wide (Nat.zero_le _) (Nat.le_refl _)); have HLO1 := hide i1; have HLO2 := hide i2; clear i1 i2 bd HC3)
    | (refine st_store rfl (.tmp 5) (.tmp 32) rfl g (by rfl) a none L.length ac 0 0 _ 0 0 (by rfl) _ (by rfl) J5.out.s0 ?_; intro wf hgz hkz; have K1 := hide ((HLO1.out.kept hkz (fun b h1 h2 e => by omega)).wide (Nat.zero_le _) hkz.size); have K2 := hide ((HLO2.out.kept hkz (fun b h1 h2 e => by omega)).wide (Nat.zero_le _) hkz.size); have J6 := hide (J5.out.set hgz hkz); clear c4 zz; have c4 := cells_of J6.out.s0 4; simp [sA] at c4; have zz := J6.out.lt; clear hgz hkz J5 I1 I2 HLO1 HLO2))
  go_quiet (fail)
  go_wp2_with fail
  go_returns
  exact ⟨a1, a2, c1, c2, rfl, K1.out, K2.out, ⟨J6.out.bel.os, J6.out.bel.tape, J6.out.bel.output, J6.out.bel.size, J6.out.bel.block⟩⟩
end Go.Proofs.YtlakgbckopjelaaGreatDoor

/- Of a block that stands alone: what it is read as. -/
namespace Go.Proofs.YtlakgbckopjelaaGreatDoor
set_option maxRecDepth 100000
open Go Go.RowKit

theorem TkIn.of {w : World} {a : Option Addr} {ct : Nat} {ts : List M.Tk} (h : M.TIn w a ct ts) (hb : ∀ b off, a = some ⟨b, off, none⟩ → b < w.heap.size) (hr : M.Rt ts) (hl : ts.length ≤ 600) : TkIn w a ts := ⟨h.toks, hb, TOk.of hr h.bt, by omega⟩
end Go.Proofs.YtlakgbckopjelaaGreatDoor

