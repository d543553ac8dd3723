/- The reference's Opening of a stream whose first block is a dynamic one: contract. -/
import Derived.Test.YtlakgbckopjelaaGreatDoorRInf
import Derived.Test.YtlakgbckopjelaaGreatDoorG34DAns
import Derived.Test.YtlakgbckopjelaaGreatDoorG46DQSto
namespace Go.Proofs.YtlakgbckopjelaaGreatDoor
set_option maxRecDepth 100000
open Go Go.RowKit

theorem tokB_leng {S D : List Int} (hS : Fit S) (hD : Fit D) {t : M.Tk} (h : (t.2.1 = 0 ∧ 0 ≤ t.1 ∧ t.1 ≤ 255) ∨ (3 ≤ t.2.1 ∧ t.2.1 ≤ 258 ∧ 1 ≤ t.2.2 ∧ t.2.2 ≤ 32768)) : (tokB S D t).length ≤ 48 := by
  have l1 : ∀ v, (ln S v).toNat ≤ 15 := fun v => by have := ln_fit hS v; omega
  have l2 : ∀ v, (ln D v).toNat ≤ 15 := fun v => by have := ln_fit hD v; omega
  unfold tokB
  split
  · rw [mkB_length]; have := l1 t.1.toNat; simp only; omega
  · rename_i h0
    have h' := h.resolve_left (fun e => h0 e.1)
    have a1 := lmk_ok t.2.1.toNat (by omega)
    have a2 := bmk_ok t.2.2.toNat (by omega)
    have a3 := l1 (lmk t.2.1.toNat).1
    have a4 := l2 (bmk t.2.2.toNat).1
    rw [List.length_append, mkB_length, mkB_length]
    omega
theorem datB_leng {S D : List Int} (hS : Fit S) (hD : Fit D) : ∀ ts : List M.Tk, TOk ts → (datB S D ts).length ≤ 48 * ts.length + 15
  | [], _ => by
    have := ln_fit hS 256
    simp only [datB, List.flatMap_nil, List.nil_append, mkB_length, List.length_nil]
    omega
  | t :: r, h => by
    have h1 := tokB_leng hS hD (h t (List.mem_cons_self ..))
    have h2 := datB_leng hS hD r (fun x hx => h x (List.mem_cons_of_mem _ hx))
    rw [datB_cons, List.length_append, List.length_cons]
    omega
theorem datB_len {kk : Nat} {ts : List M.Tk} {S D : List Int} (h : BkOk kk ts S D) : (datB S D ts).length ≤ 48 * ts.length + 15 := datB_leng (check_good h.cs).fit (check_good h.cd).fit ts h.ok
/-- What Dynamic tells of tokens. -/
def DynX (ts : List M.Tk) (X : List Int) : Prop := ∃ S D H, BkOk 2 ts S D ∧ DynOk ts S D ∧ HdIs 2 S D H ∧ X = dataL (blB 2 true H S D ts)
/-- A dynamic block's beginning, as it is read. -/
theorem open_facts {ts : List M.Tk} {S D H : List Int} (hk : BkOk 2 ts S D) (hH : HdIs 2 S D H) : iTk (ib (dataL (blB 2 true H S D ts))) (8 * (dataL (blB 2 true H S D ts)).length) 0 1 = .ok (1, 1) ∧ iTk (ib (dataL (blB 2 true H S D ts))) (8 * (dataL (blB 2 true H S D ts)).length) 1 2 = .ok (3, 2) ∧ ∃ q, iHdr (ib (dataL (blB 2 true H S D ts))) (8 * (dataL (blB 2 true H S D ts)).length) 3 = .ok (q, (S, D)) := by
  have hB : BAt (ib (dataL (blB 2 true H S D ts))) (8 * (dataL (blB 2 true H S D ts)).length) 0 (blB 2 true H S D ts) := ⟨by rw [dataL_length]; omega, fun i hi => by rw [Nat.zero_add]; exact ib_data _ (bin_bl hH) i hi⟩
  have hle : ∀ i, ib (dataL (blB 2 true H S D ts)) i ≤ 1 := ib_le _
  generalize ib (dataL (blB 2 true H S D ts)) = b at hB hle
  generalize 8 * (dataL (blB 2 true H S D ts)).length = T at hB
  unfold blB at hB
  have h1 := hB.left.left
  have h2 := hB.left.right
  have h3 := hB.right.left
  rw [knd_length] at h3
  rw [bitsN_length] at h2
  rcases hH with ⟨h, _⟩ | ⟨_, hsd, F, many, hll, rfl⟩
  · omega
  · exact ⟨BAt.tk (x := 1) h1 (by decide), BAt.tk (x := 2) h2 (by decide), _, (hsd.read hk.cs hk.cd hll).read hle h3⟩
/-- What Dynamic told is short. -/
theorem dyn_short {ts : List M.Tk} {S D H : List Int} (hk : BkOk 2 ts S D) (hH : HdIs 2 S D H) (hl : ts.length ≤ 600) : (dataL (blB 2 true H S D ts)).length ≤ 100000 := by
  have h1 := hd_len hH
  have h2 := datB_len hk
  rw [dataL_length]
  unfold blB
  rw [List.length_append, List.length_append, knd_length]
  omega
set_option maxHeartbeats 4000000 in
theorem ropen_c (a0 : Option Addr) (cap0 : Nat) (zs : List Int) (w : World) (ht : Text w.heap.size w a0 zs.length zs) (hl : zs.length ≤ 100000) (l q : Nat) (S D : List Int)
    (h1 : iTk (ib zs) (8 * zs.length) 0 1 = .ok (1, l)) (h2 : iTk (ib zs) (8 * zs.length) 1 2 = .ok (3, 2)) (hh : iHdr (ib zs) (8 * zs.length) 3 = .ok (q, (S, D))) :
    Calls Tryz.prog 18 #[.slice a0 zs.length cap0] w fun x w' => ∃ (a1 a2 : Option Addr) (c1 c2 : Nat), x = .returned (.tuple #[.slice a1 S.length c1, .slice a2 D.length c2, .bool true]) ∧ Ints 0 w'.heap.size w' a1 S ∧ Ints 0 w'.heap.size w' a2 D ∧ Below w.heap.size w w' := by
  have HRW := hide (row_any w.heap.size a0 zs.length cap0 zs w ht (by omega) (Nat.le_refl _))
  obtain ⟨L, hLd⟩ : ∃ L, rowOf zs = L := ⟨_, rfl⟩
  have hLl : L.length = 8 * zs.length := by rw [← hLd, rowOf_length]
  have hL : L.length ≤ 1000000 := by omega
  have HB : Hid (Bin L) := by rw [← hLd]; exact bin_rowOf zs
  have hlb : ib zs = lb L := by rw [← hLd, lb_row]
  rw [hlb, ← hLl] at h1 h2 hh
  rw [hLd] at HRW
  have h3L : 3 ≤ L.length := by have := (iTk_got h2).2.1; omega
  have HC1 := fun (g : Nat) (a : Option Addr) (ac : Nat) w' (hi' : Ints w.heap.size g w' a L) => hide (rbits_got (o := none) (ac := ac) (ol := 0) (oc := 0) (m := (0 : Int)) hL HB.out hi' (by decide) h1 1 rfl)
  have HC2 := fun (g : Nat) (a : Option Addr) (ac : Nat) w' (hi' : Ints w.heap.size g w' a L) => hide (rbits_got (o := none) (ac := ac) (ol := 0) (oc := 0) (m := (0 : Int)) hL HB.out hi' (by decide) h2 2 rfl)
  have HC3 : Hid (∀ (g : Nat) (a : Option Addr) (ac : Nat) w', Ints w.heap.size g w' a L → Calls Tryz.prog 42 #[.agg (sA a L.length ac (3 : Nat) none 0 0 0 0)] w' fun x w'' => ∃ (a1 a2 : Option Addr) (c1 c2 : Nat), x = .returned (.tuple #[.agg (sA a L.length ac (q : Int) none 0 0 0 0), .slice a1 S.length c1, .slice a2 D.length c2]) ∧ Ints w'.heap.size w''.heap.size w'' a1 S ∧ Ints w'.heap.size w''.heap.size w'' a2 D ∧ Below w'.heap.size w' w'') := fun g a ac w' hi' => (rhead_c w.heap.size g a none ac 0 0 L 3 0 w' hL HB.out h3L hi').mono (by
    rw [hh]
    rintro x w'' ⟨hb', ⟨q', S', D', a1, a2, c1, c2, he, rfl, i1, i2⟩ | ⟨e', q', _, _, he, _⟩⟩
    · cases he; exact ⟨a1, a2, c1, c2, rfl, i1, i2, hb'⟩
    · cases he)
  clear ht hLd hLl hlb h1 h2 hh
  go_enter Tryz.func18, Tryz.ntmps18
  go_upto_region 3 with (go_at_call 40; refine HRW.out.mono ?_; rintro x w1 ⟨v1, rfl, ow, b1⟩; obtain ⟨a, ac, rfl, hcl⟩ := ow.form; have OW := hide ow; have B1 := hide b1; clear ow b1 hcl HRW)
  have H0 : Hid (JS w1.heap.size w (w1.alloc (.cells #[.slice a L.length ac, .int .i64 0, .slice none 0 0, .int .i64 0, .int .i64 0] 68)) a L ac 0 none 0 0 0 []) := JS.new OW.out B1.out
  obtain ⟨g, hg⟩ : ∃ g, g = w1.heap.size := ⟨_, rfl⟩
  rw [← hg] at H0 ⊢
  generalize w1.alloc (.cells #[.slice a L.length ac, .int .i64 0, .slice none 0 0, .int .i64 0, .int .i64 0] 68) = w2 at H0 ⊢
  have zz := H0.out.lt
  have c4 := cells_of H0.out.s0 4
  simp [sA] at c4
  clear OW B1 hg
  go_upto_region 4 with (first
    | (refine st_load rfl (.tmp 5) rfl g (by rfl) a none L.length ac 0 0 _ 0 0 (0, 0) H0.out.s0 ?_)
    | (go_at_call 41; refine (HC1 _ _ _ _ H0.out.row).out.mono ?_; rintro x wb ⟨rfl, hbb⟩; have J1 := hide (H0.out.stay hbb); clear hbb H0 HC1)
    | (refine st_store rfl (.tmp 5) (.tmp 15) rfl g (by rfl) a none L.length ac 0 0 _ 0 0 (by rfl) _ (by rfl) J1.out.s0 ?_; intro wz hgz hkz; have J2 := hide (J1.out.set hgz hkz); clear c4 zz; have c4 := cells_of J2.out.s0 4; simp [sA] at c4; have zz := J2.out.lt; clear hgz hkz J1))
  go_upto_region 5 with (first
    | (refine st_load rfl (.tmp 5) rfl g (by rfl) a none L.length ac 0 0 _ 0 0 (0, 0) J2.out.s0 ?_)
    | (go_at_call 41; refine (HC2 _ _ _ _ J2.out.row).out.mono ?_; rintro x wc ⟨rfl, hbc⟩; have J3 := hide (J2.out.stay hbc); clear hbc J2 HC2)
    | (refine st_store rfl (.tmp 5) (.tmp 20) rfl g (by rfl) a none L.length ac 0 0 _ 0 0 (by rfl) _ (by rfl) J3.out.s0 ?_; intro wy hgz hkz; have J4 := hide (J3.out.set hgz hkz); clear c4 zz; have c4 := cells_of J4.out.s0 4; simp [sA] at c4; have zz := J4.out.lt; clear hgz hkz J3))
  go_upto_region 7 with fail
  go_upto_region 8 with (first
    | (refine st_load rfl (.tmp 5) rfl g (by rfl) a none L.length ac 0 0 _ 0 0 (0, 0) J4.out.s0 ?_)
    | (go_at_call 42; refine (HC3.out _ _ _ _ J4.out.row).mono ?_; rintro x wd ⟨a1, a2, c1, c2, rfl, i1, i2, bd⟩; have J5 := hide (J4.out.stay bd); have I1 := hide (i1.wide (Nat.zero_le _) (Nat.le_refl _)); have I2 := hide (i2.wide (Nat.zero_le _) (Nat.le_refl _)); have HLO1 := hide i1; have HLO2 := hide i2; clear i1 i2 bd HC3)
    | (refine st_store rfl (.tmp 5) (.tmp 32) rfl g (by rfl) a none L.length ac 0 0 _ 0 0 (by rfl) _ (by rfl) J5.out.s0 ?_; intro wf hgz hkz; have K1 := hide ((HLO1.out.kept hkz (fun b h1 h2 e => by omega)).wide (Nat.zero_le _) hkz.size); have K2 := hide ((HLO2.out.kept hkz (fun b h1 h2 e => by omega)).wide (Nat.zero_le _) hkz.size); have J6 := hide (J5.out.set hgz hkz); clear c4 zz; have c4 := cells_of J6.out.s0 4; simp [sA] at c4; have zz := J6.out.lt; clear hgz hkz J5 I1 I2 HLO1 HLO2))
  go_quiet (fail)
  go_wp2_with fail
  go_returns
  exact ⟨a1, a2, c1, c2, rfl, K1.out, K2.out, ⟨J6.out.bel.os, J6.out.bel.tape, J6.out.bel.output, J6.out.bel.size, J6.out.bel.block⟩⟩
end Go.Proofs.YtlakgbckopjelaaGreatDoor
