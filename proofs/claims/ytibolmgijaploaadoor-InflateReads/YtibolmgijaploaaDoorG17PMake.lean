/- Several texts, laid together: PData, PMake. -/
import Derived.Test.YtibolmgijaploaaDoorPRunW
import Derived.Test.YtibolmgijaploaaDoorG12PState
import Derived.Test.YtibolmgijaploaaDoorG13PSpec
/- The stream's data: contract. -/
namespace Go.Proofs.YtibolmgijaploaaDoor
set_option maxRecDepth 100000
open Go Go.RowKit

theorem iOn_ok {r : Except Int (Nat × List Int)} {q : Nat} {o : List Int} (h : r = .ok (q, o)) : iOn r = .ok (q, (true, o)) := by rw [h]; rfl
theorem iOn_err {r : Except Int (Nat × List Int)} {e : Int} (h : r = .error e) : iOn r = .error e := by rw [h]; rfl

section
variable {B bs br : Nat} {a : Option Addr} {len cap : Nat} {zs : List Int} {m : Nat} {w : World} {p : Nat} {o : Option Addr} {oc : Nat} {fc : Value} {out : List Int}
/-- The stream's blocks, and what it told since, are none of the codes' blocks. -/
theorem SW.aw {lo hi : Nat} {ov : Value} {wx : World} (h : SW B bs br a len cap zs m fc w ov wx p o oc out) (ha : Aw lo hi bs br ov) (hhi : hi ≤ w.heap.size) : Aw lo hi bs br (.slice o out.length oc) := fun b h1 h2 hM => by
  rcases hM with e | e | e
  · exact ha b h1 h2 (.inl e)
  · exact ha b h1 h2 (.inr (.inl e))
  · exact ha b h1 h2 (.inr (.inr (h.old b e (by omega))))
theorem Aw.rd {lo hi : Nat} {ov : Value} (h : Aw lo hi bs br ov) : br < lo ∨ hi ≤ br := by
  rcases Nat.lt_or_ge br lo with h1 | h1
  · exact .inl h1
  · rcases Nat.lt_or_ge br hi with h2 | h2
    · exact absurd (.inr (.inl rfl)) (h br h1 h2)
    · exact .inr h2
set_option maxHeartbeats 8000000 in
theorem data_c (h : SS B bs br a len cap zs m w p o oc fc out) (hl8 : len * 8 ≤ 9223372036854775000) (hm : m ≤ 10000000) (ho : out.length ≤ m) {lo hi bk bc gl gc : Nat} {vo : Value} {N bc' gl' gc' : Nat} {vo' : Value} {N' : Nat} {S D : List Int} (hc : Cds lo hi w bk bc gl gc vo N bc' gl' gc' vo' N' S D) (ha : Aw lo hi bs br (.slice o out.length oc))
    (hg : Good S) (h3 : S.length ≤ 320) (hg' : Good D) (h3' : D.length ≤ 320) :
    Calls Tryd.prog 38 #[.pointer (some ⟨bs, 0, none⟩), .pointer (some ⟨bk, 0, none⟩)] w (DOk B bs br a len cap zs m fc w (.slice o out.length oc) (iDat S D (ib zs) (len * 8) m p out)) := by
  obtain ⟨j0, hj0, hj1, hj2, hj3⟩ := info_parts Tryd.info5
  obtain ⟨R, hR⟩ : ∃ R, R = iDat S D (ib zs) (len * 8) m p out := ⟨_, rfl⟩
  rw [← hR]
  have HR := hide hR
  have hm8 : m ≤ 100000000 := by omega
  have hbr := ha.rd
  have W0 := hide (SW.new h)
  have HCD := hide hc
  have HAW := hide ha
  have HG := hide hg
  have HG' := hide hg'
  have HKC : Hid (∀ wx p' o' oc' out', SW B bs br a len cap zs m fc w (.slice o out.length oc) wx p' o' oc' out' → Cds lo hi wx bk bc gl gc vo N bc' gl' gc' vo' N' S D) := fun wx p' o' oc' out' hw => hc.kept hw.kept ha
  have hpl := h.pl
  clear h hc ha hg hg' hR
  unfold iDat at HR
  go_enter Tryd.func38, Tryd.ntmps38
  go_wp2_with fail
  go_loopg [] (len * 8 - p) (fun gk wx => ∃ (p' : Nat) (out' : List Int) (_ : p' + gk = len * 8) (_ : out'.length ≤ m), Hid (R = iLoop (len * 8) (iOne S D (ib zs) (len * 8) m) p' out') ∧ Hid (SX B bs br a len cap zs m fc w (.slice o out.length oc) wx p' out'))
  case atStart => exact ⟨p, out, by omega, ho, HR, o, oc, W0.out⟩
  case round =>
    obtain ⟨p', out', hpg, ho', HR', HX⟩ := hrel
    clear HR W0
    obtain ⟨o', oc', hW⟩ := HX.out
    have hCd := HKC.out _ _ _ _ _ hW
    have hS := symbol_c hW.ss hl8 hCd.sym HG.out h3 hbr
    have HW := hide hW
    have k0 := cells_of hCd.block 0
    simp at k0
    have hkz := lt_of_block hCd.block
    have HCd := hide hCd
    clear hW HX hCd
    rcases h1 : iNx S (ib zs) (len * 8) p' with e | ⟨q1, v⟩
    · rw [h1] at hS
      have HS := hide (hS.mono fun _ _ => NOk.bad rfl)
      have HRR := hide (HR'.out.trans (iLoop_err (iOne_err h1)))
      clear hS h1 HR'
      go_wp2_with (go_at_call 54; refine HS.out.mono ?_; rintro x w1 ⟨rfl, k1, e1, e2⟩; have K1 := hide (HW.out.bad (Mv.rd k1)); clear k1)
      go_ret
      exact DBad.ok HRR.out ⟨rfl, K1.out, e1, e2⟩
    · obtain ⟨hv, hpq⟩ := iNx_lt h1
      rw [h1] at hS
      have HS := hide (hS.mono fun _ _ => NOk.got rfl)
      clear hS
      by_cases hend : v = 256
      · subst hend
        have HRR := hide (HR'.out.trans (iLoop_end (iOne_end h1)))
        clear h1 HR'
        go_wp2_with (go_at_call 54; refine HS.out.mono ?_; rintro x w1 ⟨rfl, k1, r1, l1⟩; have W1 := hide (HW.out.move k1 r1 l1); clear k1 r1)
        go_ret
        exact DGot.ok HRR.out W1.out.got
      · by_cases hrun : 256 < v
        · have hrun' : (256 : Int) < v := by omega
          have hend' : ¬ (v : Int) = 256 := by omega
          have hO := iOne_run (D := D) (most := m) (out := out') h1 hrun
          have hRun := fun w1 (s : SS B bs br a len cap zs m w1 q1 o' oc' fc out') (k : Kept (fun b => b = br) wr w1) => run_c s hl8 hm ho' (HCd.out.back.kept k (fun b h1 h2 e => by omega)) HG'.out h3' hbr v (by omega) (by omega)
          rcases h2 : iRun D (ib zs) (len * 8) m q1 v out' with e | ⟨q2, out2⟩
          · rw [h2] at hRun
            have HN := fun w1 s k => hide ((hRun w1 s k).mono fun _ _ => DOk.bad rfl)
            have HRR := hide (HR'.out.trans (iLoop_err (hO.trans (iOn_err h2))))
            clear hRun h1 h2 hO HR' hend hrun
            go_wp2_with (first
              | (go_at_call 54; refine HS.out.mono ?_; rintro x w1 ⟨rfl, k1, r1, l1⟩; have W1 := hide (HW.out.move k1 r1 l1); have K1 := hide k1; have C1 := HCd.out.kept k1 (fun b h1 h2 e => by omega); have d1 := cells_of C1.block 1; have z1 := lt_of_block C1.block; simp at d1; clear k1 r1 C1)
              | (go_at_call 55; refine (HN w1 W1.out.ss K1.out).out.mono ?_; rintro x w2 ⟨rfl, k2, e1, e2⟩; have K2 := hide (W1.out.bad k2); clear k2))
            go_ret
            exact DBad.ok HRR.out ⟨rfl, K2.out, e1, e2⟩
          · have ho2 := iRun_le h2
            have hgo := iGo_one S D (ib zs) (len * 8) m p' out' q2 _ (hO.trans (iOn_ok h2))
            rw [h2] at hRun
            have HN := fun w1 s k => hide ((hRun w1 s k).mono fun _ _ => DOk.got rfl)
            have HRR := hide (HR'.out.trans (iLoop_on (hO.trans (iOn_ok h2)) hgo.1 hgo.2))
            have hpq2 := hgo.1
            have hql2 := hgo.2
            clear hRun h1 h2 hO HR' hend hrun hgo
            cases gk with
            | zero => omega
            | succ g1 =>
              go_wp2_with (first
                | (go_at_call 54; refine HS.out.mono ?_; rintro x w1 ⟨rfl, k1, r1, l1⟩; have W1 := hide (HW.out.move k1 r1 l1); have K1 := hide k1; have C1 := HCd.out.kept k1 (fun b h1 h2 e => by omega); have d1 := cells_of C1.block 1; have z1 := lt_of_block C1.block; simp at d1; clear k1 r1 C1)
                | (go_at_call 55; refine (HN w1 W1.out.ss K1.out).out.mono ?_; intro x w2 h2; obtain rfl := h2.1; have X2 := hide (DGot.sw h2); clear h2))
              go_roundg (len * 8 - q2)
              case measure => omega
              case rel =>
                obtain ⟨o2, oc2, hW2⟩ := X2.out
                exact ⟨q2, out2, by omega, ho2, HRR, o2, oc2, W1.out.on hW2⟩
        · have hv6 : v < 256 := by omega
          have hrun' : ¬ (256 : Int) < v := by omega
          have hend' : ¬ (v : Int) = 256 := by omega
          by_cases hov : m ≤ out'.length
          · have HRR := hide (HR'.out.trans (iLoop_err (iOne_over (D := D) h1 hv6 hov)))
            clear h1 HR' hend hrun
            go_wp2_with (first
              | (go_at_call 54; refine HS.out.mono ?_; rintro x w1 ⟨rfl, k1, r1, l1⟩; have W1 := hide (HW.out.move k1 r1 l1); clear k1 r1)
              | (go_at_call 33; refine (room_no W1.out.ss hm8 ho' 1 (by omega)).mono ?_; rintro x w2 ⟨rfl, kk, rfl⟩))
            go_ret
            exact DBad.ok HRR.out ⟨rfl, (W1.out.drew kk).kept, by decide, by decide⟩
          · have hO := iOne_byte (D := D) (most := m) (out := out') h1 hv6 (by omega)
            have hgo := iGo_one S D (ib zs) (len * 8) m p' out' q1 _ hO
            have HRR := hide (HR'.out.trans (iLoop_on hO hgo.1 hgo.2))
            have hql2 := hgo.2
            have hwX : IntKind.u8.wrap (v : Int) = (v : Int) := by simp only [IntKind.wrap_u8]; omega
            clear h1 HR' hend hrun hO hgo
            cases gk with
            | zero => omega
            | succ g1 =>
              go_wp2_with (first
                | (go_at_call 54; refine HS.out.mono ?_; rintro x w1 ⟨rfl, k1, r1, l1⟩; have W1 := hide (HW.out.move k1 r1 l1); clear k1 r1)
                | (go_at_call 33; refine (room_yes W1.out.ss hm8 1 (by omega)).mono ?_; rintro x w2 ⟨rfl, kk, rfl⟩; have W2 := hide (W1.out.drew kk); have c2 := W2.out.ss.c1; have z2 : bs < w1.heap.size := lt_of_block W1.out.ss.s0)
                | (at_builtin; refine wpList_append_lies _ rfl _ _ 22 rfl B 5 j0 (.int .u8 0) 1 1 Tryd.underlying22 hj0 hj1 hj2 hj3 rfl (by decide) (.slice o' out'.length oc') out'.length (out'.map (Value.int .u8)) rfl (World.ownsRow.alloc W2.out.ss.owns _) ⟨w1.heap.size, 0, none⟩ 1 1 [.int .u8 (v : Int)] rfl rfl (one_byte' (w1.drewN kk) _ _ rfl) (by intro u hu; simp at hu; subst hu; rfl) (by omega) (by unfold maxLen; omega) (by omega) (by have := W2.out.ss.inb; simp; omega) (w1.heap.size + 1) (by simp) ?_; intro g4 c5 w4 hown' hgrow hat hlt4; have P9 := hide (W2.out.push hown' hgrow hat); have hA9 := W2.out.after hgrow; have d1 := cells_of hA9 1; have f2 := free_of hA9 1; have hz4 := lt_of_block hA9; simp [fA] at d1; clear hown' hgrow hat hlt4 hA9))
              go_roundg (len * 8 - q1)
              case measure => omega
              case rel => exact ⟨q1, out' ++ [(v : Int)], by omega, by simp; omega, HRR, _, _, P9.out⟩
end
end Go.Proofs.YtibolmgijaploaaDoor

/- fixedSymbols, fixedBacks, makeCodes: contracts. -/
namespace Go.Proofs.YtibolmgijaploaaDoor
set_option maxRecDepth 100000
open Go Go.RowKit

/-- A row filled up to k. -/
def fl (L : List Int) (k : Nat) : List Int := L.take k ++ List.replicate (L.length - k) 0
theorem fl_length (L : List Int) {k : Nat} (h : k ≤ L.length) : (fl L k).length = L.length := by unfold fl; simp; omega
theorem fl_zero (L : List Int) : fl L 0 = List.replicate L.length 0 := by simp [fl]
theorem fl_all (L : List Int) : fl L L.length = L := by simp [fl]
theorem fl_at (L : List Int) {k : Nat} (h : k < L.length) : (valA (fl L k))[k]? = some (.int .i64 0) := by
  rw [valA_at _ (by rw [fl_length L (by omega)]; exact h)]
  congr 2
  unfold ln fl List.getD
  rw [List.getElem?_append_right (by simp; omega), List.getElem?_replicate, if_pos (by simp; omega)]
  rfl
theorem fl_set (L : List Int) {k : Nat} (h : k < L.length) {x : Int} (hx : ln L k = x) : (valA (fl L k)).setIfInBounds k (.int .i64 x) = valA (fl L (k + 1)) := by
  subst hx
  rw [← Array.toList_inj]
  simp only [valA, Array.toList_setIfInBounds]
  apply List.ext_getElem?
  intro i
  have hl : ln L k = L[k] := by simp [ln, List.getD, h]
  rcases Nat.lt_trichotomy i k with hi | hi | hi
  · rw [List.getElem?_set_ne (by omega)]
    simp only [fl, List.getElem?_map]
    rw [List.getElem?_append_left (by simp; omega), List.getElem?_append_left (by simp; omega), List.getElem?_take_of_lt hi, List.getElem?_take_of_lt (by omega)]
  · subst hi
    rw [List.getElem?_set_self (by simp [fl]; omega)]
    simp only [fl, List.getElem?_map]
    rw [List.getElem?_append_left (by simp; omega), List.getElem?_take_of_lt (by omega), List.getElem?_eq_getElem h, hl]
    rfl
  · rw [List.getElem?_set_ne (by omega)]
    simp only [fl, List.getElem?_map]
    rw [List.getElem?_append_right (by simp; omega), List.getElem?_append_right (by simp; omega), List.getElem?_replicate, List.getElem?_replicate]
    simp only [List.length_take]
    congr 1
    by_cases h1 : i < L.length
    · rw [if_pos (by omega), if_pos (by omega)]
    · rw [if_neg (by omega), if_neg (by omega)]

theorem iFive_ln {k : Nat} (h : k < 32) : ln iFive k = 5 := by
  unfold ln iFive List.getD
  rw [List.getElem?_replicate, if_pos h]
  rfl
theorem iFix_ln {k : Nat} (h : k < 288) : ln iFix k = if k < 144 then 8 else if k < 256 then 9 else if k < 280 then 7 else 8 := by
  unfold ln iFix List.getD
  simp only [List.getElem?_append, List.length_append, List.length_replicate, List.getElem?_replicate]
  rcases (show k < 144 ∨ (144 ≤ k ∧ k < 256) ∨ (256 ≤ k ∧ k < 280) ∨ (280 ≤ k ∧ k < 288) by omega) with h1 | h1 | h1 | h1
  all_goals
    repeat (first | rw [if_pos (by omega)] | rw [if_neg (by omega)])
    try rfl
theorem iFix_length : iFix.length = 288 := by unfold iFix; simp only [List.length_append, List.length_replicate]
theorem iFive_length : iFive.length = 32 := by unfold iFive; simp only [List.length_replicate]
theorem iFix_check : check iFix true = 0 := by decide +kernel
theorem iFive_check : check iFive true = 0 := by decide +kernel

/-- A row of numbers, new. -/
def NewRow (w : World) (L : List Int) (e : Ending) (w' : World) : Prop := e = .returned (.slice (some ⟨w.heap.size, 0, none⟩) L.length L.length) ∧ w'.heap[w.heap.size]? = some (.cells (valA L) 3 (0, 0)) ∧ Below w.heap.size w w'

set_option maxHeartbeats 1000000 in
theorem fixedBacks_c (w : World) : Calls Tryd.prog 37 #[] w (NewRow w iFive) := by
  obtain ⟨i0, hi, hz0, hz1, hz2⟩ := info_parts Tryd.info3
  have hmk : ∀ W : World, (Instr.makeSlice 43 (.int .i64 32) (.int .i64 32)).run Tryd.prog W = .ok (.slice (some ⟨W.heap.size, 0, none⟩) 32 32) (W.alloc (.cells (valA (List.replicate 32 0)) 3)) := made_ints 32 i0 hi hz0 hz1 hz2 (by decide)
  have hlen : Hid (iFive.length = 32) := iFive_length
  have HZ := hide (fl_zero iFive)
  have HS : ∀ k, k < 32 → Hid ((valA (fl iFive k)).setIfInBounds k (.int .i64 5) = valA (fl iFive (k + 1))) := fun k hk => fl_set iFive (by rw [iFive_length]; exact hk) (iFive_ln hk)
  have HC : ∀ k, k < 32 → Hid ((valA (fl iFive k))[k]? = some (.int .i64 0)) := fun k hk => fl_at iFive (by rw [iFive_length]; exact hk)
  have HE := hide (fl_all iFive)
  rw [hlen.out] at HZ HE
  have HN : Hid (∀ e w', e = .returned (.slice (some ⟨w.heap.size, 0, none⟩) 32 32) → w'.heap[w.heap.size]? = some (.cells (valA (fl iFive 32)) 3 (0, 0)) → Below w.heap.size w w' → NewRow w iFive e w') := fun e w' h1 h2 h3 => ⟨by rw [h1, iFive_length], by rw [h2, HE.out], h3⟩
  generalize NewRow w iFive = Q at HN ⊢
  rw [← HZ.out] at hmk
  generalize fl iFive = F at hmk HS HC HN
  clear HZ HE hlen
  have HB0 : Hid (Below w.heap.size w (w.alloc (.cells (valA (F 0)) 3))) := (Below.refl _ w).alloc (Nat.le_refl _) _
  have HH0 : Hid ((w.alloc (.cells (valA (F 0)) 3)).heap[w.heap.size]? = some (.cells (valA (F 0)) 3 (0, 0))) := heap_new _ _
  go_enter Tryd.func37, Tryd.ntmps37
  go_wp2
  go_loopw [6] (fun i wr => ∃ k : Nat, k ≤ 32 ∧ i = .int .i64 k ∧ wr.heap[w.heap.size]? = some (.cells (valA (F k)) 3 (0, 0)) ∧ Below w.heap.size w wr) (fun i _ => 32 - (intOf i).toNat)
  case atStart => exact ⟨0, Nat.zero_le _, rfl, HH0.out, HB0.out⟩
  case round =>
    obtain ⟨k, hk, rfl, hh, hb⟩ := hrel
    have H1 := hide hh
    have H2 := hide hb
    by_cases hlt : k < 32
    · have c1 := cells_of hh k
      rw [(HC k hlt).out] at c1
      have f1 := free_of hh k
      have hz := lt_of_block hh
      have HSk := HS k hlt
      clear hh hb HS HC
      go_wp2
      go_roundw
      case rel => exact ⟨k + 1, by omega, by go_num, by rw [set_of H1.out k, HSk.out], H2.out.setCell (Nat.le_refl _) _⟩
      case measure => simp [intOf]; omega
    · obtain rfl : k = 32 := by omega
      clear hh hb
      go_wp2
      exact HN.out _ _ rfl H1.out H2.out

set_option maxHeartbeats 2000000 in
theorem fixedSymbols_c (w : World) : Calls Tryd.prog 36 #[] w (NewRow w iFix) := by
  obtain ⟨i0, hi, hz0, hz1, hz2⟩ := info_parts Tryd.info3
  have hmk : ∀ W : World, (Instr.makeSlice 43 (.int .i64 288) (.int .i64 288)).run Tryd.prog W = .ok (.slice (some ⟨W.heap.size, 0, none⟩) 288 288) (W.alloc (.cells (valA (List.replicate 288 0)) 3)) := made_ints 288 i0 hi hz0 hz1 hz2 (by decide)
  have hlen : Hid (iFix.length = 288) := iFix_length
  have HZ := hide (fl_zero iFix)
  have HS : ∀ k, k < 288 → Hid ((valA (fl iFix k)).setIfInBounds k (.int .i64 (if k < 144 then 8 else if k < 256 then 9 else if k < 280 then 7 else 8)) = valA (fl iFix (k + 1))) := fun k hk => fl_set iFix (by rw [iFix_length]; exact hk) (iFix_ln hk)
  have HC : ∀ k, k < 288 → Hid ((valA (fl iFix k))[k]? = some (.int .i64 0)) := fun k hk => fl_at iFix (by rw [iFix_length]; exact hk)
  have HE := hide (fl_all iFix)
  rw [hlen.out] at HZ HE
  have HN : Hid (∀ e w', e = .returned (.slice (some ⟨w.heap.size, 0, none⟩) 288 288) → w'.heap[w.heap.size]? = some (.cells (valA (fl iFix 288)) 3 (0, 0)) → Below w.heap.size w w' → NewRow w iFix e w') := fun e w' h1 h2 h3 => ⟨by rw [h1, iFix_length], by rw [h2, HE.out], h3⟩
  generalize NewRow w iFix = Q at HN ⊢
  rw [← HZ.out] at hmk
  generalize fl iFix = F at hmk HS HC HN
  clear HZ HE hlen
  have HB0 : Hid (Below w.heap.size w (w.alloc (.cells (valA (F 0)) 3))) := (Below.refl _ w).alloc (Nat.le_refl _) _
  have HH0 : Hid ((w.alloc (.cells (valA (F 0)) 3)).heap[w.heap.size]? = some (.cells (valA (F 0)) 3 (0, 0))) := heap_new _ _
  go_enter Tryd.func36, Tryd.ntmps36
  go_wp2
  go_loopw [6] (fun i wr => ∃ k : Nat, k ≤ 288 ∧ i = .int .i64 k ∧ wr.heap[w.heap.size]? = some (.cells (valA (F k)) 3 (0, 0)) ∧ Below w.heap.size w wr) (fun i _ => 288 - (intOf i).toNat)
  case atStart => exact ⟨0, Nat.zero_le _, rfl, HH0.out, HB0.out⟩
  case round =>
    obtain ⟨k, hk, rfl, hh, hb⟩ := hrel
    have H1 := hide hh
    have H2 := hide hb
    by_cases hlt : k < 288
    · have c1 := cells_of hh k
      rw [(HC k hlt).out] at c1
      have f1 := free_of hh k
      have hz := lt_of_block hh
      have HSk := HS k hlt
      clear hh hb HS HC
      by_cases h1 : k < 144
      case' pos => rw [if_pos h1] at HSk; have h2 : (k : Int) < 144 := by omega
      case' neg =>
        rw [if_neg h1] at HSk
        have h2 : ¬ (k : Int) < 144 := by omega
        by_cases h3 : k < 256
        case' pos => rw [if_pos h3] at HSk; have h4 : (k : Int) < 256 := by omega
        case' neg =>
          rw [if_neg h3] at HSk
          have h4 : ¬ (k : Int) < 256 := by omega
          by_cases h5 : k < 280
          case' pos => rw [if_pos h5] at HSk; have h6 : (k : Int) < 280 := by omega
          case' neg => rw [if_neg h5] at HSk; have h6 : ¬ (k : Int) < 280 := by omega
      all_goals
        go_wp2
        go_roundw
        case rel => exact ⟨k + 1, by omega, by go_num, by rw [set_of H1.out k, HSk.out], H2.out.setCell (Nat.le_refl _) _⟩
        case measure => simp [intOf]; omega
    · obtain rfl : k = 288 := by omega
      clear hh hb
      go_wp2
      exact HN.out _ _ rfl H1.out H2.out

theorem CodeAt.wide {lo hi lo' hi' : Nat} {w : World} {bc gl gc : Nat} {vo : Value} {N : Nat} {ls : List Int} (h : CodeAt lo hi w bc gl gc vo N ls) (h1 : lo' ≤ lo) (h2 : hi ≤ hi') : CodeAt lo' hi' w bc gl gc vo N ls := by
  have a := h.inb; have b := h.inl; have c := h.inc
  exact ⟨h.block, h.lens, h.codes, h.ord.low h1, fun g hg => by have := h.ordlt g hg; omega, h.long, by omega, by omega, by omega⟩
/-- Codes, wherever their parts lie. -/
def CdsX (lo hi : Nat) (w : World) (bk : Nat) (S D : List Int) : Prop := ∃ bc gl gc vo N bc' gl' gc' vo' N', Cds lo hi w bk bc gl gc vo N bc' gl' gc' vo' N' S D
theorem CdsX.kept {lo hi : Nat} {w w' : World} {bk : Nat} {S D : List Int} {M : Nat → Prop} (h : CdsX lo hi w bk S D) (k : Kept M w w') (hn : ∀ b, lo ≤ b → b < hi → ¬ M b) : CdsX lo hi w' bk S D := by
  obtain ⟨bc, gl, gc, vo, N, bc', gl', gc', vo', N', h⟩ := h
  exact ⟨bc, gl, gc, vo, N, bc', gl', gc', vo', N', h.kept k hn⟩
/-- What makeCodes answers. -/
def MkYes (w : World) (S D : List Int) (e : Ending) (w' : World) : Prop := ∃ bk, e = .returned (.tuple #[.pointer (some ⟨bk, 0, none⟩), .int .i64 0]) ∧ CdsX w.heap.size w'.heap.size w' bk S D ∧ Below w.heap.size w w'
set_option maxHeartbeats 1000000 in
theorem makeCodes_yes (B : Nat) (a a' : Option Addr) (cap cap' : Nat) (S D : List Int) (w : World) (hS : check S true = 0) (hD : check D true = 0) (hi : Ints 0 B w a S) (hi' : Ints 0 B w a' D) :
    Calls Tryd.prog 35 #[.slice a S.length cap, .slice a' D.length cap'] w (MkYes w S D) := by
  have HM := hide (make_ok B a cap S true w hS hi)
  have HN := fun w1 (k : Below w.heap.size w w1) => hide (make_ok B a' cap' D true w1 hD (hi'.stay k))
  clear hS hD hi hi'
  go_enter Tryd.func35, Tryd.ntmps35
  go_wp2_with (first
    | (go_at_call 53; refine HM.out.mono ?_; rintro e w1 ⟨bc, gl, gc, vo, N, rfl, c1, b1⟩; have C1 := hide c1; have B1 := hide b1; clear c1 b1 HM)
    | (go_at_call 53; refine (HN w1 B1.out).out.mono ?_; rintro e w2 ⟨bc', gl', gc', vo', N', rfl, c2, b2⟩; have C2 := hide c2; have B2 := hide b2; clear c2 b2 HN))
  go_ret2
  have hz1 := B1.out.size
  have hz2 := B2.out.size
  have hb : Below w2.heap.size w2 (w2.alloc (.cells #[.pointer (some ⟨bc, 0, none⟩), .pointer (some ⟨bc', 0, none⟩)] 91)) := (Below.refl _ w2).alloc (Nat.le_refl _) _
  have hsz : (w2.alloc (.cells #[.pointer (some ⟨bc, 0, none⟩), .pointer (some ⟨bc', 0, none⟩)] 91)).heap.size = w2.heap.size + 1 := by simp
  refine ⟨w2.heap.size, rfl, ⟨bc, gl, gc, vo, N, bc', gl', gc', vo', N', heap_new _ _, ?_, ?_, by omega, by omega⟩, (B1.out.trans (B2.out.mono hz1)).trans (hb.mono (by omega))⟩
  · exact ((C1.out.below B2.out (Nat.le_refl _)).below hb (by omega)).wide (Nat.le_refl _) (by omega)
  · exact (C2.out.below hb (Nat.le_refl _)).wide (by omega) (by omega)
theorem makeCodes_no (B : Nat) (a a' : Option Addr) (cap cap' : Nat) (S D : List Int) (w : World) (hSD : ¬ check S true = 0 ∨ ¬ check D true = 0) (hi : Ints 0 B w a S) (hi' : Ints 0 B w a' D) :
    Calls Tryd.prog 35 #[.slice a S.length cap, .slice a' D.length cap'] w fun e w' => e = .returned (.tuple #[.pointer none, .int .i64 63]) ∧ Below w.heap.size w w' := by
  by_cases hS : check S true = 0
  · have hD : ¬ check D true = 0 := hSD.resolve_left (fun h => h hS)
    have HM := hide (make_ok B a cap S true w hS hi)
    have HN := fun w1 (k : Below w.heap.size w w1) => hide (make_err B a' cap' D true w1 hD (hi'.stay k))
    clear hS hSD hi hi'
    generalize check D true = E at HN hD
    go_enter Tryd.func35, Tryd.ntmps35
    go_wp2_with (first
      | (go_at_call 53; refine HM.out.mono ?_; rintro e w1 ⟨bc, gl, gc, vo, N, rfl, c1, b1⟩; have B1 := hide b1; clear c1 b1 HM)
      | (go_at_call 53; refine (HN w1 B1.out).out.mono ?_; rintro e w2 ⟨rfl, b2⟩; have B2 := hide b2; clear b2 HN))
    go_ret2
    exact ⟨rfl, B1.out.trans (B2.out.mono B1.out.size)⟩
  · have HN := hide (make_err B a cap S true w hS hi)
    clear hSD hi hi'
    generalize check S true = E at HN hS
    go_enter Tryd.func35, Tryd.ntmps35
    go_wp2_with (go_at_call 53; refine HN.out.mono ?_; rintro e w2 ⟨rfl, b2⟩; have B2 := hide b2; clear b2 HN)
    go_ret2
    exact ⟨rfl, B2.out⟩
end Go.Proofs.YtibolmgijaploaaDoor
