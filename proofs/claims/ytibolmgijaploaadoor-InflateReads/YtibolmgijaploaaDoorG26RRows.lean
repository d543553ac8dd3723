/- Several texts, laid together: RFix, RRows. -/
import Derived.Test.YtibolmgijaploaaDoorG24RState
import Derived.Test.YtibolmgijaploaaDoorG17PMake
import Derived.Test.YtibolmgijaploaaDoorG25RNext
/- The reference's Fixed and five: contracts. -/
namespace Go.Proofs.YtibolmgijaploaaDoor
set_option maxRecDepth 100000
open Go Go.RowKit

theorem take_ln (L : List Int) {k : Nat} (h : k < L.length) : L.take (k + 1) = L.take k ++ [ln L k] := by
  rw [List.take_succ_eq_append_getElem h]
  simp [ln, List.getD, h]
theorem iFix_lnR {k : Nat} (h : k < 288) : ln iFix k = if 144 ≤ k ∧ k < 256 then 9 else if 256 ≤ k ∧ k < 280 then 7 else 8 := by
  unfold ln iFix List.getD
  simp only [List.getElem?_append, List.length_append, List.length_replicate, List.getElem?_replicate]
  rcases (show k < 144 ∨ (144 ≤ k ∧ k < 256) ∨ (256 ≤ k ∧ k < 280) ∨ (280 ≤ k ∧ k < 288) by omega) with h1 | h1 | h1 | h1
  all_goals
    repeat (first | rw [if_pos (by omega)] | rw [if_neg (by omega)])
    try rfl


set_option maxHeartbeats 1000000 in
set_option maxRecDepth 100000 in
theorem rfive_c (w : World) : Calls Tryd.prog 20 #[] w fun e w' => ∃ v, e = .returned v ∧ Owns w' w.heap.size v iFive ∧ Below w.heap.size w w' := by
  obtain ⟨i0, hi, hz0, hz1', hz2'⟩ := info_parts Tryd.info3
  have hlen : Hid (iFive.length = 32) := iFive_length
  have HV : ∀ k, k < 32 → Hid (iFive.take (k + 1) = iFive.take k ++ [5]) := fun k hk => by show _ = _; rw [take_ln _ (by rw [iFive_length]; exact hk), iFive_ln hk]
  have HL : ∀ k, k ≤ 32 → (iFive.take k).length ≤ 32 := fun k hk => by rw [List.length_take]; omega
  have HE : Hid (iFive.take 32 = iFive) := by show _ = _; rw [List.take_of_length_le]; rw [iFive_length]; omega
  generalize iFive = F at hlen HV HL HE ⊢
  go_enter Tryd.func20, Tryd.ntmps20
  go_wp2
  go_loopw [1, 2] (fun v i wr => ∃ k : Nat, k ≤ 32 ∧ i = .int .i64 k ∧ Owns wr w.heap.size v (F.take k) ∧ Below w.heap.size w wr) (fun _ i _ => 32 - (intOf i).toNat)
  case atStart => exact ⟨0, Nat.zero_le _, rfl, Owns.nil _ _, Below.refl _ _⟩
  case round =>
    obtain ⟨k, hk, rfl, hown, hbel⟩ := hrel
    have HR := hide hown
    have HB := hide hbel
    have hsz := hbel.size
    have hLl := HL k hk
    clear hown hbel
    by_cases hlt : k < 32
    · have HVk := HV k hlt
      clear HV HL
      generalize F.take k = L at HR hLl HVk
      go_wp2_with (at_builtin; refine wpList_append_own _ rfl _ _ 43 rfl w.heap.size 3 i0 (.int .i64 0) 1 8 Tryd.underlying43 hi hz0 hz1' hz2' rfl (by decide) _ _ _ rfl (World.ownsRow.alloc HR.out _) ⟨wr.heap.size, 0, none⟩ 1 1 [.int .i64 5] rfl rfl (one_int wr _) (by intro u hu; simp at hu; subst hu; rfl) (by unfold maxLen; omega) (by omega) (by simp; omega) ?_; intro v' w1 hown' hgrow hnil)
      go_roundw
      case rel =>
        refine ⟨k + 1, by omega, by go_num, ?_, ?_⟩
        · rw [HVk.out]; exact Owns.push hown'
        · exact (HB.out.alloc hsz _).grown hgrow (by simp; omega) (fun g e => (ownsRow_lt HR.out e).1)
      case measure => simp [intOf]; omega
    · obtain rfl : k = 32 := by omega
      rw [HE.out] at HR
      go_wp2
      go_ret
      exact ⟨_, rfl, HR.out, HB.out⟩

set_option maxHeartbeats 1000000 in
set_option maxRecDepth 100000 in
theorem rFixed_c (w : World) : Calls Tryd.prog 19 #[] w fun e w' => ∃ v, e = .returned v ∧ Owns w' w.heap.size v iFix ∧ Below w.heap.size w w' := by
  obtain ⟨i0, hi, hz0, hz1', hz2'⟩ := info_parts Tryd.info3
  have hlen : Hid (iFix.length = 288) := iFix_length
  have HV : ∀ k, k < 288 → Hid (iFix.take (k + 1) = iFix.take k ++ [if 144 ≤ k ∧ k < 256 then 9 else if 256 ≤ k ∧ k < 280 then 7 else 8]) := fun k hk => by show _ = _; rw [take_ln _ (by rw [iFix_length]; exact hk), iFix_lnR hk]
  have HL : ∀ k, k ≤ 288 → (iFix.take k).length ≤ 288 := fun k hk => by rw [List.length_take]; omega
  have HE : Hid (iFix.take 288 = iFix) := by show _ = _; rw [List.take_of_length_le]; rw [iFix_length]; omega
  generalize iFix = F at hlen HV HL HE ⊢
  go_enter Tryd.func19, Tryd.ntmps19
  go_wp2
  go_loopw [1, 2] (fun v i wr => ∃ k : Nat, k ≤ 288 ∧ i = .int .i64 k ∧ Owns wr w.heap.size v (F.take k) ∧ Below w.heap.size w wr) (fun _ i _ => 288 - (intOf i).toNat)
  case atStart => exact ⟨0, Nat.zero_le _, rfl, Owns.nil _ _, Below.refl _ _⟩
  case round =>
    obtain ⟨k, hk, rfl, hown, hbel⟩ := hrel
    have HR := hide hown
    have HB := hide hbel
    have hsz := hbel.size
    have hLl := HL k hk
    clear hown hbel
    by_cases hlt : k < 288
    · have HVk := HV k hlt
      clear HV HL
      generalize F.take k = L at HR hLl HVk
      by_cases h1 : 144 ≤ k ∧ k < 256
      case' pos =>
        rw [if_pos h1] at HVk
        obtain ⟨h1a, h1b⟩ := h1
        have h2 : (144 : Int) ≤ k := by omega
        have h3 : (k : Int) < 256 := by omega
        have h4 : ¬ (256 : Int) ≤ k := by omega
        go_wp2_with (at_builtin; refine wpList_append_own _ rfl _ _ 43 rfl w.heap.size 3 i0 (.int .i64 0) 1 8 Tryd.underlying43 hi hz0 hz1' hz2' rfl (by decide) _ _ _ rfl (World.ownsRow.alloc HR.out _) ⟨wr.heap.size, 0, none⟩ 1 1 [.int .i64 9] rfl rfl (one_int wr _) (by intro u hu; simp at hu; subst hu; rfl) (by unfold maxLen; omega) (by omega) (by simp; omega) ?_; intro v' w1 hown' hgrow hnil)
      case' neg =>
        rw [if_neg h1] at HVk
        by_cases h5 : 256 ≤ k ∧ k < 280
        case' pos =>
          rw [if_pos h5] at HVk
          obtain ⟨h5a, h5b⟩ := h5
          have h2 : (144 : Int) ≤ k := by omega
          have h3 : ¬ (k : Int) < 256 := by omega
          have h4 : (256 : Int) ≤ k := by omega
          have h6 : (k : Int) < 280 := by omega
          clear h1
          go_wp2_with (at_builtin; refine wpList_append_own _ rfl _ _ 43 rfl w.heap.size 3 i0 (.int .i64 0) 1 8 Tryd.underlying43 hi hz0 hz1' hz2' rfl (by decide) _ _ _ rfl (World.ownsRow.alloc HR.out _) ⟨wr.heap.size, 0, none⟩ 1 1 [.int .i64 7] rfl rfl (one_int wr _) (by intro u hu; simp at hu; subst hu; rfl) (by unfold maxLen; omega) (by omega) (by simp; omega) ?_; intro v' w1 hown' hgrow hnil)
        case' neg =>
          rw [if_neg h5] at HVk
          have h7 : k < 144 ∨ 280 ≤ k := by omega
          clear h1 h5
          rcases h7 with h7 | h7
          case' inl =>
            have h2 : ¬ (144 : Int) ≤ k := by omega
            have h4 : ¬ (256 : Int) ≤ k := by omega
            go_wp2_with (at_builtin; refine wpList_append_own _ rfl _ _ 43 rfl w.heap.size 3 i0 (.int .i64 0) 1 8 Tryd.underlying43 hi hz0 hz1' hz2' rfl (by decide) _ _ _ rfl (World.ownsRow.alloc HR.out _) ⟨wr.heap.size, 0, none⟩ 1 1 [.int .i64 8] rfl rfl (one_int wr _) (by intro u hu; simp at hu; subst hu; rfl) (by unfold maxLen; omega) (by omega) (by simp; omega) ?_; intro v' w1 hown' hgrow hnil)
          case' inr =>
            have h2 : (144 : Int) ≤ k := by omega
            have h3 : ¬ (k : Int) < 256 := by omega
            have h4 : (256 : Int) ≤ k := by omega
            have h6 : ¬ (k : Int) < 280 := by omega
            go_wp2_with (at_builtin; refine wpList_append_own _ rfl _ _ 43 rfl w.heap.size 3 i0 (.int .i64 0) 1 8 Tryd.underlying43 hi hz0 hz1' hz2' rfl (by decide) _ _ _ rfl (World.ownsRow.alloc HR.out _) ⟨wr.heap.size, 0, none⟩ 1 1 [.int .i64 8] rfl rfl (one_int wr _) (by intro u hu; simp at hu; subst hu; rfl) (by unfold maxLen; omega) (by omega) (by simp; omega) ?_; intro v' w1 hown' hgrow hnil)
      all_goals
        go_roundw
        case rel =>
          refine ⟨k + 1, by omega, by go_num, ?_, ?_⟩
          · rw [HVk.out]; exact Owns.push hown'
          · exact (HB.out.alloc hsz _).grown hgrow (by simp; omega) (fun g e => (ownsRow_lt HR.out e).1)
        case measure => simp [intOf]; omega
    · obtain rfl : k = 288 := by omega
      rw [HE.out] at HR
      go_wp2
      go_ret
      exact ⟨_, rfl, HR.out, HB.out⟩
end Go.Proofs.YtibolmgijaploaaDoor

/- The reference's Rows: contract. -/
namespace Go.Proofs.YtibolmgijaploaaDoor
set_option maxRecDepth 100000
open Go Go.RowKit

theorem gd_left {gs : List Nat} {g i : Nat} (h : i < gs.length) : (gs ++ [g]).getD i 0 = gs.getD i 0 := by simp only [List.getD, List.getElem?_append_left h]
theorem gd_right (gs : List Nat) (g : Nat) : (gs ++ [g]).getD gs.length 0 = g := by simp [List.getD]
def rVs (ls : List Int) (gs : List Nat) : List Value := (List.range gs.length).map fun i => .slice (some ⟨gs.getD i 0, 0, none⟩) (ln ls i).toNat (ln ls i).toNat
theorem rVs_push (ls : List Int) (gs : List Nat) (g n : Nat) (hn : ln ls gs.length = (n : Int)) : rVs ls (gs ++ [g]) = rVs ls gs ++ [.slice (some ⟨g, 0, none⟩) n n] := by
  unfold rVs
  rw [List.length_append, List.length_singleton, List.range_succ, List.map_append, List.map_singleton, gd_right, hn, Int.toNat_natCast]
  congr 1
  refine List.map_congr_left fun i hi => ?_
  rw [gd_left (List.mem_range.1 hi)]
/-- Rows of codes, being made. -/
structure RoAt (lo : Nat) (w : World) (v : Value) (ls : List Int) (gs : List Nat) : Prop where
  owns : w.ownsRow lo 43 1 v gs.length (rVs ls gs)
  rows : ∀ i, i < gs.length → lo ≤ gs.getD i 0 ∧ gs.getD i 0 < w.heap.size ∧ w.heap[gs.getD i 0]? = some (.cells (valA (rowL (cd ls i) (ln ls i).toNat)) 3 (0, 0))
theorem RoAt.empty (lo : Nat) (w : World) (ls : List Int) : RoAt lo w (.slice none 0 0) ls [] := ⟨World.ownsRow_nil _ _ _ _, fun i hi => by simp at hi⟩
theorem RoAt.push {lo g n : Nat} {w w1 w4 : World} {v v' : Value} {ls : List Int} {gs : List Nat} (h : RoAt lo w v ls gs) (hw : Below w.heap.size w w1) (hlo : lo ≤ w.heap.size) (hg : w.heap.size ≤ g) (hn : ln ls gs.length = (n : Int)) (hr : w1.heap[g]? = some (.cells (valA (rowL (cd ls gs.length) n)) 3 (0, 0)))
    (ho : w4.ownsRow lo 43 1 v' (gs.length + 1) (rVs ls gs ++ [.slice (some ⟨g, 0, none⟩) n n])) (hk : Kept (fun b => some b = v.ownBlock) w1 w4) : RoAt lo w4 v' ls (gs ++ [g]) := by
  have hgl := lt_of_block hr
  refine ⟨?_, fun i hi => ?_⟩
  · rw [rVs_push ls gs g n hn, List.length_append, List.length_singleton]; exact ho
  · have hsz := hk.size
    by_cases e : i = gs.length
    · subst e
      rw [gd_right, hn, Int.toNat_natCast]
      refine ⟨by omega, by omega, (hk.block g hgl fun e => ?_).trans hr⟩
      have := (ownsRow_lt h.owns e.symm).2
      omega
    · have hi' : i < gs.length := by simp at hi; omega
      obtain ⟨r1, r2, r3⟩ := h.rows i hi'
      have hb := (hw.block _ r2).trans r3
      rw [gd_left hi']
      refine ⟨r1, by have := hw.size; omega, (hk.block _ (by have := hw.size; omega) fun e => ?_).trans hb⟩
      exact ownsRow_apart h.owns r3 (by decide) e.symm
/-- Rows of codes, their blocks known whole. -/
def RAt2 (w : World) (ra : Option Addr) (ls : List Int) : Prop :=
  ls.length = 0 ∨ ∃ b cs, ra = some ⟨b, 0, none⟩ ∧ w.heap[b]? = some (.cells cs 43 (0, 0)) ∧ ∀ s, s < ls.length → ∃ g, cs[s]? = some (.slice (some ⟨g, 0, none⟩) (ln ls s).toNat (ln ls s).toNat) ∧ w.heap[g]? = some (.cells (valA (rowL (cd ls s) (ln ls s).toNat)) 3 (0, 0))
theorem RAt2.at_ {w : World} {ra : Option Addr} {ls : List Int} (h : RAt2 w ra ls) : RAt w.heap.size w ra ls := by
  rcases h with h | ⟨b, cs, ha, hb, hr⟩
  · exact .inl h
  · refine .inr ⟨b, 0, lt_of_block hb, ha, fun s hs => ?_⟩
    obtain ⟨g, h1, h2⟩ := hr s hs
    refine ⟨g, lt_of_block h2, ?_, h2⟩
    rw [Nat.zero_add, cells_of hb s]; exact h1
theorem RAt2.kept {M : Nat → Prop} {w w' : World} {ra : Option Addr} {ls : List Int} (h : RAt2 w ra ls) (k : Kept M w w') (hM : ∀ b cs (t : TypeId), w.heap[b]? = some (.cells cs t (0, 0)) → t ≠ 5 → t ≠ 46 → ¬ M b) : RAt2 w' ra ls := by
  rcases h with h | ⟨b, cs, ha, hb, hr⟩
  · exact .inl h
  · refine .inr ⟨b, cs, ha, k.heap hb (hM b _ _ hb (by decide) (by decide)), fun s hs => ?_⟩
    obtain ⟨g, h1, h2⟩ := hr s hs
    exact ⟨g, h1, k.heap h2 (hM g _ _ h2 (by decide) (by decide))⟩
theorem RAt2.stay {w w' : World} {ra : Option Addr} {ls : List Int} (h : RAt2 w ra ls) (k : Below w.heap.size w w') : RAt2 w' ra ls :=
  h.kept (Kept.of_below k) (fun b cs t hb _ _ e => by have := lt_of_block hb; omega)
theorem RoAt.at_ {lo : Nat} {w : World} {v : Value} {ls : List Int} {gs : List Nat} (h : RoAt lo w v ls gs) (hl : gs.length = ls.length) : ∃ a c, v = .slice a ls.length c ∧ RAt2 w a ls := by
  rcases h.owns.2 with ⟨rfl, h2⟩ | ⟨g, cap, cur, rfl, hg, hh, hr⟩
  · exact ⟨none, 0, by rw [← hl, h2], .inl (by omega)⟩
  · refine ⟨_, _, by rw [hl], .inr ⟨g, cur, rfl, hh, fun s hs => ?_⟩⟩
    obtain ⟨r1, r2, r3⟩ := h.rows s (by omega)
    refine ⟨gs.getD s 0, ?_, r3⟩
    have := World.ownsRow.cellAt h.owns s (by omega)
    rw [cells_of hh s] at this
    rw [this]
    simp [rVs, hl, hs]
theorem one_row (w : World) (x : Value) (n : Nat) (h : w.heap.size = n) : ∀ j u, [x][j]? = some u → (w.alloc (.cells #[x] 43)).cell? ((⟨n, 0, none⟩ : Addr).add j) = some u := by
  subst h; exact World.news_of_block (heap_new w (.cells #[x] 43))
theorem Tryd.infoInts : (Tryd.prog.info? 43).map (fun i => (i.zero, i.size, i.bytes)) = some (some (.slice none 0 0), 1, 24) := by kernel_rfl

def RowsOk (ls : List Int) (w : World) (e : Ending) (w' : World) : Prop := ∃ ra rc, e = .returned (.slice ra ls.length rc) ∧ RAt2 w' ra ls ∧ Below w.heap.size w w'

set_option maxHeartbeats 4000000 in
set_option maxRecDepth 100000 in
theorem rRows_c (B : Nat) (a : Option Addr) (cap : Nat) (ls : List Int) (w : World) (h3 : ls.length ≤ 320) (hg : Good ls) (hi_ : Ints 0 B w a ls) :
    Calls Tryd.prog 27 #[.slice a ls.length cap] w (RowsOk ls w) := by
  obtain ⟨i1, hi1, hy0, hy1', hy2'⟩ := info_parts Tryd.infoInts
  have HG : Hid (Good ls) := hg
  have HI : Hid (Ints 0 B w a ls) := hi_
  have HB0 : Hid (Below w.heap.size w (w.alloc (.cells (valA (codesL ls)) 3))) := (Below.refl _ w).alloc (Nat.le_refl _) _
  have HC0 : Hid ((w.alloc (.cells (valA (codesL ls)) 3)).heap[w.heap.size]? = some (.cells (valA (codesL ls)) 3 (0, 0))) := heap_new _ _
  have HSZ : Hid ((w.alloc (.cells (valA (codesL ls)) 3)).heap.size = w.heap.size + 1) := by show _ = _; simp
  clear hg hi_
  go_enter Tryd.func27, Tryd.ntmps27
  go_wp2_with (go_at_call 42; refine (refCodes_c B a cap ls _ h3 HG.out.fit HG.out.le HI.out).mono ?_; rintro e w1 ⟨rfl, rfl⟩)
  generalize w.alloc (.cells (valA (codesL ls)) 3) = w1 at HB0 HC0 HSZ ⊢
  go_loopw [4, 5] (fun v4 v5 wr => ∃ gs : List Nat, gs.length ≤ ls.length ∧ v5 = .int .i64 gs.length ∧ RoAt w1.heap.size wr v4 ls gs ∧ Below w1.heap.size w1 wr) (fun _ v5 _ => ls.length - (intOf v5).toNat)
  case atStart => exact ⟨[], by simp, rfl, RoAt.empty _ _ _, Below.refl _ _⟩
  case round =>
    obtain ⟨gs, hs, rfl, hro, hbel⟩ := hrel
    have HR := hide hro
    have BR : Hid (Below w1.heap.size w1 wr) := hbel
    have BW : Hid (Below w.heap.size w wr) := HB0.out.trans (hbel.mono HB0.out.size)
    have hsz1 := hbel.size
    clear hro hbel
    by_cases hlt : gs.length < ls.length
    · obtain ⟨b, off, _, _, hbw, rfl, hcell⟩ := HI.out.resolve_left (by omega)
      have hcs := (BW.out.cell (p := ⟨b, off + gs.length, none⟩) hbw).trans (hcell gs.length hlt)
      have hfit := ln_fit HG.out.fit gs.length
      obtain ⟨n, hn⟩ := Int.eq_ofNat_of_zero_le hfit.1
      have hn15 : n ≤ 15 := by omega
      have HLN := hide hn
      obtain ⟨c, hc, hcb⟩ : ∃ c : Nat, (if 1 ≤ ln ls gs.length then (cd ls gs.length : Int) else 0) = (c : Int) ∧ c ≤ 32768 := by
        by_cases h1 : 1 ≤ ln ls gs.length
        · refine ⟨cd ls gs.length, if_pos h1, ?_⟩
          have := (cd_lt HG.out.le HG.out.fit hlt h1).2
          have p15 : 2 ^ (ln ls gs.length).toNat ≤ 2 ^ 15 := Nat.pow_le_pow_right (by decide) (by omega)
          omega
        · exact ⟨0, if_neg h1, by omega⟩
      have hco : wr.cell? ⟨w.heap.size, gs.length, none⟩ = some (.int .i64 (c : Int)) := by
        rw [cells_of ((BR.out.block w.heap.size (by have := HSZ.out; omega)).trans HC0.out) gs.length, valA_at _ (by rw [codesL_length]; exact hlt), codesL_at ls hlt]
        rw [hc]
      have HCR : Hid (valA (rowL c n) = valA (rowL (cd ls gs.length) n)) := by
        by_cases h1 : 1 ≤ ln ls gs.length
        · rw [if_pos h1] at hc
          have : c = cd ls gs.length := by omega
          subst this; exact rfl
        · have : n = 0 := by omega
          subst this; exact rfl
      replace hcs : wr.cell? ⟨b, off + gs.length, none⟩ = some (.int .i64 (n : Int)) := by rw [hcs, hn]
      have hwl : w.heap.size < wr.heap.size := by have := BR.out.size; have := HSZ.out; omega
      have hnil : Hid (∃ a4 c4, u4 = Value.slice a4 gs.length c4) := own_form HR.out.owns
      obtain ⟨a4, c4, rfl⟩ := hnil.out
      have hwB : w.heap.size ≤ wr.heap.size := by omega
      have hbB : b < wr.heap.size := by omega
      have hfar : ∀ (o1 o2 : Obj) (w4 : World), (((wr.alloc o1).alloc o2).drew).grownBy w4 (Value.slice a4 gs.length c4).ownBlock → w4.cell? ⟨w.heap.size, gs.length, none⟩ = some (.int .i64 (c : Int)) ∧ w4.cell? ⟨b, off + gs.length, none⟩ = some (.int .i64 (n : Int)) := fun o1 o2 w4 hgr => by
        have hk := Kept.of_grown hgr
        have hW : Below wr.heap.size wr (((wr.alloc o1).alloc o2).drew) := (((Below.refl _ wr).alloc (Nat.le_refl _) _).alloc (by simp) _).drew
        have hz := hW.size
        have hap : ∀ x, x < w1.heap.size → ¬ some x = (Value.slice a4 gs.length c4).ownBlock := fun x hx e => by have := (ownsRow_lt HR.out.owns e.symm).1; omega
        have h1 := HSZ.out
        refine ⟨?_, ?_⟩
        · exact (hk.cell (p := ⟨w.heap.size, gs.length, none⟩) (by show w.heap.size < _; omega) (hap _ (by show w.heap.size < _; omega))).trans ((hW.cell (p := ⟨w.heap.size, gs.length, none⟩) (by show w.heap.size < _; omega)).trans hco)
        · exact (hk.cell (p := ⟨b, off + gs.length, none⟩) (by show b < _; omega) (hap _ (by show b < _; omega))).trans ((hW.cell (p := ⟨b, off + gs.length, none⟩) (by show b < _; omega)).trans hcs)
      clear hcell hfit hn hc hnil
      go_upto_region 6 with fail
      have i1' : (0 : Int) ≤ (gs.length : Int) := by omega
      have i2' : (gs.length : Int) < (ls.length : Int) := by omega
      have hOW : ∀ o1 o2 : Obj, (((wr.alloc o1).alloc o2).drew).ownsRow w1.heap.size 43 1 (.slice a4 gs.length c4) gs.length (rVs ls gs) := fun o1 o2 => ((World.ownsRow.alloc HR.out.owns o1).alloc o2).drew
      have hNews : ∀ (o1 : Obj) (x : Value), ∀ j u, [x][j]? = some u → (((wr.alloc o1).alloc (.cells #[x] 43)).drew).cell? ((⟨wr.heap.size + 1, 0, none⟩ : Addr).add j) = some u := fun o1 x => one_row (wr.alloc o1) x (wr.heap.size + 1) (by simp)
      go_region_held3 (fun w' => w'.cell? ⟨w.heap.size, gs.length, none⟩ = some (.int .i64 (c : Int)) ∧ w'.cell? ⟨b, off + gs.length, none⟩ = some (.int .i64 (n : Int))) (first | exact hfar _ _ _ HGR.out | go_keep | assumption) (first
        | (go_at_call 43; refine (refRow_c c n _ hn15 (by omega)).mono ?_; rintro e w2 ⟨rfl, rfl⟩)
        | (refine step_append_lies _ (by rfl) _ _ 58 (by rfl) w1.heap.size 43 i1 (.slice none 0 0) 1 24 Tryd.underlying58 hi1 hy0 hy1' hy2' rfl (by omega) _ gs.length (rVs ls gs) (by rfl) (hOW _ _) ⟨wr.heap.size + 1, 0, none⟩ 1 1 [.slice (some ⟨wr.heap.size, 0, none⟩) n n] (by rfl) rfl (hNews _ _) (by intro u hu; simp at hu; subst hu; rfl) (by omega) (by unfold maxLen; omega) (by omega) (by simp; omega) (wr.heap.size + 2) (by simp) ?_; intro g4 c5 w4 hown' hgrow hat hlt4; have HO4 := hide hown'; have HGR := hide hgrow; clear hown' hgrow hat hlt4))
      go_wp2
      go_roundw
      case rel =>
        have hk := Kept.of_grown HGR.out
        have hW : Below wr.heap.size wr (wr.alloc (.cells (valA (rowL c n)) 3)) := (Below.refl _ wr).alloc (Nat.le_refl _) _
        have hk2 : Kept (fun b => some b = (Value.slice a4 gs.length c4).ownBlock) (wr.alloc (.cells (valA (rowL c n)) 3)) w4 :=
          Kept.trans (M' := fun b => some b = (Value.slice a4 gs.length c4).ownBlock) (b := ((wr.alloc _).alloc _).drew) (Kept.drewN (Kept.alloc _ (Kept.refl _ _) _) 1) hk (fun _ _ h => h)
        refine ⟨gs ++ [wr.heap.size], by simp; omega, by simp, HR.out.push hW hsz1 (Nat.le_refl _) HLN.out (by rw [← HCR.out]; exact heap_new _ _) HO4.out hk2, ?_⟩
        exact ((((BR.out.alloc hsz1 _).alloc (by simp; omega) _).drew).grown HGR.out (by simp; omega) (fun g e => (ownsRow_lt HR.out.owns e).1))
      case measure => simp [intOf]; omega
    · have hl : gs.length = ls.length := by omega
      obtain ⟨a4, c4, rfl, hat⟩ := HR.out.at_ hl
      have HA := hide hat
      have hl' : ¬ (gs.length : Int) < (ls.length : Int) := by omega
      clear hat hl
      go_wp2
      go_ret
      exact ⟨_, _, rfl, HA.out, BW.out⟩
end Go.Proofs.YtibolmgijaploaaDoor
