/- Several texts, laid together: RRows, RSmall, IBits, ROut. -/
import Derived.Test.YtlakgbckopjelaaGreatDoorG35RFix
/- The reference's Rows: contract. -/
namespace Go.Proofs.YtlakgbckopjelaaGreatDoor
set_option maxRecDepth 100000
open Go Go.RowKit

theorem gd_left {gs : List Nat} {g i : Nat} (h : i < gs.length) : (gs ++ [g]).getD i 0 = gs.getD i 0 := by simp only [List.getD, List.getElem?_append_left h]
theorem gd_right (gs : List Nat) (g : Nat) : (gs ++ [g]).getD gs.length 0 = g := by simp [List.getD]
def rVs (ls : List Int) (gs : List Nat) : List Value := (List.range gs.length).map fun i => .slice (some ⟨gs.getD i 0, 0, none⟩) (ln ls i).toNat (ln ls i).toNat
theorem rVs_push (ls : List Int) (gs : List Nat) (g n : Nat) (hn : ln ls gs.length = (n : Int)) : rVs ls (gs ++ [g]) = rVs ls gs ++ [.slice (some ⟨g, 0, none⟩) n n] := by
  unfold rVs
  rw [List.length_append, List.length_singleton, List.range_succ, List.map_append, List.map_singleton, gd_right, hn, Int.toNat_natCast]
  congr 1
  refine List.map_congr_left fun i hi => ?_
  rw [gd_left (List.mem_range.1 hi)]
/-- Rows of codes, being made. -/
structure RoAt (lo : Nat) (w : World) (v : Value) (ls : List Int) (gs : List Nat) : Prop where
  owns : w.ownsRow lo 32 1 v gs.length (rVs ls gs)
  rows : ∀ i, i < gs.length → lo ≤ gs.getD i 0 ∧ gs.getD i 0 < w.heap.size ∧ w.heap[gs.getD i 0]? = some (.cells (valA (rowL (cd ls i) (ln ls i).toNat)) 3 (0, 0))
theorem RoAt.empty (lo : Nat) (w : World) (ls : List Int) : RoAt lo w (.slice none 0 0) ls [] := ⟨World.ownsRow_nil _ _ _ _, fun i hi => by simp at hi⟩
theorem RoAt.push {lo g n : Nat} {w w1 w4 : World} {v v' : Value} {ls : List Int} {gs : List Nat} (h : RoAt lo w v ls gs) (hw : Below w.heap.size w w1) (hlo : lo ≤ w.heap.size) (hg : w.heap.size ≤ g) (hn : ln ls gs.length = (n : Int)) (hr : w1.heap[g]? = some (.cells (valA (rowL (cd ls gs.length) n)) 3 (0, 0)))
    (ho : w4.ownsRow lo 32 1 v' (gs.length + 1) (rVs ls gs ++ [.slice (some ⟨g, 0, none⟩) n n])) (hk : Kept (fun b => some b = v.ownBlock) w1 w4) : RoAt lo w4 v' ls (gs ++ [g]) := by
  have hgl := lt_of_block hr
  refine ⟨?_, fun i hi => ?_⟩
  · rw [rVs_push ls gs g n hn, List.length_append, List.length_singleton]; exact ho
  · have hsz := hk.size
    by_cases e : i = gs.length
    · subst e
      rw [gd_right, hn, Int.toNat_natCast]
      refine ⟨by omega, by omega, (hk.block g hgl fun e => ?_).trans hr⟩
      have := (ownsRow_lt h.owns e.symm).2
      omega
    · have hi' : i < gs.length := by simp at hi; omega
      obtain ⟨r1, r2, r3⟩ := h.rows i hi'
      have hb := (hw.block _ r2).trans r3
      rw [gd_left hi']
      refine ⟨r1, by have := hw.size; omega, (hk.block _ (by have := hw.size; omega) fun e => ?_).trans hb⟩
      exact ownsRow_apart h.owns r3 (by decide) e.symm
/-- Rows of codes, their blocks known whole. -/
def RAt2 (w : World) (ra : Option Addr) (ls : List Int) : Prop :=
  ls.length = 0 ∨ ∃ b cs, ra = some ⟨b, 0, none⟩ ∧ w.heap[b]? = some (.cells cs 32 (0, 0)) ∧ ∀ s, s < ls.length → ∃ g, cs[s]? = some (.slice (some ⟨g, 0, none⟩) (ln ls s).toNat (ln ls s).toNat) ∧ w.heap[g]? = some (.cells (valA (rowL (cd ls s) (ln ls s).toNat)) 3 (0, 0))
theorem RAt2.at_ {w : World} {ra : Option Addr} {ls : List Int} (h : RAt2 w ra ls) : RAt w.heap.size w ra ls := by
  rcases h with h | ⟨b, cs, ha, hb, hr⟩
  · exact .inl h
  · refine .inr ⟨b, 0, lt_of_block hb, ha, fun s hs => ?_⟩
    obtain ⟨g, h1, h2⟩ := hr s hs
    refine ⟨g, lt_of_block h2, ?_, h2⟩
    rw [Nat.zero_add, cells_of hb s]; exact h1
theorem RAt2.kept {M : Nat → Prop} {w w' : World} {ra : Option Addr} {ls : List Int} (h : RAt2 w ra ls) (k : Kept M w w') (hM : ∀ b cs (t : TypeId), w.heap[b]? = some (.cells cs t (0, 0)) → t ≠ 5 → t ≠ 68 → ¬ M b) : RAt2 w' ra ls := by
  rcases h with h | ⟨b, cs, ha, hb, hr⟩
  · exact .inl h
  · refine .inr ⟨b, cs, ha, k.heap hb (hM b _ _ hb (by decide) (by decide)), fun s hs => ?_⟩
    obtain ⟨g, h1, h2⟩ := hr s hs
    exact ⟨g, h1, k.heap h2 (hM g _ _ h2 (by decide) (by decide))⟩
theorem RAt2.stay {w w' : World} {ra : Option Addr} {ls : List Int} (h : RAt2 w ra ls) (k : Below w.heap.size w w') : RAt2 w' ra ls :=
  h.kept (Kept.of_below k) (fun b cs t hb _ _ e => by have := lt_of_block hb; omega)
theorem RoAt.at_ {lo : Nat} {w : World} {v : Value} {ls : List Int} {gs : List Nat} (h : RoAt lo w v ls gs) (hl : gs.length = ls.length) : ∃ a c, v = .slice a ls.length c ∧ RAt2 w a ls := by
  rcases h.owns.2 with ⟨rfl, h2⟩ | ⟨g, cap, cur, rfl, hg, hh, hr⟩
  · exact ⟨none, 0, by rw [← hl, h2], .inl (by omega)⟩
  · refine ⟨_, _, by rw [hl], .inr ⟨g, cur, rfl, hh, fun s hs => ?_⟩⟩
    obtain ⟨r1, r2, r3⟩ := h.rows s (by omega)
    refine ⟨gs.getD s 0, ?_, r3⟩
    have := World.ownsRow.cellAt h.owns s (by omega)
    rw [cells_of hh s] at this
    rw [this]
    simp [rVs, hl, hs]
theorem one_row (w : World) (x : Value) (n : Nat) (h : w.heap.size = n) : ∀ j u, [x][j]? = some u → (w.alloc (.cells #[x] 32)).cell? ((⟨n, 0, none⟩ : Addr).add j) = some u := by
  subst h; exact World.news_of_block (heap_new w (.cells #[x] 32))
theorem Tryz.infoInts : (Tryz.prog.info? 32).map (fun i => (i.zero, i.size, i.bytes)) = some (some (.slice none 0 0), 1, 24) := by kernel_rfl

def RowsOk (ls : List Int) (w : World) (e : Ending) (w' : World) : Prop := ∃ ra rc, e = .returned (.slice ra ls.length rc) ∧ RAt2 w' ra ls ∧ Below w.heap.size w w'

set_option maxHeartbeats 4000000 in
set_option maxRecDepth 100000 in
theorem rRows_c (B : Nat) (a : Option Addr) (cap : Nat) (ls : List Int) (w : World) (h3 : ls.length ≤ 320) (hg : Good ls) (hi_ : Ints 0 B w a ls) :
    Calls Tryz.prog 85 #[.slice a ls.length cap] w (RowsOk ls w) := by
  obtain ⟨i1, hi1, hy0, hy1', hy2'⟩ := info_parts Tryz.infoInts
  have HG : Hid (Good ls) := hg
  have HI : Hid (Ints 0 B w a ls) := hi_
  have HB0 : Hid (Below w.heap.size w (w.alloc (.cells (valA (codesL ls)) 3))) := (Below.refl _ w).alloc (Nat.le_refl _) _
  have HC0 : Hid ((w.alloc (.cells (valA (codesL ls)) 3)).heap[w.heap.size]? = some (.cells (valA (codesL ls)) 3 (0, 0))) := heap_new _ _
  have HSZ : Hid ((w.alloc (.cells (valA (codesL ls)) 3)).heap.size = w.heap.size + 1) := by show _ = _; simp
  clear hg hi_
  go_enter Tryz.func85, Tryz.ntmps85
  go_wp2_with (go_at_call 33; refine (refCodes_c B a cap ls _ h3 HG.out.fit HG.out.le HI.out).mono ?_; rintro e w1 ⟨rfl, rfl⟩)
  generalize w.alloc (.cells (valA (codesL ls)) 3) = w1 at HB0 HC0 HSZ ⊢
  go_loopw [4, 5] (fun v4 v5 wr => ∃ gs : List Nat, gs.length ≤ ls.length ∧ v5 = .int .i64 gs.length ∧ RoAt w1.heap.size wr v4 ls gs ∧ Below w1.heap.size w1 wr) (fun _ v5 _ => ls.length - (intOf v5).toNat)
  case atStart => exact ⟨[], by simp, rfl, RoAt.empty _ _ _, Below.refl _ _⟩
  case round =>
    obtain ⟨gs, hs, rfl, hro, hbel⟩ := hrel
    have HR := hide hro
    have BR : Hid (Below w1.heap.size w1 wr) := hbel
    have BW : Hid (Below w.heap.size w wr) := HB0.out.trans (hbel.mono HB0.out.size)
    have hsz1 := hbel.size
    clear hro hbel
    by_cases hlt : gs.length < ls.length
    · obtain ⟨b, off, _, _, hbw, rfl, hcell⟩ := HI.out.resolve_left (by omega)
      have hcs := (BW.out.cell (p := ⟨b, off + gs.length, none⟩) hbw).trans (hcell gs.length hlt)
      have hfit := ln_fit HG.out.fit gs.length
      obtain ⟨n, hn⟩ := Int.eq_ofNat_of_zero_le hfit.1
      have hn15 : n ≤ 15 := by omega
      have HLN := hide hn
      obtain ⟨c, hc, hcb⟩ : ∃ c : Nat, (if 1 ≤ ln ls gs.length then (cd ls gs.length : Int) else 0) = (c : Int) ∧ c ≤ 32768 := by
        by_cases h1 : 1 ≤ ln ls gs.length
        · refine ⟨cd ls gs.length, if_pos h1, ?_⟩
          have := (cd_lt HG.out.le HG.out.fit hlt h1).2
          have p15 : 2 ^ (ln ls gs.length).toNat ≤ 2 ^ 15 := Nat.pow_le_pow_right (by decide) (by omega)
          omega
        · exact ⟨0, if_neg h1, by omega⟩
      have hco : wr.cell? ⟨w.heap.size, gs.length, none⟩ = some (.int .i64 (c : Int)) := by
        rw [cells_of ((BR.out.block w.heap.size (by have := HSZ.out; omega)).trans HC0.out) gs.length, valA_at _ (by rw [codesL_length]; exact hlt), codesL_at ls hlt]
        rw [hc]
      have HCR : Hid (valA (rowL c n) = valA (rowL (cd ls gs.length) n)) := by
        by_cases h1 : 1 ≤ ln ls gs.length
        · rw [if_pos h1] at hc
          have : c = cd ls gs.length := by omega
          subst this; exact rfl
        · have : n = 0 := by omega
          subst this; exact rfl
      replace hcs : wr.cell? ⟨b, off + gs.length, none⟩ = some (.int .i64 (n : Int)) := by rw [hcs, hn]
      have hwl : w.heap.size < wr.heap.size := by have := BR.out.size; have := HSZ.out; omega
      have hnil : Hid (∃ a4 c4, u4 = Value.slice a4 gs.length c4) := own_form HR.out.owns
      obtain ⟨a4, c4, rfl⟩ := hnil.out
      have hwB : w.heap.size ≤ wr.heap.size := by omega
      have hbB : b < wr.heap.size := by omega
      have hfar : ∀ (o1 o2 : Obj) (w4 : World), (((wr.alloc o1).alloc o2).drew).grownBy w4 (Value.slice a4 gs.length c4).ownBlock → w4.cell? ⟨w.heap.size, gs.length, none⟩ = some (.int .i64 (c : Int)) ∧ w4.cell? ⟨b, off + gs.length, none⟩ = some (.int .i64 (n : Int)) := fun o1 o2 w4 hgr => by
        have hk := Kept.of_grown hgr
        have hW : Below wr.heap.size wr (((wr.alloc o1).alloc o2).drew) := (((Below.refl _ wr).alloc (Nat.le_refl _) _).alloc (by simp) _).drew
        have hz := hW.size
        have hap : ∀ x, x < w1.heap.size → ¬ some x = (Value.slice a4 gs.length c4).ownBlock := fun x hx e => by have := (ownsRow_lt HR.out.owns e.symm).1; omega
        have h1 := HSZ.out
        refine ⟨?_, ?_⟩
        · exact (hk.cell (p := ⟨w.heap.size, gs.length, none⟩) (by show w.heap.size < _; omega) (hap _ (by show w.heap.size < _; omega))).trans ((hW.cell (p := ⟨w.heap.size, gs.length, none⟩) (by show w.heap.size < _; omega)).trans hco)
        · exact (hk.cell (p := ⟨b, off + gs.length, none⟩) (by show b < _; omega) (hap _ (by show b < _; omega))).trans ((hW.cell (p := ⟨b, off + gs.length, none⟩) (by show b < _; omega)).trans hcs)
      clear hcell hfit hn hc hnil
      go_upto_region 6 with fail
      have i1' : (0 : Int) ≤ (gs.length : Int) := by omega
      have i2' : (gs.length : Int) < (ls.length : Int) := by omega
      have hOW : ∀ o1 o2 : Obj, (((wr.alloc o1).alloc o2).drew).ownsRow w1.heap.size 32 1 (.slice a4 gs.length c4) gs.length (rVs ls gs) := fun o1 o2 => ((World.ownsRow.alloc HR.out.owns o1).alloc o2).drew
      have hNews : ∀ (o1 : Obj) (x : Value), ∀ j u, [x][j]? = some u → (((wr.alloc o1).alloc (.cells #[x] 32)).drew).cell? ((⟨wr.heap.size + 1, 0, none⟩ : Addr).add j) = some u := fun o1 x => one_row (wr.alloc o1) x (wr.heap.size + 1) (by simp)
      go_region_held3 (fun w' => w'.cell? ⟨w.heap.size, gs.length, none⟩ = some (.int .i64 (c : Int)) ∧ w'.cell? ⟨b, off + gs.length, none⟩ = some (.int .i64 (n : Int))) (first | exact hfar _ _ _ HGR.out | go_keep | assumption) (first
        | (go_at_call 34; refine (refRow_c c n _ hn15 (by omega)).mono ?_; rintro e w2 ⟨rfl, rfl⟩)
        | (refine step_append_lies _ (by rfl) _ _ 101 (by rfl) w1.heap.size 32 i1 (.slice none 0 0) 1 24 Tryz.underlying101 hi1 hy0 hy1' hy2' rfl (by omega) _ gs.length (rVs ls gs) (by rfl) (hOW _ _) ⟨wr.heap.size + 1, 0, none⟩ 1 1 [.slice (some ⟨wr.heap.size, 0, none⟩) n n] (by rfl) rfl (hNews _ _) (by intro u hu; simp at hu; subst hu; rfl) (by omega) (by unfold maxLen; omega) (by omega) (by simp; omega) (wr.heap.size + 2) (by simp) ?_; intro g4 c5 w4 hown' hgrow hat hlt4; have HO4 := hide hown'; have HGR := hide hgrow; clear hown' hgrow hat hlt4))
      go_wp2
      go_roundw
      case rel =>
        have hk := Kept.of_grown HGR.out
        have hW : Below wr.heap.size wr (wr.alloc (.cells (valA (rowL c n)) 3)) := (Below.refl _ wr).alloc (Nat.le_refl _) _
        have hk2 : Kept (fun b => some b = (Value.slice a4 gs.length c4).ownBlock) (wr.alloc (.cells (valA (rowL c n)) 3)) w4 :=
          Kept.trans (M' := fun b => some b = (Value.slice a4 gs.length c4).ownBlock) (b := ((wr.alloc _).alloc _).drew) (Kept.drewN (Kept.alloc _ (Kept.refl _ _) _) 1) hk (fun _ _ h => h)
        refine ⟨gs ++ [wr.heap.size], by simp; omega, by simp, HR.out.push hW hsz1 (Nat.le_refl _) HLN.out (by rw [← HCR.out]; exact heap_new _ _) HO4.out hk2, ?_⟩
        exact ((((BR.out.alloc hsz1 _).alloc (by simp; omega) _).drew).grown HGR.out (by simp; omega) (fun g e => (ownsRow_lt HR.out.owns e).1))
      case measure => simp [intOf]; omega
    · have hl : gs.length = ls.length := by omega
      obtain ⟨a4, c4, rfl, hat⟩ := HR.out.at_ hl
      have HA := hide hat
      have hl' : ¬ (gs.length : Int) < (ls.length : Int) := by omega
      clear hat hl
      go_wp2
      go_ret
      exact ⟨_, _, rfl, HA.out, BW.out⟩
end Go.Proofs.YtlakgbckopjelaaGreatDoor

/- The reference's extra, further, power, Long and Far: contracts. -/
namespace Go.Proofs.YtlakgbckopjelaaGreatDoor
set_option maxRecDepth 100000
open Go Go.RowKit

set_option maxRecDepth 100000 in
theorem rextra_c (v : Nat) (w : World) (hv : v ≤ 285) : Calls Tryz.prog 66 #[.int .i64 (v : Int)] w fun x w' => x = .returned (.int .i64 ((if v < 265 then 0 else (v - 261) / 4 : Nat) : Int)) ∧ w' = w := by
  by_cases h : v < 265
  · rw [if_pos h]
    go_enter Tryz.func66, Tryz.ntmps66
    go_wp2
    go_ret
    exact ⟨rfl, rfl⟩
  · rw [if_neg h]
    have h1 : ((v : Int) - 261).tdiv 4 = ((v - 261) / 4 : Nat) := by
      rw [Int.tdiv_eq_ediv_of_nonneg (by omega)]; omega
    have h1' : ((v : Int) - 261) / 4 = ((v - 261) / 4 : Nat) := by omega
    go_enter Tryz.func66, Tryz.ntmps66
    go_wp2
    go_ret
    exact ⟨by go_num, rfl⟩
theorem rfurther_c (v : Nat) (w : World) (hv : v ≤ 31) : Calls Tryz.prog 68 #[.int .i64 (v : Int)] w fun x w' => x = .returned (.int .i64 (iDx v : Int)) ∧ w' = w := by
  unfold iDx
  by_cases h : v < 4
  · rw [if_pos h]
    go_enter Tryz.func68, Tryz.ntmps68
    go_wp2
    go_ret
    exact ⟨rfl, rfl⟩
  · rw [if_neg h]
    go_enter Tryz.func68, Tryz.ntmps68
    go_wp2
    go_ret
    exact ⟨by go_num, rfl⟩
theorem rpower_c (n : Nat) (w : World) (hn : n ≤ 16) : Calls Tryz.prog 65 #[.int .i64 (n : Int)] w fun x w' => x = .returned (.int .i64 ((2 ^ n : Nat) : Int)) ∧ w' = w := by
  go_enter Tryz.func65, Tryz.ntmps65
  go_wp2
  go_loop [3, 4] (fun q i => ∃ k : Nat, k ≤ n ∧ i = .int .i64 k ∧ q = .int .i64 ((2 ^ k : Nat) : Int)) (fun _ i => n - (intOf i).toNat)
  case atStart => exact ⟨0, by omega, rfl, rfl⟩
  case round =>
    obtain ⟨k, hk, rfl, rfl⟩ := hrel
    by_cases hlt : k < n
    · have h5 : Hid (2 ^ (k + 1) = 2 ^ k * 2) := Nat.pow_succ 2 k
      have h2 : 2 ^ k ≤ 2 ^ 16 := Nat.pow_le_pow_right (by decide) (by omega)
      generalize 2 ^ k = Q at h2 h5 ⊢
      go_wp2
      go_round
      case rel => exact ⟨k + 1, by omega, by go_num, by rw [h5.out]; go_num⟩
      case measure => simp [intOf]; omega
    · obtain rfl : k = n := by omega
      obtain ⟨Q, hQ⟩ : ∃ Q, Q = 2 ^ k := ⟨_, rfl⟩
      rw [← hQ]
      have HQ := hide hQ
      clear hQ
      go_wp2
      go_ret
      exact ⟨by rw [HQ.out]; rfl, rfl⟩

/-- How many bits more, as the reference has it. -/
def rX (v : Nat) : Nat := if v < 265 then 0 else (v - 261) / 4
theorem rX_le {v : Nat} (hv : v ≤ 285) : rX v ≤ 6 := by unfold rX; split <;> omega
theorem rX_eq {v : Nat} (hv : v ≤ 284) : rX v = iLx v := by unfold rX iLx; split; rfl; rw [if_neg (by omega)]
def rLs (k : Nat) : Nat := 3 + ((List.range k).map fun u => 2 ^ rX (257 + u)).sum
theorem rLs_succ (k : Nat) : rLs (k + 1) = rLs k + 2 ^ rX (257 + k) := by unfold rLs; rw [List.range_succ]; simp; omega
theorem rLs_le (k : Nat) (h : k ≤ 28) : rLs k ≤ 3 + 64 * k := by
  induction k with
  | zero => simp [rLs]
  | succ k ih =>
    have := ih (by omega)
    have h2 : 2 ^ rX (257 + k) ≤ 2 ^ 6 := Nat.pow_le_pow_right (by decide) (rX_le (by omega))
    rw [rLs_succ]; omega
theorem rLs_eq {v : Nat} (h : v ≤ 284) : rLs (v - 257) = iLb v := by
  have e : (List.range (v - 257)).map (fun u => 2 ^ rX (257 + u)) = (List.range (v - 257)).map (fun u => 2 ^ iLx (257 + u)) := by
    refine List.map_congr_left fun u hu => ?_
    have := List.mem_range.1 hu
    rw [rX_eq (by omega)]
  unfold rLs iLb
  rw [if_neg (by omega), e]
theorem iDb_succ (k : Nat) : iDb (k + 1) = iDb k + 2 ^ iDx k := by unfold iDb; rw [List.range_succ]; simp; omega
theorem iDx_leR {v : Nat} (hv : v ≤ 29) : iDx v ≤ 13 := by unfold iDx; split <;> omega
theorem iDb_leR (k : Nat) (h : k ≤ 30) : iDb k ≤ 1 + 8192 * k := by
  induction k with
  | zero => simp [iDb]
  | succ k ih =>
    have := ih (by omega)
    have h2 : 2 ^ iDx k ≤ 2 ^ 13 := Nat.pow_le_pow_right (by decide) (iDx_leR (by omega))
    rw [iDb_succ]; omega

set_option maxRecDepth 100000 in
theorem rLong_c (v : Nat) (w : World) (h1 : 257 ≤ v) (h2 : v ≤ 285) : Calls Tryz.prog 35 #[.int .i64 (v : Int)] w fun x w' => x = .returned (.tuple #[.int .i64 (iLb v : Int), .int .i64 (iLx v : Int)]) ∧ w' = w := by
  by_cases h5 : v = 285
  · subst h5
    go_enter Tryz.func35, Tryz.ntmps35
    go_wp2
    go_ret2
    exact ⟨rfl, rfl⟩
  · have H1 : Hid (rLs (v - 257) = iLb v) := rLs_eq (by omega)
    have H2 : Hid (rX v = iLx v) := rX_eq (by omega)
    rw [← H1.out, ← H2.out]
    have HX : ∀ (k : Nat) (w' : World), k ≤ 285 → Hid (Calls Tryz.prog 66 #[.int .i64 (k : Int)] w' fun x w'' => x = .returned (.int .i64 (rX k : Int)) ∧ w'' = w') := fun k w' hk => rextra_c k w' hk
    have HS : ∀ k, 257 ≤ k → Hid (rLs (k + 1 - 257) = rLs (k - 257) + 2 ^ rX k) := fun k hk => by
      have := rLs_succ (k - 257)
      rw [show 257 + (k - 257) = k by omega] at this
      rw [show k + 1 - 257 = k - 257 + 1 by omega]
      exact this
    have HLe : ∀ k, k ≤ 285 → rLs (k - 257) ≤ 2000 := fun k hk => by have := rLs_le (k - 257) (by omega); omega
    have HXl : ∀ k, k ≤ 285 → rX k ≤ 6 := fun k hk => rX_le hk
    have h5' : ¬ (v : Int) = 285 := by omega
    have h5b : ((v : Int) == 285) = false := by simp; omega
    clear H1 H2
    go_enter Tryz.func35, Tryz.ntmps35
    go_wp2
    go_loop [4, 5] (fun q i => ∃ k : Nat, 257 ≤ k ∧ k ≤ v ∧ i = .int .i64 (k : Int) ∧ q = .int .i64 (rLs (k - 257) : Int)) (fun _ i => v - (intOf i).toNat)
    case atStart => exact ⟨257, by omega, by omega, rfl, rfl⟩
    case round =>
      obtain ⟨k, hk0, hk, rfl, rfl⟩ := hrel
      have hle := HLe k (by omega)
      have hxl := HXl k (by omega)
      have HXk := fun w' => HX k w' (by omega)
      have hs := HS k hk0
      by_cases hlt : k < v
      · clear HX HS HLe HXl
        have HP : ∀ w', Hid (Calls Tryz.prog 65 #[.int .i64 (rX k : Int)] w' fun x w'' => x = .returned (.int .i64 ((2 ^ rX k : Nat) : Int)) ∧ w'' = w') := fun w' => rpower_c (rX k) w' (by omega)
        have h2 : 2 ^ rX k ≤ 2 ^ 6 := Nat.pow_le_pow_right (by decide) (by omega)
        generalize 2 ^ rX k = Q at HP h2 hs
        generalize rX k = X at HP HXk hxl
        generalize rLs (k - 257) = R at hle hs ⊢
        go_wp2_with (first
          | (go_at_call 66; refine (HXk _).out.mono ?_; rintro x w' ⟨rfl, rfl⟩)
          | (go_at_call 65; refine (HP _).out.mono ?_; rintro x w' ⟨rfl, rfl⟩))
        go_round
        case rel => exact ⟨k + 1, by omega, by omega, by go_num, by rw [hs.out]; go_num⟩
        case measure => simp [intOf]; omega
      · obtain rfl : k = v := by omega
        go_wp2_with (go_at_call 66; refine (HXk _).out.mono ?_; rintro x w' ⟨rfl, rfl⟩)
        go_ret2
        exact ⟨rfl, rfl⟩

set_option maxRecDepth 100000 in
theorem rFar_c (v : Nat) (w : World) (hv : v ≤ 29) : Calls Tryz.prog 37 #[.int .i64 (v : Int)] w fun x w' => x = .returned (.tuple #[.int .i64 (iDb v : Int), .int .i64 (iDx v : Int)]) ∧ w' = w := by
  have HX : ∀ (k : Nat) (w' : World), k ≤ 29 → Hid (Calls Tryz.prog 68 #[.int .i64 (k : Int)] w' fun x w'' => x = .returned (.int .i64 (iDx k : Int)) ∧ w'' = w') := fun k w' hk => rfurther_c k w' (by omega)
  have HS : ∀ k, Hid (iDb (k + 1) = iDb k + 2 ^ iDx k) := fun k => iDb_succ k
  have HLe : ∀ k, k ≤ 30 → iDb k ≤ 1 + 8192 * k := fun k hk => iDb_leR k hk
  have HXl : ∀ k, k ≤ 29 → iDx k ≤ 13 := fun k hk => iDx_leR hk
  go_enter Tryz.func37, Tryz.ntmps37
  go_wp2
  go_loop [4, 5] (fun q i => ∃ k : Nat, k ≤ v ∧ i = .int .i64 (k : Int) ∧ q = .int .i64 (iDb k : Int)) (fun _ i => v - (intOf i).toNat)
  case atStart => exact ⟨0, by omega, rfl, rfl⟩
  case round =>
    obtain ⟨k, hk, rfl, rfl⟩ := hrel
    have hle := HLe k (by omega)
    have hxl := HXl k (by omega)
    have HXk := fun w' => HX k w' (by omega)
    have hs := HS k
    by_cases hlt : k < v
    · clear HX HS HLe HXl
      have HP : ∀ w', Hid (Calls Tryz.prog 65 #[.int .i64 (iDx k : Int)] w' fun x w'' => x = .returned (.int .i64 ((2 ^ iDx k : Nat) : Int)) ∧ w'' = w') := fun w' => rpower_c (iDx k) w' (by omega)
      have h2 : 2 ^ iDx k ≤ 2 ^ 13 := Nat.pow_le_pow_right (by decide) (by omega)
      generalize 2 ^ iDx k = Q at HP h2 hs
      generalize iDx k = X at HP HXk hxl
      generalize iDb k = R at hle hs ⊢
      go_wp2_with (first
        | (go_at_call 68; refine (HXk _).out.mono ?_; rintro x w' ⟨rfl, rfl⟩)
        | (go_at_call 65; refine (HP _).out.mono ?_; rintro x w' ⟨rfl, rfl⟩))
      go_round
      case rel => exact ⟨k + 1, by omega, by go_num, by rw [hs.out]; go_num⟩
      case measure => simp [intOf]; omega
    · obtain rfl : k = v := by omega
      go_wp2_with (go_at_call 68; refine (HXk _).out.mono ?_; rintro x w' ⟨rfl, rfl⟩)
      go_ret2
      exact ⟨rfl, rfl⟩
end Go.Proofs.YtlakgbckopjelaaGreatDoor

/- The bits of bytes as the program's reader and as the reference tell them; the reference's bits and next over the plain functions; its Order. -/
namespace Go.Proofs.YtlakgbckopjelaaGreatDoor
set_option maxRecDepth 100000
open Go Go.RowKit

theorem lb_row (zs : List Int) : lb (rowOf zs) = ib zs := by
  funext i
  have := congrFun (row_bits zs 0) i
  simp only [bn, bz, Nat.zero_add] at this
  exact this

/-- The reference's next, of a stream without an error. -/
theorem rnext_c (lo hi B : Nat) (a o ra : Option Addr) (ac ol oc rc : Nat) (ls L : List Int) (p : Nat) (m : Int) (w : World) (h3 : ls.length ≤ 320) (hg : Good ls) (hL : L.length ≤ 1000000) (hb : Bin L) (hp : p ≤ L.length) (hl : Ints lo hi w a L) (hr : RAt B w ra ls) (hBw : B ≤ w.heap.size) :
    Calls Tryz.prog 86 #[.agg (sA a L.length ac p o ol oc m 0), .slice ra ls.length rc] w fun x w' => ((∃ q v, iNx ls (lb L) L.length p = .ok (q, v) ∧ v < ls.length ∧ x = .returned (.tuple #[.agg (sA a L.length ac (q : Int) o ol oc m 0), .int .i64 (v : Int)])) ∨ (∃ e, (e = 60 ∨ e = 63) ∧ iNx ls (lb L) L.length p = .error e ∧ x = .returned (.tuple #[.agg (sA a L.length ac p o ol oc m e), .int .i64 0]))) ∧ Below w.heap.size w w' := by
  obtain ⟨N, hN⟩ := longest_ex hg.fit
  refine (rnext_is lo hi B a o ra ac ol oc rc ls L p N m w h3 hg hN hL hb hp hl hr hBw).mono ?_
  rintro x w' ⟨s, n, err, hx, rfl, h2⟩
  refine ⟨?_, h2⟩
  rcases iNx_of (b := lb L) (lb_le hb) (T := L.length) (p := p) hN hx with ⟨rfl, hh, e⟩ | ⟨rfl, e⟩ | ⟨rfl, e⟩
  · exact .inl ⟨_, _, e, hh.2.1, rfl⟩
  · rcases hx with ⟨h0, _⟩ | ⟨rfl, rfl, _⟩
    · exact absurd h0 (by decide)
    · exact .inr ⟨60, .inl rfl, e, rfl⟩
  · rcases hx with ⟨h0, _⟩ | ⟨rfl, rfl, _⟩
    · exact absurd h0 (by decide)
    · exact .inr ⟨63, .inr rfl, e, rfl⟩

theorem rOrder_c (w : World) : Calls Tryz.prog 71 #[] w fun x w' => x = .returned (.slice (some ⟨w.heap.size, 0, none⟩) 19 19) ∧ w' = w.alloc (.cells (valA (iOrd.map Int.ofNat)) 3) := by
  go_enter Tryz.func71, Tryz.ntmps71
  go_wp2
  go_ret
  exact ⟨rfl, rfl⟩
end Go.Proofs.YtlakgbckopjelaaGreatDoor

/- A call of the reference that tells bytes: its own state, its result's cell, and what was told, which may lie in an elder block. -/
namespace Go.Proofs.YtlakgbckopjelaaGreatDoor
set_option maxRecDepth 100000
open Go Go.RowKit

/-- In a call that began in w with the value ov for what was told: the state lies at the first block, the result's cell at the second; nothing elder is written but what ov owns. -/
structure OS (B0 : Nat) (w wr : World) (ov : Value) (a : Option Addr) (al ac : Nat) (p : Int) (o : Option Addr) (oc : Nat) (m e : Int) (out : List Int) (rv : Array Value) : Prop where
  s0 : wr.heap[w.heap.size]? = some (.cells (sA a al ac p o out.length oc m e) 68 (0, 0))
  s1 : wr.heap[w.heap.size + 1]? = some (.cells rv 68 (0, 0))
  owns : OwnsB wr B0 (.slice o out.length oc) out
  kept : Kept (fun b => ov.ownBlock = some b) w wr
  old : ∀ g, (Value.slice o out.length oc).ownBlock = some g → g < w.heap.size → ov.ownBlock = some g
theorem OS.size {B0 : Nat} {w wr : World} {ov : Value} {a : Option Addr} {al ac : Nat} {p : Int} {o : Option Addr} {oc : Nat} {m e : Int} {out : List Int} {rv : Array Value} (h : OS B0 w wr ov a al ac p o oc m e out rv) : w.heap.size + 1 < wr.heap.size := lt_of_block h.s1
/-- A byte is told. -/
theorem OS.push {B0 : Nat} {w wr w4 : World} {ov : Value} {a o : Option Addr} {al ac oc g c4 : Nat} {p m e x : Int} {out : List Int} {rv : Array Value} {ob : Obj} (h : OS B0 w wr ov a al ac p o oc m e out rv)
    (hown : w4.ownsRow B0 5 1 (.slice (some ⟨g, 0, none⟩) (out.length + 1) c4) (out.length + 1) (out.map (Value.int .u8) ++ [.int .u8 x])) (hgrow : (wr.alloc ob).grownBy w4 (Value.slice o out.length oc).ownBlock)
    (hat : (Value.slice o out.length oc).ownBlock = some g ∨ g = wr.heap.size + 1) : OS B0 w (w4.setCell ⟨w.heap.size, 2, none⟩ (.slice (some ⟨g, 0, none⟩) (out.length + 1) c4)) ov a al ac p (some ⟨g, 0, none⟩) c4 m e (out ++ [x]) rv := by
  have hsz := h.size
  have hl : (out ++ [x]).length = out.length + 1 := by simp
  have hk := Kept.of_grown hgrow
  have hk2 : Kept (fun b => some b = (Value.slice o out.length oc).ownBlock) wr w4 := Kept.trans (M' := fun b => some b = (Value.slice o out.length oc).ownBlock) (b := wr.alloc ob) (Kept.alloc _ (Kept.refl _ wr) _) hk (fun _ _ h => h)
  have hz2 := hk2.size
  have n0 : ¬ some w.heap.size = (Value.slice o out.length oc).ownBlock := fun e' => ownsRow_apart h.owns h.s0 (by decide) e'.symm
  have n1 : ¬ some (w.heap.size + 1) = (Value.slice o out.length oc).ownBlock := fun e' => ownsRow_apart h.owns h.s1 (by decide) e'.symm
  have q0 := (hk2.block w.heap.size (by omega) n0).trans h.s0
  have q1 := (hk2.block (w.heap.size + 1) (by omega) n1).trans h.s1
  have hgn : g ≠ w.heap.size := by
    rcases hat with hat | hat
    · intro e'; exact n0 (by rw [hat, e'])
    · omega
  refine ⟨?_, ?_, ?_, ?_, ?_⟩
  · rw [set_of q0 2, hl]
    simp [sA]
  · rw [set_other (by omega)]; exact q1
  · have := ownsRow_kept hown ((Kept.refl (fun b => b = w.heap.size) w4).setCell (p := ⟨w.heap.size, 2, none⟩) (fun _ => rfl) (.slice (some ⟨g, 0, none⟩) (out.length + 1) c4)) (fun g' hg' e' => by
      simp [Value.ownBlock] at hg'
      omega)
    unfold OwnsB
    rw [hl]
    simpa using this
  · refine Kept.setCell (Kept.trans (M' := fun b => some b = (Value.slice o out.length oc).ownBlock) (b := wr) h.kept hk2 fun b hb e' => ?_) (fun hb => absurd hb (Nat.lt_irrefl _)) _
    exact h.old b e'.symm hb
  · intro g' hg' hlt
    simp [Value.ownBlock] at hg'
    subst hg'
    rcases hat with hat | hat
    · exact h.old g hat hlt
    · omega
theorem OS.new {B0 : Nat} {w : World} {a : Option Addr} {al ac : Nat} {p : Int} {o : Option Addr} {oc : Nat} {m e : Int} {out : List Int} (rv : Array Value) (h : OwnsB w B0 (.slice o out.length oc) out) : OS B0 w ((w.alloc (.cells (sA a al ac p o out.length oc m e) 68)).alloc (.cells rv 68)) (.slice o out.length oc) a al ac p o oc m e out rv := by
  have hT := Two.new w (sA a al ac p o out.length oc m e) rv
  exact ⟨hT.s0, hT.s1, ownsRow_kept h (Kept.of_below hT.below) (fun g hg e' => by have := (ownsRow_lt h hg).2; omega), (Kept.of_below hT.below).mono (fun i hi e' => by omega), fun g hg _ => hg⟩
/-- A callee that writes nothing elder. -/
theorem OS.stay {B0 : Nat} {w wr w2 : World} {ov : Value} {a : Option Addr} {al ac : Nat} {p : Int} {o : Option Addr} {oc : Nat} {m e : Int} {out : List Int} {rv : Array Value} (h : OS B0 w wr ov a al ac p o oc m e out rv) (k : Below wr.heap.size wr w2) : OS B0 w w2 ov a al ac p o oc m e out rv := by
  have hz := h.size
  have hz2 := h.kept.size
  exact ⟨(k.block _ (by omega)).trans h.s0, (k.block _ (by omega)).trans h.s1, ownsRow_kept h.owns (Kept.of_below k) (fun g hg e' => by have := (ownsRow_lt h.owns hg).2; omega), h.kept.trans (Kept.of_below k) (fun i hi e' => by omega), h.old⟩
/-- The state is stored, what was told as it was. -/
theorem OS.own {B0 : Nat} {w wr w2 : World} {ov : Value} {a : Option Addr} {al ac : Nat} {p : Int} {o : Option Addr} {oc : Nat} {m e : Int} {out : List Int} {rv : Array Value} {p2 e2 : Int} (h : OS B0 w wr ov a al ac p o oc m e out rv) (h2 : w2.heap[w.heap.size]? = some (.cells (sA a al ac p2 o out.length oc m e2) 68 (0, 0))) (k : Kept (fun i => i = w.heap.size) wr w2) : OS B0 w w2 ov a al ac p2 o oc m e2 out rv := by
  have hz := h.size
  exact ⟨h2, (k.block _ (by omega) (by omega)).trans h.s1, ownsRow_kept h.owns k (fun g hg e' => by subst e'; exact ownsRow_apart h.owns h.s0 (by decide) hg), h.kept.trans k (fun i hi e' => by omega), h.old⟩
/-- The place is set. -/
theorem OS.at_ {B0 : Nat} {w wr : World} {ov : Value} {a : Option Addr} {al ac : Nat} {p : Int} {o : Option Addr} {oc : Nat} {m e : Int} {out : List Int} {rv : Array Value} (h : OS B0 w wr ov a al ac p o oc m e out rv) (q : Int) : OS B0 w (wr.setCell ⟨w.heap.size, 1, none⟩ (.int .i64 q)) ov a al ac q o oc m e out rv := by
  refine h.own ?_ ((Kept.refl (fun i => i = w.heap.size) wr).setCell (fun _ => rfl) _)
  rw [set_of h.s0 1]
  simp [sA]
/-- The result is stored. -/
theorem OS.res {B0 : Nat} {w wr w2 : World} {ov : Value} {a : Option Addr} {al ac : Nat} {p : Int} {o : Option Addr} {oc : Nat} {m e : Int} {out : List Int} {rv : Array Value} {v2 : Array Value} (h : OS B0 w wr ov a al ac p o oc m e out rv) (h2 : w2.heap[w.heap.size + 1]? = some (.cells v2 68 (0, 0))) (k : Kept (fun i => i = w.heap.size + 1) wr w2) : OS B0 w w2 ov a al ac p o oc m e out v2 := by
  have hz := h.size
  exact ⟨(k.block _ (by omega) (by omega)).trans h.s0, h2, ownsRow_kept h.owns k (fun g hg e' => by subst e'; exact ownsRow_apart h.owns h.s1 (by decide) hg), h.kept.trans k (fun i hi e' => by omega), h.old⟩
end Go.Proofs.YtlakgbckopjelaaGreatDoor
