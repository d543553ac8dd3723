/- One row of parcels for each bit that a code may have. -/
import Derived.Test.YtdeigchkpakdaaaLMerge
import Derived.Test.YtdeigchkpakdaaaLFirst
namespace Go.Proofs.Ytdeigchkpakdaaa
open Go Go.RowKit

/-- The rows: the symbols alone; then the symbols laid together with the packages of the row before. -/
def rowsP (S : List (Int × Bool)) : Nat → List (Int × Bool)
  | 0 => S
  | d + 1 => mrgP S (prsP (rowsP S d))
theorem rowsP_length (S : List (Int × Bool)) (d : Nat) : (rowsP S d).length ≤ 2 * S.length := by
  induction d with
  | zero => rw [rowsP]; omega
  | succ d ih => rw [rowsP, mrgP_length, prsP_length]; omega
theorem mrgP_small {A B : List (Int × Bool)} {W : Int} (hA : Small A W) (hB : Small B W) : Small (mrgP A B) W := by
  have key : ∀ (A B : List (Int × Bool)), (∀ p ∈ A, 0 ≤ p.1 ∧ p.1 ≤ W) → (∀ p ∈ B, 0 ≤ p.1 ∧ p.1 ≤ W) → ∀ p ∈ mrgP A B, 0 ≤ p.1 ∧ p.1 ≤ W := by
    intro A
    induction A with
    | nil => intro B _ h; simpa [mrgP] using h
    | cons x A ihA =>
      intro B
      induction B with
      | nil => intro h _; simpa [mrgP] using h
      | cons y B ihB =>
        intro h1 h2 p hp
        rw [mrgP] at hp
        split at hp
        · rcases List.mem_cons.1 hp with rfl | hp
          · exact h1 _ (by simp)
          · exact ihA (y :: B) (fun q hq => h1 q (by simp [hq])) h2 p hp
        · rcases List.mem_cons.1 hp with rfl | hp
          · exact h2 _ (by simp)
          · exact ihB h1 (fun q hq => h2 q (by simp [hq])) p hp
  have mem : ∀ (A : List (Int × Bool)), Small A W → ∀ p ∈ A, 0 ≤ p.1 ∧ p.1 ≤ W := by
    intro A h p hp
    obtain ⟨i, hi, rfl⟩ := List.getElem_of_mem hp
    have := h i hi
    rwa [px_in hi] at this
  intro i hi
  rw [px_in hi]
  exact key A B (mem A hA) (mem B hB) _ (List.getElem_mem hi)
theorem prsP_small {A : List (Int × Bool)} {W : Int} (h : Small A W) : Small (prsP A) (2 * W) := by
  intro i hi
  rw [prsP_length] at hi
  rw [prsP_at A hi]
  have h1 := h (2 * i) (by omega)
  have h2 := h (2 * i + 1) (by omega)
  simp only
  omega
theorem Small.mono {A : List (Int × Bool)} {W V : Int} (h : Small A W) (hv : W ≤ V) : Small A V := fun i hi => by have := h i hi; omega
theorem rowsP_small {S : List (Int × Bool)} (h : Small S 1073741824) (d : Nat) : Small (rowsP S d) (1073741824 * 2 ^ d) := by
  induction d with
  | zero => rw [rowsP]; exact h.mono (by omega)
  | succ d ih =>
    rw [rowsP]
    have e : (1073741824 : Int) * 2 ^ (d + 1) = 2 * (1073741824 * 2 ^ d) := by rw [Int.pow_succ]; omega
    rw [e]
    have hp := pow_pos' d
    exact mrgP_small (h.mono (by omega)) (prsP_small ih)
theorem rowsP_small15 {S : List (Int × Bool)} (h : Small S 1073741824) {d : Nat} (hd : d ≤ 15) : Small (rowsP S d) 1152921504606846976 := by
  refine (rowsP_small h d).mono ?_
  have : (2 : Nat) ^ d ≤ 2 ^ 15 := Nat.pow_le_pow_right (by decide) hd
  have h2 : ((2 ^ d : Nat) : Int) ≤ ((2 ^ 15 : Nat) : Int) := by exact_mod_cast this
  have e1 : ((2 ^ d : Nat) : Int) = (2 : Int) ^ d := by simp
  have e2 : ((2 ^ 15 : Nat) : Int) = 32768 := by decide
  rw [e1, e2] at h2
  omega

/-- A row's slice. -/
def rowV (S : List (Int × Bool)) (gs : List Nat) (i : Nat) : Value := .slice (some ⟨gs.getD i 0, 0, none⟩) (rowsP S i).length (rowsP S i).length
def rowVs (S : List (Int × Bool)) (gs : List Nat) : List Value := (List.range gs.length).map (rowV S gs)
theorem rowVs_length (S : List (Int × Bool)) (gs : List Nat) : (rowVs S gs).length = gs.length := by simp [rowVs]
theorem rowVs_at (S : List (Int × Bool)) (gs : List Nat) {k : Nat} (h : k < gs.length) : (rowVs S gs)[k]? = some (rowV S gs k) := by simp [rowVs, h]
theorem rowVs_push (S : List (Int × Bool)) (gs : List Nat) (g : Nat) : rowVs S (gs ++ [g]) = rowVs S gs ++ [.slice (some ⟨g, 0, none⟩) (rowsP S gs.length).length (rowsP S gs.length).length] := by
  unfold rowVs
  rw [List.length_append, List.length_singleton, List.range_succ, List.map_append]
  congr 1
  · apply List.map_congr_left
    intro i hi
    have : i < gs.length := by simpa using hi
    unfold rowV
    simp [List.getD, List.getElem?_append_left this]
  · simp [rowV, List.getD]
/-- The rows in memory. -/
structure RowsAt (lo : Nat) (S : List (Int × Bool)) (w : World) (v : Value) (gs : List Nat) : Prop where
  owns : w.ownsRow lo 43 1 v gs.length (rowVs S gs)
  rows : ∀ i, i < gs.length → lo ≤ gs.getD i 0 ∧ PRo (gs.getD i 0) (rowsP S i) w
theorem Try.infoPars : (Try.prog.info? 43).map (fun i => (i.zero, i.size, i.bytes)) = some (some (.slice none 0 0), 1, 24) := by kernel_rfl

/-- The symbols as parcels. -/
def symP (ls d : List Int) : List (Int × Bool) := d.map fun x => (keyOf ls x, false)
theorem symP_length (ls d : List Int) : (symP ls d).length = d.length := by simp [symP]
theorem symP_at (ls d : List Int) {i : Nat} (h : i < d.length) : px (symP ls d) i = (keyOf ls (ln d i), false) := by
  rw [px_in (by rw [symP_length]; exact h)]; simp [symP, ln_in h]

theorem getD_app_left {gs : List Nat} {g i : Nat} (h : i < gs.length) : (gs ++ [g]).getD i 0 = gs.getD i 0 := by simp only [List.getD, List.getElem?_append_left h]
theorem getD_app_right (gs : List Nat) (g : Nat) : (gs ++ [g]).getD gs.length 0 = g := by simp [List.getD]
theorem own_some {w : World} {base e : Nat} {v : Value} {n : Nat} {xs : List Value} (h : w.ownsRow base e 1 v n xs) (h0 : 0 < n) : ∃ g cap, v = .slice (some ⟨g, 0, none⟩) n cap ∧ base ≤ g := by
  rcases h.2 with ⟨_, h2⟩ | ⟨g, cap, cur, hv, hg, _⟩
  · omega
  · exact ⟨g, cap, hv, hg⟩
/-- What rows tells. -/
def RowsOk (S : List (Int × Bool)) (L : Nat) (w : World) (e : Ending) (w' : World) : Prop := ∃ v gs, e = .returned v ∧ gs.length = L ∧ RowsAt w.heap.size S w' v gs ∧ Below w.heap.size w w'
theorem one_par (w : World) (x : Value) (n : Nat) (h : w.heap.size = n) : ∀ j u, [x][j]? = some u → (w.alloc (.cells #[x] 43)).cell? ((⟨n, 0, none⟩ : Addr).add j) = some u := by
  subst h; exact World.news_of_block (heap_new w (.cells #[x] 43))

set_option maxHeartbeats 2000000 in
set_option maxRecDepth 100000 in
theorem rows_c (lo hi lo2 hi2 : Nat) (a a2 : Option Addr) (cap cap2 : Nat) (ls d : List Int) (L : Nat) (w : World) (h0 : 0 < d.length) (hd : d.length ≤ 320) (hL1 : 1 ≤ L) (hL : L ≤ 15) (hall : All (IsSym ls) d) (hsm : Small (symP ls d) 1073741824) (hI : Ints lo hi w a ls) (hI2 : Ints lo2 hi2 w a2 d) :
    Calls Try.prog 19 #[.slice a ls.length cap, .slice a2 d.length cap2, .int .i64 L] w (RowsOk (symP ls d) L w) := by
  obtain ⟨i0, hi0, hz0, hz1', hz2'⟩ := info_parts Try.infoPar
  obtain ⟨i1, hi1, hy0, hy1', hy2'⟩ := info_parts Try.infoPars
  have hmk := made_pars d.length i0 hi0 hz0 hz1' hz2' (by omega)
  have HI := hide hI
  have HI2 := hide hI2
  have HALL := hide hall
  have HSM := hide hsm
  clear hI hI2 hall hsm
  obtain ⟨b2, off2, _, hb2, hb2w, rfl, hcell2⟩ := HI2.out.resolve_left (by omega)
  have HC2 := hide hcell2
  clear hcell2
  go_enter Try.func19, Try.ntmps19
  go_wp2_with fail
  go_loopg [16] d.length (fun gk v16 wx => ∃ i : Nat, i + gk = d.length ∧ v16 = .int .i64 i ∧ Hid (PRo w.heap.size (filP (symP ls d) i) wx ∧ Below w.heap.size w wx))
  case atStart =>
    refine ⟨0, by omega, rfl, ?_, (Below.refl _ w).alloc (Nat.le_refl _) _⟩
    rw [filP_zero, symP_length]
    exact heap_new w _
  case round =>
    obtain ⟨i, hig, rfl, HR⟩ := hrel
    cases gk with
    | zero =>
      obtain rfl : i = d.length := by omega
      go_wp2_with fail
      have HRA : Hid (RowsAt w.heap.size (symP ls d) (wr.alloc (.cells #[.slice (some ⟨w.heap.size, 0, none⟩) d.length d.length] 43)) (.slice (some ⟨wr.heap.size, 0, none⟩) 1 1) [w.heap.size]) := by
        have hro : PRo w.heap.size (symP ls d) wr := by
          have := HR.out.1
          rw [← symP_length ls d, filP_all] at this
          exact this
        refine ⟨⟨by simp [rowVs], .inr ⟨wr.heap.size, 1, #[.slice (some ⟨w.heap.size, 0, none⟩) d.length d.length], rfl, HR.out.2.size, heap_new wr _, Nat.le_refl _, by unfold maxLen; omega, rfl, ?_⟩⟩, fun i hi => ?_⟩
        · simp [rowVs, rowV, rowsP, symP_length]
        · have : i = 0 := by simpa using hi
          subst this
          exact ⟨Nat.le_refl _, heap_old hro⟩
      have HBA : Hid (Below w.heap.size w (wr.alloc (.cells #[.slice (some ⟨w.heap.size, 0, none⟩) d.length d.length] 43))) := HR.out.2.alloc HR.out.2.size _
      have hwr : w.heap.size + 1 ≤ wr.heap.size := by have := HR.out.1.lt; omega
      clear HR HI HC2 HI2 HALL
      go_loopg [10] (L - 1) (fun gk v10 wx => ∃ (gs : List Nat) (g10 c10 : Nat), v10 = .slice (some ⟨g10, 0, none⟩) gs.length c10 ∧ w.heap.size ≤ g10 ∧ gs.length + gk = L ∧ 1 ≤ gs.length ∧ Hid (gs.getD 0 0 = w.heap.size) ∧ Hid (RowsAt w.heap.size (symP ls d) wx (.slice (some ⟨g10, 0, none⟩) gs.length c10) gs ∧ Below w.heap.size w wx))
      case atStart => exact ⟨[w.heap.size], wr.heap.size, 1, rfl, by omega, by simp; omega, by simp, rfl, HRA.out, HBA.out⟩
      case round =>
        obtain ⟨gs, g10, c10, rfl, hg10, hgL, hg1, HG0, HG⟩ := hrel
        cases gk with
        | zero =>
          have hge : ¬ (gs.length : Int) < (L : Int) := by omega
          have HGL := hide (show gs.length = L by omega)
          go_wp2_with fail
          go_ret
          exact ⟨_, gs, rfl, HGL.out, HG.out⟩
        | succ g1 =>
          obtain ⟨kp, hkp⟩ : ∃ kp, gs.length = kp + 1 := ⟨gs.length - 1, by omega⟩
          have hltL : (kp : Int) + 1 < (L : Int) := by omega
          have HKP := hide hkp
          have hcell : wr.cell? ⟨g10, kp, none⟩ = some (rowV (symP ls d) gs kp) := by
            rw [World.ownsRow.cellAt HG.out.1.owns kp (by omega)]
            simp [rowVs, hkp]
          obtain ⟨gk0, hgk0⟩ : ∃ gk0, gs.getD kp 0 = gk0 := ⟨_, rfl⟩
          unfold rowV at hcell
          rw [hgk0] at hcell
          have hrow := HG.out.1.rows kp (by omega)
          rw [hgk0] at hrow
          have hsing := HG.out.1.rows 0 (by omega)
          rw [HG0.out] at hsing
          have hlen := rowsP_length (symP ls d) kp
          rw [symP_length] at hlen
          have hpk := pack_c w.heap.size wr.heap.size (some ⟨gk0, 0, none⟩) (rowsP (symP ls d) kp).length (rowsP (symP ls d) kp) wr (by omega) (rowsP_small15 HSM.out (by omega)) (Nat.le_refl _) (Par.of_ro hrow.2 hrow.1 hrow.2.lt)
          have HPK := hide hpk
          have hmg : ∀ w1, PRo wr.heap.size (prsP (rowsP (symP ls d) kp)) w1 → Below wr.heap.size wr w1 → Calls Try.prog 26 #[.slice (some ⟨w.heap.size, 0, none⟩) d.length d.length, .slice (some ⟨wr.heap.size, 0, none⟩) ((rowsP (symP ls d) kp).length / 2) ((rowsP (symP ls d) kp).length / 2)] w1 fun e w' => e = .returned (.slice (some ⟨w1.heap.size, 0, none⟩) (rowsP (symP ls d) (kp + 1)).length (rowsP (symP ls d) (kp + 1)).length) ∧ PRo w1.heap.size (rowsP (symP ls d) (kp + 1)) w' ∧ Below w1.heap.size w1 w' := by
            intro w1 k1 k2
            have := merge_c w.heap.size wr.heap.size (symP ls d) (prsP (rowsP (symP ls d) kp)) w1 (hsing.2.kept (Kept.of_below k2) (by have := hsing.2.lt; omega)) k1 (by rw [symP_length]; omega) (by rw [prsP_length]; omega)
            rw [symP_length, prsP_length] at this
            have e : d.length + (rowsP (symP ls d) kp).length / 2 = (rowsP (symP ls d) (kp + 1)).length := by rw [rowsP, mrgP_length, symP_length, prsP_length]
            rw [e] at this
            exact this
          have HMG := hide hmg
          clear hpk hmg hrow hsing hgk0
          obtain ⟨RL, hRL⟩ : ∃ RL, (rowsP (symP ls d) kp).length = RL := ⟨_, rfl⟩
          obtain ⟨RN, hRN⟩ : ∃ RN, (rowsP (symP ls d) (kp + 1)).length = RN := ⟨_, rfl⟩
          have HRN := hide hRN
          rw [hRL] at hcell HPK HMG
          rw [hRN] at HMG
          clear hRL hRN hlen
          rw [hkp]
          have hsz0 : w.heap.size ≤ wr.heap.size := HG.out.2.size
          clear hkp hg1
          go_wp2_with (first
            | (go_at_call 27; refine HPK.out.mono ?_; rintro e w1 ⟨rfl, k1, k2⟩; have HP1 := hide k1; have HP2 := hide k2; clear k1 k2)
            | (go_at_call 26; refine (HMG.out _ HP1.out HP2.out).mono ?_; rintro e w2 ⟨rfl, k1, k2⟩; have HM1 := hide k1; have HM2 := hide k2; have HBB := hide (HP2.out.trans (k2.mono HP2.out.size)); have HOW := hide (ownsRow_kept HG.out.1.owns (Kept.of_below HBB.out) (fun g hg e => by have := (ownsRow_lt HG.out.1.owns hg).2; omega)); have hsz2 := HBB.out.size; rw [HKP.out] at HOW; clear k1 k2)
            | (at_builtin; refine wpList_append_own _ rfl _ _ 36 rfl w.heap.size 43 i1 (.slice none 0 0) 1 24 Try.underlying36 hi1 hy0 hy1' hy2' rfl (by decide) _ _ _ rfl (World.ownsRow.alloc HOW.out _) ⟨_, 0, none⟩ 1 1 [.slice (some ⟨w1.heap.size, 0, none⟩) RN RN] rfl rfl (one_par _ _ _ (by simp)) (by intro u hu; simp at hu; subst hu; rfl) (by unfold maxLen; omega) (by omega) (by simp; omega) ?_; intro v' w4 hown' hgrow hnil; have HO4 := hide hown'; have HGR : Hid (World.grownBy _ w4 (some g10)) := hgrow; clear hown' hgrow hnil; obtain ⟨g4, c4, rfl, hg4⟩ := own_some HO4.out (by omega)))
          go_roundg g1
          case measure => omega
          case rel =>
            have hkp := HKP.out
            have hg10lt : g10 < wr.heap.size := (ownsRow_lt HG.out.1.owns rfl).2
            have hKG := Kept.of_grown HGR.out
            have hsz1 : wr.heap.size ≤ w1.heap.size := HP2.out.size
            have keep : ∀ g xs, PRo g xs w2 → g ≠ g10 → PRo g xs w4 := fun g xs hp hne =>
              PRo.kept (heap_old hp : PRo g xs (w2.alloc _)) hKG (fun e => hne (by simpa using e))
            refine ⟨gs ++ [w1.heap.size], g4, c4, by simp [hkp], hg4, by simp; omega, by simp, ?_, ⟨?_, fun i hi => ?_⟩, ?_⟩
            · have := HG0.out
              show (gs ++ [w1.heap.size]).getD 0 0 = w.heap.size
              rw [← this]
              exact getD_app_left (show 0 < gs.length by omega)
            · have := HO4.out
              rw [rowVs_push, hkp, HRN.out, List.length_append, hkp]
              exact this
            · rw [List.length_append, List.length_singleton] at hi
              by_cases c : i < gs.length
              · have e : (gs ++ [w1.heap.size]).getD i 0 = gs.getD i 0 := getD_app_left c
                rw [e]
                obtain ⟨q1, q2⟩ := HG.out.1.rows i c
                refine ⟨q1, keep _ _ (q2.kept (Kept.of_below HBB.out) (by have := q2.lt; omega)) ?_⟩
                intro e2
                exact ownsRow_apart HG.out.1.owns q2 (by decide) (by rw [e2]; rfl)
              · have ei : i = gs.length := by omega
                have e : (gs ++ [w1.heap.size]).getD i 0 = w1.heap.size := by rw [ei]; exact getD_app_right _ _
                rw [e, ei, hkp]
                exact ⟨by omega, keep _ _ HM1.out (by omega)⟩
            · exact ((HG.out.2.trans (HBB.out.mono hsz0)).alloc (by omega) _).grown HGR.out (by simp; omega) (fun g e => by have := (ownsRow_lt HG.out.1.owns e).1; omega)
    | succ g1 =>
      have hlt : (i : Int) < (d.length : Int) := by omega
      obtain ⟨x, hx, hxl⟩ := HALL.out.at (i := i) (by omega)
      obtain ⟨b, off, _, hb, hbw, rfl, hcell⟩ := HI.out.resolve_left (by omega)
      have c2 : wr.cell? ⟨b2, off2 + i, none⟩ = some (.int .i64 (x : Int)) := by
        rw [HR.out.2.cell (p := ⟨b2, off2 + i, none⟩) (show b2 < w.heap.size by omega), HC2.out i (by omega), hx]
      have c1 : wr.cell? ⟨b, off + x, none⟩ = some (.int .i64 (ln ls x)) := by
        rw [HR.out.2.cell (p := ⟨b, off + x, none⟩) (show b < w.heap.size by omega), hcell x hxl]
      have hxl' : (x : Int) < (ls.length : Int) := by omega
      have t0 := HR.out.1.c0 (i := i) (by rw [filP_length, symP_length]; omega)
      have f0 := HR.out.1.free (2 * i)
      have hset := HR.out.1.set0 (i := i) (by rw [filP_length, symP_length]; omega) (ln ls x)
      have hpz : px (filP (symP ls d) i) i = (0, false) := by rw [filP_at _ i (by rw [symP_length]; omega), if_neg (by omega)]
      have hkey : ((ln ls x, false) : Int × Bool) = px (symP ls d) i := by rw [symP_at ls d (by omega)]; unfold keyOf; rw [hx]; simp
      rw [hpz] at t0 hset
      simp only at t0 hset
      rw [hkey, filP_set _ i (by rw [symP_length]; omega)] at hset
      rw [show 2 * i = i * 2 by omega] at t0 f0 hset
      have HSET := hide hset
      clear hset hcell hkey hpz hx
      generalize ln ls x = X at c1 HSET
      go_wp2_with fail
      go_roundg g1
      case measure => omega
      case rel => exact ⟨i + 1, by omega, by go_num, HSET.out, HR.out.2.setCell (Nat.le_refl _) _⟩
#print axioms rows_c
end Go.Proofs.Ytdeigchkpakdaaa
