/- Several texts, laid together: LDeep, LDeepW, LLeast. -/
import Derived.Test.YtlakgbckopjelaaGreatDoorLQTab
import Derived.Deep.DeepCutAuto
import Derived.Deep.RegionWith
/- One level deeper: what is reached, and at what cost. -/
namespace Go.Proofs.YtlakgbckopjelaaGreatDoor.L
set_option maxRecDepth 100000
open Go Go.RowKit

/-- What a table tells of a level: what it says is reached, and what is reached it says, or less. -/
structure TabIs (B : List Nat) (d : Nat) (T : Nat → List Int) : Prop where
  sound : ∀ i k, i ≤ B.length → k ≤ B.length → ln (T i) k < NONE → ∃ c : Nat, ln (T i) k = c ∧ Rch B d i k c
  full : ∀ i k c, i ≤ B.length → k ≤ B.length → Rch B d i k c → ln (T i) k ≤ c
  most : ∀ i k, i ≤ B.length → k ≤ B.length → ln (T i) k ≤ NONE
theorem rch_le {B : List Nat} {d i k c : Nat} (h : Rch B d i k c) (hB : 1 ≤ B.length) : i ≤ B.length ∧ k ≤ B.length := by
  cases d with
  | zero => obtain ⟨rfl, rfl, _⟩ := h; exact ⟨by omega, hB⟩
  | succ d => obtain ⟨i', k', c', t, _, _, _, h1, _, h2, _⟩ := h; omega
theorem lft_le (B : List Nat) (i : Nat) : lft B i ≤ B.sum := by
  unfold lft
  conv => rhs; rw [← List.take_append_drop i B, List.sum_append]
  omega
theorem rch_cost {B : List Nat} {d i k c : Nat} (h : Rch B d i k c) : c ≤ d * B.sum := by
  induction d generalizing i k c with
  | zero => obtain ⟨_, _, rfl⟩ := h; omega
  | succ d ih =>
    obtain ⟨i', k', c', t, hr, _, _, _, _, _, rfl⟩ := h
    have := ih hr
    have := lft_le B i'
    rw [Nat.add_mul, Nat.one_mul]; omega
theorem tab_start (B : List Nat) : TabIs B 0 (T0 B.length) := by
  have hat : ∀ i k, k ≤ B.length → ln (T0 B.length i) k = if i = 0 ∧ k = 1 then 0 else NONE := by
    intro i k hk
    unfold T0
    by_cases hi : i = 0
    · rw [if_pos hi, ln_set _ _ _ (by simp)]
      by_cases hk1 : k = 1
      · rw [if_pos hk1, if_pos ⟨hi, hk1⟩]
      · rw [if_neg hk1, if_neg (fun h => hk1 h.2), ln_in (by simp; omega)]; simp
    · rw [if_neg hi, if_neg (fun h => hi h.1), ln_in (by simp; omega)]; simp
  refine ⟨fun i k _ hk h => ?_, fun i k c _ hk h => ?_, fun i k _ hk => ?_⟩
  · rw [hat i k hk] at h ⊢
    by_cases c : i = 0 ∧ k = 1
    · exact ⟨0, by rw [if_pos c]; rfl, c.1, c.2, rfl⟩
    · rw [if_neg c] at h; omega
  · obtain ⟨rfl, rfl, rfl⟩ := h
    rw [hat 0 1 hk, if_pos ⟨rfl, rfl⟩]; exact Int.le_refl _
  · rw [hat i k hk]
    split
    · unfold NONE; omega
    · exact Int.le_refl _
/-- Which steps are behind: i, k, take in their order. -/
def Lt3 (i' k' t' i k t : Nat) : Prop := i' < i ∨ (i' = i ∧ (k' < k ∨ (k' = k ∧ t' < t)))
/-- A table on the way to the next level. -/
structure Mid (B : List Nat) (d : Nat) (T U : Nat → List Int) (i k t : Nat) : Prop where
  sound : ∀ i k, i ≤ B.length → k ≤ B.length → ln (U i) k < NONE → ∃ c : Nat, ln (U i) k = c ∧ Rch B (d + 1) i k c
  full : ∀ i' k' t' c, Lt3 i' k' t' i k t → Rch B d i' k' c → t' ≤ 2 * k' → i' + t' ≤ B.length → 2 * k' - t' ≤ B.length - (i' + t') → ln (U (i' + t')) (2 * k' - t') ≤ ln (T i') k' + lft B i'
  most : ∀ i k, i ≤ B.length → k ≤ B.length → ln (U i) k ≤ NONE
theorem Mid.start {B : List Nat} {d : Nat} {T U : Nat → List Int} (hU : ∀ i k, i ≤ B.length → k ≤ B.length → ln (U i) k = NONE) : Mid B d T U 0 0 0 :=
  ⟨fun i k hi hk h => by rw [hU i k hi hk] at h; omega, fun i' k' t' c h => by unfold Lt3 at h; omega, fun i k hi hk => by rw [hU i k hi hk]; exact Int.le_refl _⟩
/-- Nothing is told at a state that is not reached. -/
theorem Mid.next_k {B : List Nat} {d : Nat} {T U : Nat → List Int} {i k t : Nat} (h : Mid B d T U i k t) (hn : ∀ t' c, t ≤ t' → Rch B d i k c → t' ≤ 2 * k → i + t' ≤ B.length → False) : Mid B d T U i (k + 1) 0 := by
  refine ⟨h.sound, fun i' k' t' c hl hr h1 h2 h3 => ?_, h.most⟩
  by_cases e : Lt3 i' k' t' i k t
  · exact h.full i' k' t' c e hr h1 h2 h3
  · exfalso
    have ei : i' = i ∧ k' = k ∧ t ≤ t' := by unfold Lt3 at hl e; omega
    obtain ⟨rfl, rfl, ht⟩ := ei
    exact hn t' c ht hr h1 h2
theorem Mid.next_i {B : List Nat} {d : Nat} {T U : Nat → List Int} {i : Nat} (h : Mid B d T U i (B.length + 1) 0) (h1 : 1 ≤ B.length) : Mid B d T U (i + 1) 0 0 := by
  refine ⟨h.sound, fun i' k' t' c hl hr q1 q2 q3 => ?_, h.most⟩
  have := (rch_le hr h1).2
  exact h.full i' k' t' c (by unfold Lt3 at hl ⊢; omega) hr q1 q2 q3
theorem Mid.done {B : List Nat} {d : Nat} {T U : Nat → List Int} (h : Mid B d T U (B.length + 1) 0 0) (hT : TabIs B d T) (h1 : 1 ≤ B.length) : TabIs B (d + 1) U := by
  refine ⟨h.sound, fun i k c hi hk hr => ?_, h.most⟩
  obtain ⟨i', k', c', t, q1, q2, rfl, q3, rfl, q4, rfl⟩ := hr
  have hle := rch_le q1 h1
  have := h.full i' k' t c' (by unfold Lt3; omega) q1 q2 q3 q4
  have := hT.full i' k' c' hle.1 hle.2 q1
  omega
/-- A step that lays nothing. -/
theorem Mid.skip {B : List Nat} {d : Nat} {T U : Nat → List Int} {i k t : Nat} (h : Mid B d T U i k t) (hn : 2 * k - t ≤ B.length - (i + t) → t ≤ 2 * k → i + t ≤ B.length → ln (U (i + t)) (2 * k - t) ≤ ln (T i) k + lft B i) : Mid B d T U i k (t + 1) := by
  refine ⟨h.sound, fun i' k' t' c hl hr q1 q2 q3 => ?_, h.most⟩
  by_cases e : Lt3 i' k' t' i k t
  · exact h.full i' k' t' c e hr q1 q2 q3
  · have ei : i' = i ∧ k' = k ∧ t' = t := by unfold Lt3 at hl e; omega
    obtain ⟨rfl, rfl, rfl⟩ := ei
    exact hn q3 q1 q2
/-- A step that lays a lesser cost. -/
theorem Mid.lay {B : List Nat} {d : Nat} {T U : Nat → List Int} {i k t c : Nat} {V : Nat → List Int} (h : Mid B d T U i k t) (hr : Rch B d i k c) (hc : ln (T i) k = c) (ht : t ≤ 2 * k) (hi : i + t ≤ B.length) (hk : 2 * k - t ≤ B.length - (i + t)) (hlt : ln (T i) k + lft B i < ln (U (i + t)) (2 * k - t))
    (hV : ∀ i' k', i' ≤ B.length → k' ≤ B.length → ln (V i') k' = if i' = i + t ∧ k' = 2 * k - t then ln (T i) k + lft B i else ln (U i') k') : Mid B d T V i k (t + 1) := by
  have hdown : ∀ i' k', i' ≤ B.length → k' ≤ B.length → ln (V i') k' ≤ ln (U i') k' := by
    intro i' k' h1 h2
    rw [hV i' k' h1 h2]
    split
    · rename_i e; obtain ⟨rfl, rfl⟩ := e; omega
    · exact Int.le_refl _
  refine ⟨fun i' k' h1 h2 hn => ?_, fun i' k' t' c' hl hr' q1 q2 q3 => ?_, fun i' k' h1 h2 => Int.le_trans (hdown i' k' h1 h2) (h.most i' k' h1 h2)⟩
  · rw [hV i' k' h1 h2] at hn ⊢
    by_cases e : i' = i + t ∧ k' = 2 * k - t
    · rw [if_pos e] at hn ⊢
      obtain ⟨rfl, rfl⟩ := e
      exact ⟨c + lft B i, by rw [hc]; simp, i, k, c, t, hr, ht, rfl, hi, rfl, hk, rfl⟩
    · rw [if_neg e] at hn ⊢
      exact h.sound i' k' h1 h2 hn
  · by_cases e : Lt3 i' k' t' i k t
    · exact Int.le_trans (hdown _ _ q2 (by omega)) (h.full i' k' t' c' e hr' q1 q2 q3)
    · have ei : i' = i ∧ k' = k ∧ t' = t := by unfold Lt3 at hl e; omega
      obtain ⟨rfl, rfl, rfl⟩ := ei
      rw [hV _ _ q2 (by omega), if_pos ⟨rfl, rfl⟩]; exact Int.le_refl _
#print axioms Mid.lay
end Go.Proofs.YtlakgbckopjelaaGreatDoor.L

/- One level deeper: the reference's walk. -/
namespace Go.Proofs.YtlakgbckopjelaaGreatDoor.L
set_option maxRecDepth 100000
open Go Go.RowKit

theorem TabAt.row' {lo m g0 c0 N : Nat} {w : World} {gs : List Nat} {T : Nat → List Int} (h : TabAt lo m w (.slice (some ⟨g0, 0, none⟩) N c0) gs T) (hN : gs.length = N) {i : Nat} (hi : i < N) : w.cell? ⟨g0, i, none⟩ = some (.slice (some ⟨gs.getD i 0, 0, none⟩) m m) := by
  subst hN; exact h.row hi
theorem TabAt.lt0 {lo m g0 c0 N : Nat} {w : World} {gs : List Nat} {T : Nat → List Int} (h : TabAt lo m w (.slice (some ⟨g0, 0, none⟩) N c0) gs T) : lo ≤ g0 ∧ g0 < w.heap.size := ownsRow_lt h.owns rfl
/-- All none. -/
def U0 (n : Nat) (i : Nat) : List Int := if i = 0 then (T0 n 0).set 1 NONE else T0 n i
theorem U0_at (n i k : Nat) (hk : k ≤ n) : ln (U0 n i) k = NONE := by
  unfold U0 T0
  by_cases hi : i = 0
  · rw [if_pos hi, if_pos rfl, ln_set _ _ _ (by simp), ln_set _ _ _ (by simp)]
    by_cases hk1 : k = 1
    · rw [if_pos hk1]
    · rw [if_neg hk1, if_neg hk1, ln_in (by simp; omega)]; simp
  · rw [if_neg hi, if_neg hi, ln_in (by simp; omega)]; simp
/-- What deeper has in hand. -/
structure Hand (B : List Nat) (d n : Nat) (T : Nat → List Int) (g0 c0 : Nat) (gs : List Nat) (w wx : World) (i k t : Nat) (U : Nat → List Int) : Prop where
  tab : TabAt w.heap.size (n + 2) wx (.slice (some ⟨g0, 0, none⟩) (n + 1) c0) gs U
  bel : Below w.heap.size w wx
  mid : Mid B d T U i k t
def DeepOk (B : List Nat) (d n : Nat) (w : World) (e : Ending) (w' : World) : Prop := ∃ U, TabOk n U w e w' ∧ TabIs B (d + 1) U

set_option maxHeartbeats 4000000 in
set_option maxRecDepth 100000 in
theorem deeper_c (B : List Nat) (d n : Nat) (T : Nat → List Int) (lo1 g1 c1 : Nat) (gs1 : List Nat) (lo2 hi2 : Nat) (a2 : Option Addr) (cap2 : Nat) (lf : List Int) (w : World) (hn : n ≤ 320) (hBn : B.length = n) (h1 : 1 ≤ n) (hgs1 : gs1.length = n + 1) (hT : TabAt lo1 (n + 2) w (.slice (some ⟨g1, 0, none⟩) (n + 1) c1) gs1 T) (hTI : TabIs B d T)
    (hlf : lf.length = n + 1) (hl : ∀ i, i ≤ n → ln lf i = (lft B i : Nat)) (hI : Ints lo2 hi2 w a2 lf) (hbd : d * B.sum < 1152921504606846976) (hsum : B.sum ≤ 1000000000000) :
    Calls Tryz.prog 76 #[.slice (some ⟨g1, 0, none⟩) (n + 1) c1, .slice a2 (n + 1) cap2, .int .i64 n] w (DeepOk B d n w) := by
  have HBN := hide hBn
  have HG1 := hide hgs1
  have HT := hide hT
  have HTI := hide hTI
  have HLF := hide hlf
  have HLL := hide hl
  have HI := hide hI
  have HBD := hide hbd
  have HST := hide (start_c n w hn)
  clear hBn hgs1 hT hTI hlf hl hI hbd
  go_enter Tryz.func76, Tryz.ntmps76
  go_upto_region 2 with (go_at_call 75; refine HST.out.mono ?_; rintro e w1 ⟨g0, c0, gs, rfl, k1, k2, k3⟩; have HGS := hide k1; have HT1 := hide k2; have HB1 := hide k3; clear k1 k2 k3)
  go_cut [] (fun wx => TabAt w.heap.size (n + 2) wx (.slice (some ⟨g0, 0, none⟩) (n + 1) c0) gs (U0 n) ∧ Below w.heap.size w wx)
  case first =>
    have r0 := HT1.out.row' HGS.out (i := 0) (by omega)
    have cl := HT1.out.cell (i := 0) (r := 1) (by rw [HGS.out]; omega) (by omega)
    have fl := HT1.out.free (i := 0) (by rw [HGS.out]; omega) 1
    have hst := HT1.out.set (i := 0) (r := 1) (by rw [HGS.out]; omega) (by omega) NONE
    have HST2 : Hid (TabAt w.heap.size (n + 2) (w1.setCell ⟨gs.getD 0 0, 1, none⟩ (.int .i64 NONE)) (.slice (some ⟨g0, 0, none⟩) (n + 1) c0) gs (U0 n)) := hst.congr (fun i _ => rfl)
    have HBS := hide (HB1.out.setCell (p := ⟨gs.getD 0 0, 1, none⟩) (HT1.out.rows 0 (by rw [HGS.out]; omega)).1 (.int .i64 NONE))
    have hq1 : (1 : Int) < (n : Int) + 2 := by omega
    have hq2 : (0 : Int) < (n : Int) + 1 := by omega
    generalize gs.getD 0 0 = gr at r0 cl fl HST2 HBS
    generalize ln (T0 n 0) 1 = V at cl
    have hN := none_c
    clear hst
    generalize NONE = Q at HST2 HBS hN
    have HNN := hide hN
    clear hN
    go_region_with ((go_at_call 97; refine (HNN.out _).mono ?_; rintro e w2 ⟨rfl, rfl⟩))
    all_goals (go_wp2_with fail)
    all_goals go_meet
    all_goals exact ⟨⟨HST2.out.owns, HST2.out.rows, HST2.out.dist⟩, HBS.out.drew⟩
  case rest =>
    obtain ⟨ht0, hb0⟩ := hcut
    have HH0 : Hid (Hand B d n T g0 c0 gs w wc 0 0 0 (U0 n)) := ⟨ht0, hb0, Mid.start (fun i k hi hk => U0_at n i k (by rw [← HBN.out]; exact hk))⟩
    clear ht0 hb0 HT1 HB1 HST
    obtain ⟨b2, off2, _, hb2, hb2w, rfl, hcell2⟩ := HI.out.resolve_left (by rw [HLF.out]; omega)
    have HC2 := hide hcell2
    clear hcell2
    go_wp2_with fail
    go_loopg [8] (n + 1) (fun gk v8 wx => ∃ (i : Nat) (U : Nat → List Int), i + gk = n + 1 ∧ v8 = .int .i64 i ∧ Hid (Hand B d n T g0 c0 gs w wx i 0 0 U))
    case atStart => exact ⟨0, U0 n, by omega, rfl, HH0.out⟩
    case round =>
      obtain ⟨i, U, hig, rfl, HH⟩ := hrel
      cases gk with
      | zero =>
        have hle : ¬ (i : Int) ≤ (n : Int) := by omega
        have HIN := hide (show i = n + 1 by omega)
        go_wp2_with fail
        go_ret
        refine ⟨U, ⟨g0, c0, gs, rfl, HGS.out, HH.out.tab, HH.out.bel⟩, ?_⟩
        have hm := HH.out.mid
        rw [HIN.out, ← HBN.out] at hm
        exact hm.done HTI.out (by rw [HBN.out]; exact h1)
      | succ gi =>
        have hle : (i : Int) ≤ (n : Int) := by omega
        go_wp2_with fail
        go_loopg [9] (n + 1) (fun gk v9 wx => ∃ (k : Nat) (U : Nat → List Int), k + gk = n + 1 ∧ v9 = .int .i64 k ∧ Hid (Hand B d n T g0 c0 gs w wx i k 0 U))
        case atStart => exact ⟨0, U, by omega, rfl, HH.out⟩
        case round =>
          obtain ⟨k, U1, hkg, rfl, HK⟩ := hrel
          cases gk with
          | zero =>
            have hlek : ¬ (k : Int) ≤ (n : Int) := by omega
            have HKN := hide (show k = n + 1 by omega)
            go_wp2_with fail
            go_roundg gi
            case measure => omega
            case rel =>
              refine ⟨i + 1, U1, by omega, by go_num, HK.out.tab, HK.out.bel, ?_⟩
              have hm := HK.out.mid
              rw [HKN.out, ← HBN.out] at hm
              exact hm.next_i (by rw [HBN.out]; exact h1)
          | succ gk2 =>
            have hlek : (k : Int) ≤ (n : Int) := by omega
            have hin : (i : Int) < (n : Int) + 1 := by omega
            have hkn : (k : Int) < (n : Int) + 2 := by omega
            have hT2 := HT.out.kept (Kept.of_below HK.out.bel) (fun b _ h2 h3 => by omega)
            have rr := hT2.row' HG1.out (i := i) (by omega)
            have cc := hT2.cell (i := i) (r := k) (by rw [HG1.out]; omega) (by omega)
            have cl : wr.cell? ⟨b2, off2 + i, none⟩ = some (.int .i64 ((lft B i : Nat) : Int)) := by
              rw [HK.out.bel.cell (p := ⟨b2, off2 + i, none⟩) (show b2 < w.heap.size by omega), HC2.out i (by rw [HLF.out]; omega), HLL.out i (by omega)]
            have hlb := lft_le B i
            obtain ⟨X, hX⟩ : ∃ X, ln (T i) k = X := ⟨_, rfl⟩
            have EX := hide hX
            rw [hX] at cc
            generalize gs1.getD i 0 = gr at rr cc
            clear hX hT2
            have hN := none_c
            have hNd : (1152921504606846976 : Int) = NONE := rfl
            have HND := hide hNd
            clear hNd
            obtain ⟨Q, hQ⟩ : ∃ Q, NONE = Q := ⟨_, rfl⟩
            have HQ := hide hQ
            rw [hQ] at hN
            clear hQ
            by_cases hXQ : Q ≤ X
            · have HNK : Hid (Mid B d T U1 i (k + 1) 0) := HK.out.mid.next_k (fun t' c _ hr _ _ => by
                have f := HTI.out.full i k c (by rw [HBN.out]; omega) (by rw [HBN.out]; omega) hr
                have g := rch_cost hr
                have h := HBD.out
                have q1 := HQ.out
                have q2 := HND.out
                rw [EX.out] at f
                omega)
              go_wp2_with fail
              go_quiet ((go_at_call 97; exact Calls.quiet_of_same (hN _)))
              go_wp2_with fail
              go_roundg gk2
              case measure => omega
              case rel => exact ⟨k + 1, U1, by omega, by go_num, ⟨HK.out.tab.owns, HK.out.tab.rows, HK.out.tab.dist⟩, ⟨HK.out.bel.os, HK.out.bel.tape, HK.out.bel.output, HK.out.bel.size, HK.out.bel.block⟩, HNK.out⟩
            · obtain ⟨c, hc, hrc⟩ := HTI.out.sound i k (by rw [HBN.out]; omega) (by rw [HBN.out]; omega) (by rw [EX.out, HQ.out]; omega)
              have HRC := hide hrc
              have HCX := hide hc
              have hX0 : 0 ≤ X := by rw [← EX.out, hc]; omega
              have hXb : X < 1152921504606846976 := by have q1 := HQ.out; have q2 := HND.out; omega
              clear hc hrc
              go_wp2_with fail
              go_quiet ((go_at_call 97; exact Calls.quiet_of_same (hN _)))
              have rr2 : (wr.drewN nq).cell? ⟨g1, i, none⟩ = some (.slice (some ⟨gr, 0, none⟩) (n + 2) (n + 2)) := rr
              have cc2 : (wr.drewN nq).cell? ⟨gr, k, none⟩ = some (.int .i64 X) := cc
              have cl2 : (wr.drewN nq).cell? ⟨b2, off2 + i, none⟩ = some (.int .i64 ((lft B i : Nat) : Int)) := cl
              have HK2 : Hid (Hand B d n T g0 c0 gs w (wr.drewN nq) i k 0 U1) := ⟨⟨HK.out.tab.owns, HK.out.tab.rows, HK.out.tab.dist⟩, ⟨HK.out.bel.os, HK.out.bel.tape, HK.out.bel.output, HK.out.bel.size, HK.out.bel.block⟩, HK.out.mid⟩
              clear rr cc cl HK
              generalize wr.drewN nq = wa at rr2 cc2 cl2 HK2 ⊢
              go_wp2_with fail
              go_quiet (fail)
              have HK3 : Hid (Hand B d n T g0 c0 gs w (wa.drewN nq) i k 0 U1) := ⟨⟨HK2.out.tab.owns, HK2.out.tab.rows, HK2.out.tab.dist⟩, ⟨HK2.out.bel.os, HK2.out.bel.tape, HK2.out.bel.output, HK2.out.bel.size, HK2.out.bel.block⟩, HK2.out.mid⟩
              clear rr2 cc2 cl2 HK2
              generalize wa.drewN nq = wb at HK3 ⊢
              obtain ⟨F, hF⟩ : ∃ F : Int, ((lft B i : Nat) : Int) = F := ⟨_, rfl⟩
              have HF := hide hF
              have hF0 : 0 ≤ F := by omega
              have hF1 : F ≤ 1000000000000 := by omega
              rw [hF]
              clear hF hlb
              go_wp2_with fail
              go_loopg [11] (2 * k + 1) (fun gt v11 wx => ∃ (t : Nat) (U : Nat → List Int), t + gt = 2 * k + 1 ∧ v11 = .int .i64 t ∧ Hid (Hand B d n T g0 c0 gs w wx i k t U))
              case atStart => exact ⟨0, U1, by omega, rfl, HK3.out⟩
              case round =>
                obtain ⟨t, U2, htg, rfl, HT3⟩ := hrel
                by_cases hex : t ≤ 2 * k ∧ i + t ≤ n
                · obtain ⟨he1, he2⟩ := hex
                  have he1' : (t : Int) ≤ 2 * (k : Int) := by omega
                  have he2' : (i : Int) + (t : Int) ≤ (n : Int) := by omega
                  obtain ⟨r, hr⟩ : ∃ r : Nat, 2 * (k : Int) - (t : Int) = (r : Int) := ⟨2 * k - t, by omega⟩
                  have HRR := hide (show 2 * k - t = r by omega)
                  have hi0 : (0 : Int) ≤ (i : Int) + (t : Int) := by omega
                  have hi1 : (i : Int) + (t : Int) < (n : Int) + 1 := by omega
                  have hi2 : ((i : Int) + (t : Int)).toNat = i + t := by omega
                  by_cases hrn : r ≤ n - (i + t)
                  · have hrn' : (r : Int) ≤ (n : Int) - (i : Int) - (t : Int) := by omega
                    have hr2 : (r : Int) < (n : Int) + 2 := by omega
                    have ro := HT3.out.tab.row' HGS.out (i := i + t) (by omega)
                    have co := HT3.out.tab.cell (i := i + t) (r := r) (by rw [HGS.out]; omega) (by omega)
                    have fo := HT3.out.tab.free (i := i + t) (by rw [HGS.out]; omega) r
                    have hset := HT3.out.tab.set (i := i + t) (r := r) (by rw [HGS.out]; omega) (by omega) (X + F)
                    have HBS := hide (HT3.out.bel.setCell (p := ⟨gs.getD (i + t) 0, r, none⟩) (HT3.out.tab.rows (i + t) (by rw [HGS.out]; omega)).1 (.int .i64 (X + F)))
                    have hlen : (U2 (i + t)).length = n + 2 := (HT3.out.tab.rows (i + t) (by rw [HGS.out]; omega)).2.2
                    have HSET := hide hset
                    have HLEN := hide hlen
                    obtain ⟨V, hV⟩ : ∃ V, ln (U2 (i + t)) r = V := ⟨_, rfl⟩
                    have HV := hide hV
                    rw [hV] at co
                    clear hset hlen hV
                    generalize gs.getD (i + t) 0 = go at ro co fo HSET HBS
                    by_cases hlt : X + F < V
                    · have HM : Hid (Mid B d T (fun j => if j = i + t then (U2 (i + t)).set r (X + F) else U2 j) i k (t + 1)) := by
                        have e1 : ln (T i) k + (lft B i : Int) = X + F := by rw [EX.out, HF.out]
                        refine HT3.out.mid.lay HRC.out HCX.out he1 (by rw [HBN.out]; exact he2) (by rw [HBN.out, HRR.out]; exact hrn) (by rw [HRR.out, HV.out, e1]; exact hlt) (fun i' k' h1 h2 => ?_)
                        rw [e1, HRR.out]
                        by_cases e : i' = i + t
                        · subst e
                          rw [if_pos rfl, ln_set _ _ _ (by rw [HLEN.out]; omega)]
                          by_cases e2 : k' = r
                          · rw [if_pos e2, if_pos ⟨rfl, e2⟩]
                          · rw [if_neg e2, if_neg (fun h => e2 h.2)]
                        · rw [if_neg e, if_neg (fun h => e h.1)]
                      go_wp2_with fail
                      go_roundg (2 * k - t)
                      case measure => omega
                      case rel => exact ⟨t + 1, _, by omega, by go_num, HSET.out, HBS.out, HM.out⟩
                    · have HM : Hid (Mid B d T U2 i k (t + 1)) := HT3.out.mid.skip (fun _ _ _ => by
                        rw [HRR.out, HV.out, EX.out, HF.out]; omega)
                      go_wp2_with fail
                      go_roundg (2 * k - t)
                      case measure => omega
                      case rel => exact ⟨t + 1, U2, by omega, by go_num, HT3.out.tab, HT3.out.bel, HM.out⟩
                  · have hrn' : ¬ (r : Int) ≤ (n : Int) - (i : Int) - (t : Int) := by omega
                    have HM : Hid (Mid B d T U2 i k (t + 1)) := HT3.out.mid.skip (fun h _ _ => by
                      rw [HBN.out, HRR.out] at h; omega)
                    go_wp2_with fail
                    go_roundg (2 * k - t)
                    case measure => omega
                    case rel => exact ⟨t + 1, U2, by omega, by go_num, HT3.out.tab, HT3.out.bel, HM.out⟩
                · have HM : Hid (Mid B d T U2 i (k + 1) 0) := HT3.out.mid.next_k (fun t' c' h1 _ h3 h4 => by rw [HBN.out] at h4; omega)
                  by_cases he1 : t ≤ 2 * k
                  · have he1' : (t : Int) ≤ 2 * (k : Int) := by omega
                    have he2' : ¬ (i : Int) + (t : Int) ≤ (n : Int) := by omega
                    go_wp2_with fail
                    go_roundg gk2
                    case measure => omega
                    case rel => exact ⟨k + 1, U2, by omega, by go_num, HT3.out.tab, HT3.out.bel, HM.out⟩
                  · have he1' : ¬ (t : Int) ≤ 2 * (k : Int) := by omega
                    go_wp2_with fail
                    go_roundg gk2
                    case measure => omega
                    case rel => exact ⟨k + 1, U2, by omega, by go_num, HT3.out.tab, HT3.out.bel, HM.out⟩
#print axioms deeper_c
end Go.Proofs.YtlakgbckopjelaaGreatDoor.L

/- The reference's Least. -/
namespace Go.Proofs.YtlakgbckopjelaaGreatDoor.L
set_option maxRecDepth 100000
open Go Go.RowKit

def natL (S : List Int) : List Nat := S.map Int.toNat
theorem natL_length (S : List Int) : (natL S).length = S.length := by simp [natL]
theorem lft_step {S : List Int} {i : Nat} (h : i < S.length) (h0 : ∀ x ∈ S, 0 ≤ x) : ((lft (natL S) i : Nat) : Int) = ln S i + (lft (natL S) (i + 1) : Nat) := by
  unfold lft
  have hi : i < (natL S).length := by rw [natL_length]; exact h
  rw [List.drop_eq_getElem_cons hi, List.sum_cons]
  have e : (natL S)[i] = (ln S i).toNat := by simp [natL, ln_in h]
  have := h0 (ln S i) (by rw [ln_in h]; exact List.getElem_mem h)
  rw [e]; omega
theorem lft_end (S : List Int) : lft (natL S) S.length = 0 := by
  unfold lft
  rw [← natL_length, List.drop_length]; rfl
theorem sum_bd (S : List Int) (h : ∀ x ∈ S, x ≤ 1073741824) : (natL S).sum ≤ 1073741824 * S.length := by
  induction S with
  | nil => simp [natL]
  | cons x S ih =>
    have h1 := h x (by simp)
    have h2 := ih (fun y hy => h y (by simp [hy]))
    have e : (natL (x :: S)).sum = x.toNat + (natL S).sum := by simp [natL]
    rw [e, List.length_cons]
    generalize (natL S).sum = Q at h2 ⊢
    omega
/-- Rows that hold what is left from i on. -/
def LeftFrom (S R : List Int) (i : Nat) : Prop := R.length = S.length + 1 ∧ ∀ j, i ≤ j → j ≤ S.length → ln R j = (lft (natL S) j : Nat)
/-- What Least tells. -/
def LeastOk (V : Int) (w : World) (e : Ending) (w' : World) : Prop := e = .returned (.int .i64 V) ∧ Below w.heap.size w w'
/-- The least that is reached. -/
theorem least_is {ls F : List Int} {L : Nat} {T : Nat → List Int} (hG : LGoodR ls L F) (ha : AlwTo ls ls.length) (h2 : 2 ≤ nocc ls) (hT : TabIs (natL (srtF ls ls.length)) L T) (hb : cst (zOf ls F (occ ls ls.length)) < 1152921504606846976) : ln (T (srtF ls ls.length).length) 0 = (cst (zOf ls F (occ ls ls.length)) : Nat) := by
  have hp := srtF_perm ha
  have hbest := hG.best h2
  have hpB : ((zOf ls F (occ ls ls.length)).map (·.1)).Perm (natL (srtF ls ls.length)) := by
    rw [zOf_fst]
    have := (hp.map Int.toNat).symm
    rw [List.map_map] at this
    exact this
  have hlen : (natL (srtF ls ls.length)).length = nocc ls := by rw [natL_length, hp.length_eq, List.length_map]; rfl
  have hsl : (srtF ls ls.length).length = (natL (srtF ls ls.length)).length := (natL_length _).symm
  have hfal : Fal (natL (srtF ls ls.length)) := by
    unfold Fal natL
    rw [List.pairwise_map]
    exact (srtF_fal ls ls.length).imp (fun {x y} h => by omega)
  have hpos : ∀ w ∈ natL (srtF ls ls.length), 0 < w := by
    intro w hw
    have := hpB.mem_iff.2 hw
    rw [zOf_fst] at this
    obtain ⟨x, hx, rfl⟩ := List.mem_map.1 this
    obtain ⟨i, rfl, hi, h0⟩ := (occ_mem ls ls.length x).1 hx
    simp only [keyOf, Int.toNat_natCast]; omega
  have hr := best_reached hbest hfal hpB (by omega) hpos
  rw [hsl]
  have f := hT.full _ _ _ (Nat.le_refl _) (Nat.zero_le _) hr
  obtain ⟨c, hc, hrc⟩ := hT.sound _ _ (Nat.le_refl _) (Nat.zero_le _) (by
    have : (NONE : Int) = 1152921504606846976 := rfl
    omega)
  have l := hrc.least
  rw [← ov_perm L hpB, ← hbest.cost] at l
  omega

set_option maxHeartbeats 4000000 in
set_option maxRecDepth 100000 in
theorem least_c (U : Nat) (a : Option Addr) (cap : Nat) (ls F : List Int) (L : Nat) (w : World) (hl : ls.length ≤ 320) (hI : Ints 0 U w a ls) (hA : Alw ls L) (hG : LGoodR ls L F) :
    Calls Tryz.prog 43 #[.slice a ls.length cap, .int .i64 L] w (LeastOk ((cst (zOf ls F (occ ls ls.length)) : Nat) : Int) w) := by
  obtain ⟨i0, hi0, hz0, hz1', hz2'⟩ := info_parts Tryz.info3
  have HSO := hide (sorted_c U a cap ls w hl hI)
  have HG := hide hG
  have HAL := hide hA
  have hL1 := hA.2.1
  have hL15 := hA.2.2.1
  have hpm := srtF_perm hA.2.2.2
  have hSl : (srtF ls ls.length).length = nocc ls := by rw [hpm.length_eq, List.length_map]; rfl
  have hS40 := srtF_length ls ls.length
  have hSx : ∀ x ∈ srtF ls ls.length, 0 ≤ x ∧ x ≤ 1073741824 := fun x hx => by
    obtain ⟨y, hy, rfl⟩ := List.mem_map.1 (hpm.mem_iff.1 hx)
    obtain ⟨i, rfl, hi, _⟩ := (occ_mem ls ls.length y).1 hy
    simpa [keyOf] using hA.2.2.2 i hi
  have hcb := cst_bd hA.2.2.2 (hG.valid hA.2.2.2 (by omega)) (by omega)
  have hcb2 : cst (zOf ls F (occ ls ls.length)) ≤ 5153960755200 := Nat.le_trans hcb (Nat.mul_le_mul_left 16106127360 (show ls.length ≤ 320 from hl))
  have hli : ∀ T, 2 ≤ nocc ls → TabIs (natL (srtF ls ls.length)) L T → ln (T (srtF ls ls.length).length) 0 = (cst (zOf ls F (occ ls ls.length)) : Nat) := fun T h2 hT => least_is hG hA.2.2.2 h2 hT (by omega)
  have h0 : nocc ls = 0 → cst (zOf ls F (occ ls ls.length)) = 0 := fun h => by
    rw [List.eq_nil_of_length_eq_zero (show (occ ls ls.length).length = 0 from h)]; rfl
  have h1 : nocc ls = 1 → ((cst (zOf ls F (occ ls ls.length)) : Nat) : Int) = ln (srtF ls ls.length) 0 := fun h => by
    obtain ⟨x, hx⟩ := List.length_eq_one_iff.1 (show (occ ls ls.length).length = 1 from h)
    have hm : x ∈ occ ls ls.length := by rw [hx]; simp
    obtain ⟨i, rfl, hi, h0⟩ := (occ_mem ls ls.length x).1 hm
    have e := hG.one h i hi h0
    have hp2 := hpm
    rw [hx] at hp2 ⊢
    have e2 : srtF ls ls.length = [ln ls i] := by
      have : List.map (keyOf ls) [(i : Int)] = [ln ls i] := by simp [keyOf]
      rw [this] at hp2
      exact List.perm_singleton.1 hp2
    have e3 : zOf ls F [(i : Int)] = [((ln ls i).toNat, 1)] := by simp [zOf, keyOf, e]
    have e4 : cst [((ln ls i).toNat, 1)] = (ln ls i).toNat := by simp [cst]
    rw [e2, e3, e4]
    show (((ln ls i).toNat : Nat) : Int) = ln ls i
    omega
  have HLI := hide hli
  have H0 := hide h0
  have H1 := hide h1
  have HSX := hide hSx
  clear hA hG hpm hcb hcb2 hli h0 h1 hI hSx
  have H0' : Hid (nocc ls = 0 → ((cst (zOf ls F (occ ls ls.length)) : Nat) : Int) = 0) := fun h => by rw [H0.out h]; rfl
  clear H0
  generalize ((cst (zOf ls F (occ ls ls.length)) : Nat) : Int) = C at HLI H1 H0' ⊢
  generalize hSS : srtF ls ls.length = S at HSO HLI H1 HSX hSl hS40
  clear hSS
  generalize nocc ls = N at H0' H1 HLI hSl
  have HSL := hide hSl
  have hN40 : N ≤ 320 := by omega
  clear hSl hS40
  by_cases hN0 : N = 0
  · have hC := H0'.out hN0
    subst hN0
    rw [hC]
    clear H0' H1 HLI hC
    go_enter Tryz.func43, Tryz.ntmps43
    go_wp2_with (go_at_call 74; refine HSO.out.mono ?_; rintro e w1 ⟨v, rfl, k1, k2⟩; obtain ⟨av, cv, rfl⟩ := own_form k1; rw [HSL.out]; have HB := hide k2; clear k1 k2)
    go_ret
    exact ⟨rfl, HB.out⟩
  · by_cases hN1 : N = 1
    · have hC := H1.out hN1
      subst hN1
      rw [hC]
      clear H0' H1 HLI hC
      go_enter Tryz.func43, Tryz.ntmps43
      go_wp2_with (go_at_call 74; refine HSO.out.mono ?_; rintro e w1 ⟨v, rfl, k1, k2⟩; obtain ⟨av, cv, hv, hii⟩ := k1.ints; subst hv; obtain ⟨b, off, _, _, hbw, rfl, hcell⟩ := hii.resolve_left (by rw [HSL.out]; omega); have hc0 := hcell 0 (by rw [HSL.out]; omega); rw [Nat.add_zero] at hc0; rw [HSL.out]; have HB := hide k2; clear k1 k2 hii hcell)
      go_ret
      exact ⟨rfl, HB.out⟩
    · have hb0 : ((N : Int) == 0) = false := by simp; omega
      have hb1 : ((N : Int) == 1) = false := by simp; omega
      have hn0 : ¬ (N : Int) = 0 := by omega
      have hn1 : ¬ (N : Int) = 1 := by omega
      have hmk := made_ints (N + 1) i0 hi0 hz0 hz1' hz2' (by omega)
      have hmk' : ∀ W, (Instr.makeSlice 32 (.int .i64 ((N : Int) + 1)) (.int .i64 ((N : Int) + 1))).run Tryz.prog W = .ok (.slice (some ⟨W.heap.size, 0, none⟩) (N + 1) (N + 1)) (W.alloc (.cells (rowA (List.replicate (N + 1) 0) #[]) 3)) := by
        intro W
        have := hmk W
        rw [show (((N + 1 : Nat)) : Int) = (N : Int) + 1 by simp] at this
        exact this
      clear hmk
      go_enter Tryz.func43, Tryz.ntmps43
      go_wp2_with (go_at_call 74; refine HSO.out.mono ?_; rintro e w1 ⟨v, rfl, k1, k2⟩; obtain ⟨av, cv, hv, hii⟩ := k1.ints; subst hv; rw [HSL.out]; have HB := hide k2; have HII := hide hii; clear k1 k2 hii)
      clear hb0 hb1 hn0 hn1 hmk'
      obtain ⟨bs, os, _, hbs2, hbsw, rfl, hcs⟩ := HII.out.resolve_left (by rw [HSL.out]; omega)
      have HCS := hide hcs
      have hw1 := HB.out.size
      clear hcs HII
      have HL0 : Hid (∃ R, LeftFrom S R N ∧ Ro w1.heap.size #[] R (w1.alloc (.cells (rowA (List.replicate (N + 1) 0) #[]) 3)) ∧ Below w1.heap.size w1 (w1.alloc (.cells (rowA (List.replicate (N + 1) 0) #[]) 3))) := by
        refine ⟨List.replicate (N + 1) 0, ⟨by rw [HSL.out]; simp, fun j h1 h2 => ?_⟩, heap_new w1 _, (Below.refl _ w1).alloc (Nat.le_refl _) _⟩
        have ej : j = S.length := by rw [HSL.out] at h2 ⊢; omega
        rw [zeros_ln, ej, lft_end]; rfl
      go_loopg [8] N (fun gk v8 wx => v8 = .int .i64 ((gk : Int) - 1) ∧ gk ≤ N ∧ Hid (∃ R, LeftFrom S R gk ∧ Ro w1.heap.size #[] R wx ∧ Below w1.heap.size w1 wx))
      case atStart => exact ⟨rfl, Nat.le_refl _, HL0.out⟩
      case round =>
        obtain ⟨rfl, hgN, HR⟩ := hrel
        cases gk with
        | succ g =>
          have hg0 : (0 : Int) ≤ ((g + 1 : Nat) : Int) - 1 := by omega
          have hgg : ((g + 1 : Nat) : Int) - 1 = (g : Int) := by omega
          rw [hgg]
          clear hgg hg0
          obtain ⟨R, ⟨hRl, hRv⟩, hro, hbel⟩ := HR.out
          have hRl2 : R.length = N + 1 := by rw [hRl, HSL.out]
          have c1 := hro.cell (i := g + 1) (by omega)
          have c0 := hro.cell (i := g) (by omega)
          have f0 := hro.free g
          have cs : wr.cell? ⟨bs, os + g, none⟩ = some (.int .i64 (ln S g)) := by
            rw [hbel.cell (p := ⟨bs, os + g, none⟩) (show bs < w1.heap.size by omega), HCS.out g (by rw [HSL.out]; omega)]
          rw [hRv (g + 1) (Nat.le_refl _) (by rw [HSL.out]; omega)] at c1
          have hst := lft_step (S := S) (i := g) (by rw [HSL.out]; omega) (fun x hx => (HSX.out x hx).1)
          have hsb : lft (natL S) (g + 1) ≤ 343597383680 := by
            have q1 := lft_le (natL S) (g + 1)
            have q2 := sum_bd S (fun x hx => (HSX.out x hx).2)
            have q3 : 1073741824 * S.length ≤ 343597383680 := Nat.mul_le_mul_left 1073741824 (show S.length ≤ 320 by rw [HSL.out]; omega)
            omega
          have hxb := HSX.out (ln S g) (by rw [ln_in (show g < S.length by rw [HSL.out]; omega)]; exact List.getElem_mem _)
          have HNX : Hid (∃ R', LeftFrom S R' g ∧ Ro w1.heap.size #[] R' ((wr.setCell ⟨w1.heap.size, g, none⟩ (.int .i64 ((lft (natL S) (g + 1) : Nat) + ln S g))).drew) ∧ Below w1.heap.size w1 ((wr.setCell ⟨w1.heap.size, g, none⟩ (.int .i64 ((lft (natL S) (g + 1) : Nat) + ln S g))).drew)) := by
            refine ⟨R.set g ((lft (natL S) (g + 1) : Nat) + ln S g), ⟨by rw [List.length_set]; exact hRl, fun j h1 h2 => ?_⟩, hro.set (by omega) _, (hbel.setCell (Nat.le_refl _) _).drew⟩
            rw [ln_set _ _ _ (by omega)]
            by_cases e : j = g
            · rw [if_pos e, e, hst]; omega
            · rw [if_neg e]; exact hRv j (by omega) h2
          clear hRv hst hro hbel HR hRl hRl2
          have hq1 : (g : Int) + 1 < (N : Int) + 1 := by omega
          have hq2 : (0 : Int) ≤ (g : Int) + 1 := by omega
          have hq3 : ((g : Int) + 1).toNat = g + 1 := by omega
          have hq4 : (g : Int) < (N : Int) + 1 := by omega
          have hq5 : (g : Int) < (N : Int) := by omega
          obtain ⟨P, hP⟩ : ∃ P : Int, ((lft (natL S) (g + 1) : Nat) : Int) = P := ⟨_, rfl⟩
          have hP0 : 0 ≤ P := by omega
          have hP1 : P ≤ 343597383680 := by omega
          rw [hP] at c1 HNX
          clear hP hsb
          generalize ln S g = X at cs HNX hxb
          generalize ln R g = Y at c0
          obtain ⟨hx0, hx1⟩ := hxb
          go_wp2_with fail
          go_region
          go_wp2_with fail
          go_roundg g
          case measure => omega
          case rel => exact ⟨rfl, by omega, HNX.out⟩
        | zero =>
          obtain ⟨R, hLF, hro, hbel⟩ := HR.out
          have HLF := hide hLF
          have HRO := hide hro
          have HBL := hide hbel
          clear hLF hro hbel HR
          obtain ⟨W2, rfl⟩ : ∃ W, W = wr := ⟨wr, rfl⟩
          have hw2 := HBL.out.size
          have hw12 : w1.heap.size < W2.heap.size := HRO.out.lt
          have HST := hide (start_c N W2 hN40)
          have HBW : Hid (Below w.heap.size w W2) := HB.out.trans (HBL.out.mono hw1)
          have hSB : (natL S).sum ≤ 343597383680 := by
            have q2 := sum_bd S (fun x hx => (HSX.out x hx).2)
            have q3 : 1073741824 * S.length ≤ 343597383680 := Nat.mul_le_mul_left 1073741824 (show S.length ≤ 320 by rw [HSL.out]; omega)
            omega
          have HSB := hide hSB
          clear hSB
          go_wp2_with (go_at_call 75; refine HST.out.mono ?_; rintro e w3 ⟨g0, c0, gs, rfl, k1, k2, k3⟩; have HGS := hide k1; have HT1 := hide k2; have HB3 := hide k3; clear k1 k2 k3)
          go_loopg [9, 10] L (fun gk v9 v10 wx => ∃ (d g0 c0 : Nat) (gs : List Nat) (T : Nat → List Int), d + gk = L ∧ v10 = .int .i64 ((d : Int) + 1) ∧ v9 = .slice (some ⟨g0, 0, none⟩) (N + 1) c0 ∧ Hid (gs.length = N + 1) ∧ Hid (TabAt W2.heap.size (N + 2) wx (.slice (some ⟨g0, 0, none⟩) (N + 1) c0) gs T) ∧ Hid (TabIs (natL S) d T) ∧ Hid (Below W2.heap.size W2 wx))
          case atStart =>
            refine ⟨0, g0, c0, gs, T0 N, by omega, rfl, rfl, HGS.out, HT1.out, ?_, HB3.out⟩
            have := tab_start (natL S)
            rw [natL_length, HSL.out] at this
            exact this
          case round =>
            obtain ⟨d, g0, c0, gs, T, hdg, rfl, rfl, HGS, HT, HTI, HB4⟩ := hrel
            have hsz4 := HB4.out.size
            cases gk with
            | zero =>
              obtain rfl : d = L := by omega
              have rr := HT.out.row' HGS.out (i := N) (by omega)
              have cc := HT.out.cell (i := N) (r := 0) (by rw [HGS.out]; omega) (by omega)
              have hv := HLI.out T (by omega) HTI.out
              rw [HSL.out] at hv
              rw [hv] at cc
              generalize gs.getD N 0 = gr at rr cc
              clear hv
              have hq : (N : Int) < (N : Int) + 1 := by omega
              have hq2 : (0 : Int) < (N : Int) + 2 := by omega
              go_wp2_with fail
              go_ret
              exact ⟨rfl, HBW.out.trans (HB4.out.mono HBW.out.size)⟩
            | succ gd =>
              have hle : (d : Int) + 1 ≤ (L : Int) := by omega
              have hlt1 : d ≤ 14 := by omega
              have hdp := deeper_c (natL S) d N T W2.heap.size g0 c0 gs 0 (w1.heap.size + 1) (some ⟨w1.heap.size, 0, none⟩) (N + 1) R wr hN40 (by rw [natL_length, HSL.out]) (by omega) HGS.out HT.out HTI.out (by rw [HLF.out.1, HSL.out]) (fun i hi => HLF.out.2 i (Nat.zero_le _) (by rw [HSL.out]; exact hi))
                ((HRO.out.ints (Nat.zero_le _) (by omega)).stay HB4.out) (by have q := Nat.mul_le_mul hlt1 HSB.out; omega) (by have := HSB.out; omega)
              have HDP := hide hdp
              clear hdp
              go_wp2_with (go_at_call 76; refine HDP.out.mono ?_; rintro e w5 ⟨V5, ⟨g5, c5, gs5, rfl, k1, k2, k3⟩, k4⟩; have HG5 := hide k1; have HT5 := hide (k2.low hsz4); have HB5 := hide (HB4.out.trans (k3.mono hsz4)); have HTI5 := hide k4; clear k1 k2 k3 k4)
              go_roundg gd
              case measure => omega
              case rel => exact ⟨d + 1, g5, c5, gs5, V5, by omega, by go_num, rfl, HG5.out, HT5.out, HTI5.out, HB5.out⟩
#print axioms least_c
end Go.Proofs.YtlakgbckopjelaaGreatDoor.L

