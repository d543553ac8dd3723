/- One level deeper: the reference's walk. -/
import Derived.Test.YtdeigchkpakdaaaLDeep
import Derived.Deep.DeepCutAuto
import Derived.Deep.RegionWith
namespace Go.Proofs.Ytdeigchkpakdaaa
open Go Go.RowKit

theorem TabAt.row' {lo m g0 c0 N : Nat} {w : World} {gs : List Nat} {T : Nat → List Int} (h : TabAt lo m w (.slice (some ⟨g0, 0, none⟩) N c0) gs T) (hN : gs.length = N) {i : Nat} (hi : i < N) : w.cell? ⟨g0, i, none⟩ = some (.slice (some ⟨gs.getD i 0, 0, none⟩) m m) := by
  subst hN; exact h.row hi
theorem TabAt.lt0 {lo m g0 c0 N : Nat} {w : World} {gs : List Nat} {T : Nat → List Int} (h : TabAt lo m w (.slice (some ⟨g0, 0, none⟩) N c0) gs T) : lo ≤ g0 ∧ g0 < w.heap.size := ownsRow_lt h.owns rfl
/-- All none. -/
def U0 (n : Nat) (i : Nat) : List Int := if i = 0 then (T0 n 0).set 1 NONE else T0 n i
theorem U0_at (n i k : Nat) (hk : k ≤ n) : ln (U0 n i) k = NONE := by
  unfold U0 T0
  by_cases hi : i = 0
  · rw [if_pos hi, if_pos rfl, ln_set _ _ _ (by simp), ln_set _ _ _ (by simp)]
    by_cases hk1 : k = 1
    · rw [if_pos hk1]
    · rw [if_neg hk1, if_neg hk1, ln_in (by simp; omega)]; simp
  · rw [if_neg hi, if_neg hi, ln_in (by simp; omega)]; simp
/-- What deeper has in hand. -/
structure Hand (B : List Nat) (d n : Nat) (T : Nat → List Int) (g0 c0 : Nat) (gs : List Nat) (w wx : World) (i k t : Nat) (U : Nat → List Int) : Prop where
  tab : TabAt w.heap.size (n + 2) wx (.slice (some ⟨g0, 0, none⟩) (n + 1) c0) gs U
  bel : Below w.heap.size w wx
  mid : Mid B d T U i k t
def DeepOk (B : List Nat) (d n : Nat) (w : World) (e : Ending) (w' : World) : Prop := ∃ U, TabOk n U w e w' ∧ TabIs B (d + 1) U

set_option maxHeartbeats 4000000 in
set_option maxRecDepth 100000 in
theorem deeper_c (B : List Nat) (d n : Nat) (T : Nat → List Int) (lo1 g1 c1 : Nat) (gs1 : List Nat) (lo2 hi2 : Nat) (a2 : Option Addr) (cap2 : Nat) (lf : List Int) (w : World) (hn : n ≤ 40) (hBn : B.length = n) (h1 : 1 ≤ n) (hgs1 : gs1.length = n + 1) (hT : TabAt lo1 (n + 2) w (.slice (some ⟨g1, 0, none⟩) (n + 1) c1) gs1 T) (hTI : TabIs B d T)
    (hlf : lf.length = n + 1) (hl : ∀ i, i ≤ n → ln lf i = (lft B i : Nat)) (hI : Ints lo2 hi2 w a2 lf) (hbd : d * B.sum < 1152921504606846976) (hsum : B.sum ≤ 100000000000) :
    Calls Try.prog 22 #[.slice (some ⟨g1, 0, none⟩) (n + 1) c1, .slice a2 (n + 1) cap2, .int .i64 n] w (DeepOk B d n w) := by
  have HBN := hide hBn
  have HG1 := hide hgs1
  have HT := hide hT
  have HTI := hide hTI
  have HLF := hide hlf
  have HLL := hide hl
  have HI := hide hI
  have HBD := hide hbd
  have HST := hide (start_c n w hn)
  clear hBn hgs1 hT hTI hlf hl hI hbd
  go_enter Try.func22, Try.ntmps22
  go_upto_region 2 with (go_at_call 21; refine HST.out.mono ?_; rintro e w1 ⟨g0, c0, gs, rfl, k1, k2, k3⟩; have HGS := hide k1; have HT1 := hide k2; have HB1 := hide k3; clear k1 k2 k3)
  go_cut [] (fun wx => TabAt w.heap.size (n + 2) wx (.slice (some ⟨g0, 0, none⟩) (n + 1) c0) gs (U0 n) ∧ Below w.heap.size w wx)
  case first =>
    have r0 := HT1.out.row' HGS.out (i := 0) (by omega)
    have cl := HT1.out.cell (i := 0) (r := 1) (by rw [HGS.out]; omega) (by omega)
    have fl := HT1.out.free (i := 0) (by rw [HGS.out]; omega) 1
    have hst := HT1.out.set (i := 0) (r := 1) (by rw [HGS.out]; omega) (by omega) NONE
    have HST2 : Hid (TabAt w.heap.size (n + 2) (w1.setCell ⟨gs.getD 0 0, 1, none⟩ (.int .i64 NONE)) (.slice (some ⟨g0, 0, none⟩) (n + 1) c0) gs (U0 n)) := hst.congr (fun i _ => rfl)
    have HBS := hide (HB1.out.setCell (p := ⟨gs.getD 0 0, 1, none⟩) (HT1.out.rows 0 (by rw [HGS.out]; omega)).1 (.int .i64 NONE))
    have hq1 : (1 : Int) < (n : Int) + 2 := by omega
    have hq2 : (0 : Int) < (n : Int) + 1 := by omega
    generalize gs.getD 0 0 = gr at r0 cl fl HST2 HBS
    generalize ln (T0 n 0) 1 = V at cl
    have hN := none_c
    clear hst
    generalize NONE = Q at HST2 HBS hN
    have HNN := hide hN
    clear hN
    go_region_with ((go_at_call 28; refine (HNN.out _).mono ?_; rintro e w2 ⟨rfl, rfl⟩))
    all_goals (go_wp2_with fail)
    all_goals go_meet
    all_goals exact ⟨⟨HST2.out.owns, HST2.out.rows, HST2.out.dist⟩, HBS.out.drew⟩
  case rest =>
    obtain ⟨ht0, hb0⟩ := hcut
    have HH0 : Hid (Hand B d n T g0 c0 gs w wc 0 0 0 (U0 n)) := ⟨ht0, hb0, Mid.start (fun i k hi hk => U0_at n i k (by rw [← HBN.out]; exact hk))⟩
    clear ht0 hb0 HT1 HB1 HST
    obtain ⟨b2, off2, _, hb2, hb2w, rfl, hcell2⟩ := HI.out.resolve_left (by rw [HLF.out]; omega)
    have HC2 := hide hcell2
    clear hcell2
    go_wp2_with fail
    go_loopg [8] (n + 1) (fun gk v8 wx => ∃ (i : Nat) (U : Nat → List Int), i + gk = n + 1 ∧ v8 = .int .i64 i ∧ Hid (Hand B d n T g0 c0 gs w wx i 0 0 U))
    case atStart => exact ⟨0, U0 n, by omega, rfl, HH0.out⟩
    case round =>
      obtain ⟨i, U, hig, rfl, HH⟩ := hrel
      cases gk with
      | zero =>
        have hle : ¬ (i : Int) ≤ (n : Int) := by omega
        have HIN := hide (show i = n + 1 by omega)
        go_wp2_with fail
        go_ret
        refine ⟨U, ⟨g0, c0, gs, rfl, HGS.out, HH.out.tab, HH.out.bel⟩, ?_⟩
        have hm := HH.out.mid
        rw [HIN.out, ← HBN.out] at hm
        exact hm.done HTI.out (by rw [HBN.out]; exact h1)
      | succ gi =>
        have hle : (i : Int) ≤ (n : Int) := by omega
        go_wp2_with fail
        go_loopg [9] (n + 1) (fun gk v9 wx => ∃ (k : Nat) (U : Nat → List Int), k + gk = n + 1 ∧ v9 = .int .i64 k ∧ Hid (Hand B d n T g0 c0 gs w wx i k 0 U))
        case atStart => exact ⟨0, U, by omega, rfl, HH.out⟩
        case round =>
          obtain ⟨k, U1, hkg, rfl, HK⟩ := hrel
          cases gk with
          | zero =>
            have hlek : ¬ (k : Int) ≤ (n : Int) := by omega
            have HKN := hide (show k = n + 1 by omega)
            go_wp2_with fail
            go_roundg gi
            case measure => omega
            case rel =>
              refine ⟨i + 1, U1, by omega, by go_num, HK.out.tab, HK.out.bel, ?_⟩
              have hm := HK.out.mid
              rw [HKN.out, ← HBN.out] at hm
              exact hm.next_i (by rw [HBN.out]; exact h1)
          | succ gk2 =>
            have hlek : (k : Int) ≤ (n : Int) := by omega
            have hin : (i : Int) < (n : Int) + 1 := by omega
            have hkn : (k : Int) < (n : Int) + 2 := by omega
            have hT2 := HT.out.kept (Kept.of_below HK.out.bel) (fun b _ h2 h3 => by omega)
            have rr := hT2.row' HG1.out (i := i) (by omega)
            have cc := hT2.cell (i := i) (r := k) (by rw [HG1.out]; omega) (by omega)
            have cl : wr.cell? ⟨b2, off2 + i, none⟩ = some (.int .i64 ((lft B i : Nat) : Int)) := by
              rw [HK.out.bel.cell (p := ⟨b2, off2 + i, none⟩) (show b2 < w.heap.size by omega), HC2.out i (by rw [HLF.out]; omega), HLL.out i (by omega)]
            have hlb := lft_le B i
            obtain ⟨X, hX⟩ : ∃ X, ln (T i) k = X := ⟨_, rfl⟩
            have EX := hide hX
            rw [hX] at cc
            generalize gs1.getD i 0 = gr at rr cc
            clear hX hT2
            have hN := none_c
            have hNd : (1152921504606846976 : Int) = NONE := rfl
            have HND := hide hNd
            clear hNd
            obtain ⟨Q, hQ⟩ : ∃ Q, NONE = Q := ⟨_, rfl⟩
            have HQ := hide hQ
            rw [hQ] at hN
            clear hQ
            by_cases hXQ : Q ≤ X
            · have HNK : Hid (Mid B d T U1 i (k + 1) 0) := HK.out.mid.next_k (fun t' c _ hr _ _ => by
                have f := HTI.out.full i k c (by rw [HBN.out]; omega) (by rw [HBN.out]; omega) hr
                have g := rch_cost hr
                have h := HBD.out
                have q1 := HQ.out
                have q2 := HND.out
                rw [EX.out] at f
                omega)
              go_wp2_with fail
              go_quiet ((go_at_call 28; exact Calls.quiet_of_same (hN _)))
              go_wp2_with fail
              go_roundg gk2
              case measure => omega
              case rel => exact ⟨k + 1, U1, by omega, by go_num, ⟨HK.out.tab.owns, HK.out.tab.rows, HK.out.tab.dist⟩, ⟨HK.out.bel.os, HK.out.bel.tape, HK.out.bel.output, HK.out.bel.size, HK.out.bel.block⟩, HNK.out⟩
            · obtain ⟨c, hc, hrc⟩ := HTI.out.sound i k (by rw [HBN.out]; omega) (by rw [HBN.out]; omega) (by rw [EX.out, HQ.out]; omega)
              have HRC := hide hrc
              have HCX := hide hc
              have hX0 : 0 ≤ X := by rw [← EX.out, hc]; omega
              have hXb : X < 1152921504606846976 := by have q1 := HQ.out; have q2 := HND.out; omega
              clear hc hrc
              go_wp2_with fail
              go_quiet ((go_at_call 28; exact Calls.quiet_of_same (hN _)))
              have rr2 : (wr.drewN nq).cell? ⟨g1, i, none⟩ = some (.slice (some ⟨gr, 0, none⟩) (n + 2) (n + 2)) := rr
              have cc2 : (wr.drewN nq).cell? ⟨gr, k, none⟩ = some (.int .i64 X) := cc
              have cl2 : (wr.drewN nq).cell? ⟨b2, off2 + i, none⟩ = some (.int .i64 ((lft B i : Nat) : Int)) := cl
              have HK2 : Hid (Hand B d n T g0 c0 gs w (wr.drewN nq) i k 0 U1) := ⟨⟨HK.out.tab.owns, HK.out.tab.rows, HK.out.tab.dist⟩, ⟨HK.out.bel.os, HK.out.bel.tape, HK.out.bel.output, HK.out.bel.size, HK.out.bel.block⟩, HK.out.mid⟩
              clear rr cc cl HK
              generalize wr.drewN nq = wa at rr2 cc2 cl2 HK2 ⊢
              go_wp2_with fail
              go_quiet (fail)
              have HK3 : Hid (Hand B d n T g0 c0 gs w (wa.drewN nq) i k 0 U1) := ⟨⟨HK2.out.tab.owns, HK2.out.tab.rows, HK2.out.tab.dist⟩, ⟨HK2.out.bel.os, HK2.out.bel.tape, HK2.out.bel.output, HK2.out.bel.size, HK2.out.bel.block⟩, HK2.out.mid⟩
              clear rr2 cc2 cl2 HK2
              generalize wa.drewN nq = wb at HK3 ⊢
              obtain ⟨F, hF⟩ : ∃ F : Int, ((lft B i : Nat) : Int) = F := ⟨_, rfl⟩
              have HF := hide hF
              have hF0 : 0 ≤ F := by omega
              have hF1 : F ≤ 100000000000 := by omega
              rw [hF]
              clear hF hlb
              go_wp2_with fail
              go_loopg [11] (2 * k + 1) (fun gt v11 wx => ∃ (t : Nat) (U : Nat → List Int), t + gt = 2 * k + 1 ∧ v11 = .int .i64 t ∧ Hid (Hand B d n T g0 c0 gs w wx i k t U))
              case atStart => exact ⟨0, U1, by omega, rfl, HK3.out⟩
              case round =>
                obtain ⟨t, U2, htg, rfl, HT3⟩ := hrel
                by_cases hex : t ≤ 2 * k ∧ i + t ≤ n
                · obtain ⟨he1, he2⟩ := hex
                  have he1' : (t : Int) ≤ 2 * (k : Int) := by omega
                  have he2' : (i : Int) + (t : Int) ≤ (n : Int) := by omega
                  obtain ⟨r, hr⟩ : ∃ r : Nat, 2 * (k : Int) - (t : Int) = (r : Int) := ⟨2 * k - t, by omega⟩
                  have HRR := hide (show 2 * k - t = r by omega)
                  have hi0 : (0 : Int) ≤ (i : Int) + (t : Int) := by omega
                  have hi1 : (i : Int) + (t : Int) < (n : Int) + 1 := by omega
                  have hi2 : ((i : Int) + (t : Int)).toNat = i + t := by omega
                  by_cases hrn : r ≤ n - (i + t)
                  · have hrn' : (r : Int) ≤ (n : Int) - (i : Int) - (t : Int) := by omega
                    have hr2 : (r : Int) < (n : Int) + 2 := by omega
                    have ro := HT3.out.tab.row' HGS.out (i := i + t) (by omega)
                    have co := HT3.out.tab.cell (i := i + t) (r := r) (by rw [HGS.out]; omega) (by omega)
                    have fo := HT3.out.tab.free (i := i + t) (by rw [HGS.out]; omega) r
                    have hset := HT3.out.tab.set (i := i + t) (r := r) (by rw [HGS.out]; omega) (by omega) (X + F)
                    have HBS := hide (HT3.out.bel.setCell (p := ⟨gs.getD (i + t) 0, r, none⟩) (HT3.out.tab.rows (i + t) (by rw [HGS.out]; omega)).1 (.int .i64 (X + F)))
                    have hlen : (U2 (i + t)).length = n + 2 := (HT3.out.tab.rows (i + t) (by rw [HGS.out]; omega)).2.2
                    have HSET := hide hset
                    have HLEN := hide hlen
                    obtain ⟨V, hV⟩ : ∃ V, ln (U2 (i + t)) r = V := ⟨_, rfl⟩
                    have HV := hide hV
                    rw [hV] at co
                    clear hset hlen hV
                    generalize gs.getD (i + t) 0 = go at ro co fo HSET HBS
                    by_cases hlt : X + F < V
                    · have HM : Hid (Mid B d T (fun j => if j = i + t then (U2 (i + t)).set r (X + F) else U2 j) i k (t + 1)) := by
                        have e1 : ln (T i) k + (lft B i : Int) = X + F := by rw [EX.out, HF.out]
                        refine HT3.out.mid.lay HRC.out HCX.out he1 (by rw [HBN.out]; exact he2) (by rw [HBN.out, HRR.out]; exact hrn) (by rw [HRR.out, HV.out, e1]; exact hlt) (fun i' k' h1 h2 => ?_)
                        rw [e1, HRR.out]
                        by_cases e : i' = i + t
                        · subst e
                          rw [if_pos rfl, ln_set _ _ _ (by rw [HLEN.out]; omega)]
                          by_cases e2 : k' = r
                          · rw [if_pos e2, if_pos ⟨rfl, e2⟩]
                          · rw [if_neg e2, if_neg (fun h => e2 h.2)]
                        · rw [if_neg e, if_neg (fun h => e h.1)]
                      go_wp2_with fail
                      go_roundg (2 * k - t)
                      case measure => omega
                      case rel => exact ⟨t + 1, _, by omega, by go_num, HSET.out, HBS.out, HM.out⟩
                    · have HM : Hid (Mid B d T U2 i k (t + 1)) := HT3.out.mid.skip (fun _ _ _ => by
                        rw [HRR.out, HV.out, EX.out, HF.out]; omega)
                      go_wp2_with fail
                      go_roundg (2 * k - t)
                      case measure => omega
                      case rel => exact ⟨t + 1, U2, by omega, by go_num, HT3.out.tab, HT3.out.bel, HM.out⟩
                  · have hrn' : ¬ (r : Int) ≤ (n : Int) - (i : Int) - (t : Int) := by omega
                    have HM : Hid (Mid B d T U2 i k (t + 1)) := HT3.out.mid.skip (fun h _ _ => by
                      rw [HBN.out, HRR.out] at h; omega)
                    go_wp2_with fail
                    go_roundg (2 * k - t)
                    case measure => omega
                    case rel => exact ⟨t + 1, U2, by omega, by go_num, HT3.out.tab, HT3.out.bel, HM.out⟩
                · have HM : Hid (Mid B d T U2 i (k + 1) 0) := HT3.out.mid.next_k (fun t' c' h1 _ h3 h4 => by rw [HBN.out] at h4; omega)
                  by_cases he1 : t ≤ 2 * k
                  · have he1' : (t : Int) ≤ 2 * (k : Int) := by omega
                    have he2' : ¬ (i : Int) + (t : Int) ≤ (n : Int) := by omega
                    go_wp2_with fail
                    go_roundg gk2
                    case measure => omega
                    case rel => exact ⟨k + 1, U2, by omega, by go_num, HT3.out.tab, HT3.out.bel, HM.out⟩
                  · have he1' : ¬ (t : Int) ≤ 2 * (k : Int) := by omega
                    go_wp2_with fail
                    go_roundg gk2
                    case measure => omega
                    case rel => exact ⟨k + 1, U2, by omega, by go_num, HT3.out.tab, HT3.out.bel, HM.out⟩
#print axioms deeper_c
end Go.Proofs.Ytdeigchkpakdaaa
