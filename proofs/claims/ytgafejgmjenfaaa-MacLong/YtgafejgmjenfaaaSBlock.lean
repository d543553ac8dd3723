/- The reference's block: contract. -/
import Derived.Test.YtgafejgmjenfaaaSRow
import Derived.Test.YtgafejgmjenfaaaSSum
namespace Go.Proofs.Ytgafejgmjenfaaa.S
set_option maxRecDepth 100000
open Go Go.RowKit

theorem info5w (s : St) : (Try.prog.info? 38).map (·.size) = some (stA s).size := by
  have h : (stA s).size = 5 := rfl
  rw [h]; exact (zero_of_info (by kernel_rfl : (Try.prog.info? 38).map (fun i => (i.zero, i.size)) = some (some (.agg (stA ⟨0, 0, 0, 0, 0⟩)), 5))).2
theorem zero5i : (Try.prog.info? 38).map (fun i => (i.zero, i.size)) = some (some (.agg (stA ⟨0, 0, 0, 0, 0⟩)), 5) := by kernel_rfl
theorem zero5w : (∀ w, (zeroValue 38).run Try.prog w = .ok (.agg (stA ⟨0, 0, 0, 0, 0⟩)) w) := (zero_of_info zero5i).1
theorem stA_one (s : St) : (stA s).all (·.oneCell') = true := by simp [stA, Value.oneCell']

theorem built_five (s : St) : Try.prog.built 38 [(0, .int .u32 (s.a : Int)), (1, .int .u32 (s.b : Int)), (2, .int .u32 (s.c : Int)), (3, .int .u32 (s.d : Int)), (4, .int .u32 (s.e : Int))] = some (stA s) := by kernel_rfl
set_option maxHeartbeats 4000000 in
theorem block_c (b off cap : Nat) (bs : List Nat) (s : St) (f : Nat → Nat) (w : World) (hs : s.Ok) (hb : Bs w b off bs) (hby : By bs) (hl : bs.length = 64) (hbw : b < w.heap.size) (hf : Wds bs f) :
    Calls Try.prog 20 #[.agg (stA s), .slice (some ⟨b, off, none⟩) 64 cap] w fun e w' => e = .returned (.agg (stA (add5 s (rnds f 80 s)))) ∧ Below w.heap.size w w' := by
  have hz := zero5w
  have HS := hide hs
  have HF := hide hf
  have BA := hide (((Below.refl _ w).alloc (Nat.le_refl _) (.cells (stA s) 38)).alloc (by simp) (.cells (stA ⟨0, 0, 0, 0, 0⟩) 38) : Below w.heap.size w _)
  have HRW := hide (row_c b off cap bs f ((w.alloc (.cells (stA s) 38)).alloc (.cells (stA ⟨0, 0, 0, 0, 0⟩) 38)) (hb.below BA.out hbw) hby hl (Nat.lt_of_lt_of_le hbw BA.out.size) hf)
  have R0 := hide (heap_new1 w (.cells (stA s) 38) (.cells (stA ⟨0, 0, 0, 0, 0⟩) 38))
  have R1 := hide (heap_new2 w (.cells (stA s) 38) (.cells (stA ⟨0, 0, 0, 0, 0⟩) 38))
  clear hs hf hb hby hl
  have hsz2 : ((w.alloc (.cells (stA s) 38)).alloc (.cells (stA ⟨0, 0, 0, 0, 0⟩) 38)).heap.size = w.heap.size + 2 := by simp
  go_enter Try.func20, Try.ntmps20
  go_upto_region 2 with (go_at_call 26; refine HRW.out.mono ?_; rintro e w1 ⟨g, c, rfl, hg, hc, hb1⟩; have HC := hide hc; have B1 := hide hb1; clear hc hb1)
  have S0 : Hid (w1.heap[w.heap.size]? = some (.cells (stA s) 38 (0, 0))) := (B1.out.block _ (by rw [hsz2]; omega)).trans R0.out
  have S1 : Hid (w1.heap[w.heap.size + 1]? = some (.cells (stA ⟨0, 0, 0, 0, 0⟩) 38 (0, 0))) := (B1.out.block _ (by rw [hsz2]; omega)).trans R1.out
  have BW : Hid (Below w.heap.size w w1) := BA.out.trans (B1.out.mono BA.out.size)
  clear HRW R0 R1 BA B1 hsz2
  have c0 : w1.cell? ⟨w.heap.size, 0, none⟩ = some (.int .u32 (s.a : Int)) := cells_of S0.out 0
  have c1 : w1.cell? ⟨w.heap.size, 1, none⟩ = some (.int .u32 (s.b : Int)) := cells_of S0.out 1
  have c2 : w1.cell? ⟨w.heap.size, 2, none⟩ = some (.int .u32 (s.c : Int)) := cells_of S0.out 2
  have c3 : w1.cell? ⟨w.heap.size, 3, none⟩ = some (.int .u32 (s.d : Int)) := cells_of S0.out 3
  have c4 : w1.cell? ⟨w.heap.size, 4, none⟩ = some (.int .u32 (s.e : Int)) := cells_of S0.out 4
  have hs1 := lt_of_block' S1.out
  go_wp2_with fail
  go_loopg [6, 7, 8, 9, 10, 11] 80 (fun gk v6 v7 v8 v9 v10 v11 wx => ∃ t : Nat, t + gk = 80 ∧ v11 = .int .i64 t ∧ v6 = .int .u32 ((rnds f t s).a : Int) ∧ v7 = .int .u32 ((rnds f t s).b : Int) ∧ v8 = .int .u32 ((rnds f t s).c : Int) ∧ v9 = .int .u32 ((rnds f t s).d : Int) ∧ v10 = .int .u32 ((rnds f t s).e : Int) ∧ Hid (Below w1.heap.size w1 wx))
  case atStart => exact ⟨0, by omega, rfl, rfl, rfl, rfl, rfl, rfl, Below.refl _ _⟩
  case round =>
    obtain ⟨t, htg, rfl, rfl, rfl, rfl, rfl, rfl, BX⟩ := hrel
    clear c0 c1 c2 c3 c4
    have HR := hide (rnds_ok f t HS.out)
    obtain ⟨r, hr⟩ : ∃ r, r = rnds f t s := ⟨_, rfl⟩
    have HRE := hide hr
    rw [← hr] at HR ⊢
    clear hr
    obtain ⟨ra, rb, rc, rd, re⟩ := r
    simp only at *
    have hra := HR.out.a
    have hrb := HR.out.b
    have hrc := HR.out.c
    have hrd := HR.out.d
    have hre := HR.out.e
    simp only at hra hrb hrc hrd hre
    cases gk with
    | zero =>
      obtain rfl : t = 80 := by omega
      have HE := hide (show add5 s (rnds f 80 s) = ⟨(s.a + ra) % 4294967296, (s.b + rb) % 4294967296, (s.c + rc) % 4294967296, (s.d + rd) % 4294967296, (s.e + re) % 4294967296⟩ by rw [← HRE.out]; rfl)
      have T0 : Hid (wr.heap[w.heap.size]? = some (.cells (stA s) 38 (0, 0))) := (BX.out.block _ (by omega)).trans S0.out
      have T1 : Hid (wr.heap[w.heap.size + 1]? = some (.cells (stA ⟨0, 0, 0, 0, 0⟩) 38 (0, 0))) := (BX.out.block _ hs1).trans S1.out
      have BR : Hid (Below w.heap.size w wr) := BW.out.trans (BX.out.mono BW.out.size)
      clear HRE S0 S1 BW BX HR HS HF HC
      obtain ⟨sa, sb, sc, sd, se⟩ := s
      simp only at *
      have c0 : wr.cell? ⟨w.heap.size, 0, none⟩ = some (.int .u32 (sa : Int)) := cells_of T0.out 0
      have c1 : wr.cell? ⟨w.heap.size, 1, none⟩ = some (.int .u32 (sb : Int)) := cells_of T0.out 1
      have c2 : wr.cell? ⟨w.heap.size, 2, none⟩ = some (.int .u32 (sc : Int)) := cells_of T0.out 2
      have c3 : wr.cell? ⟨w.heap.size, 3, none⟩ = some (.int .u32 (sd : Int)) := cells_of T0.out 3
      have c4 : wr.cell? ⟨w.heap.size, 4, none⟩ = some (.int .u32 (se : Int)) := cells_of T0.out 4
      have hge : ¬ ((80 : Nat) : Int) < 80 := by omega
      have HI := hide (info5w ⟨(sa + ra) % 4294967296, (sb + rb) % 4294967296, (sc + rc) % 4294967296, (sd + rd) % 4294967296, (se + re) % 4294967296⟩)
      have HON := hide (stA_one ⟨(sa + ra) % 4294967296, (sb + rb) % 4294967296, (sc + rc) % 4294967296, (sd + rd) % 4294967296, (se + re) % 4294967296⟩)
      have HBU := hide (built_five ⟨(sa + ra) % 4294967296, (sb + rb) % 4294967296, (sc + rc) % 4294967296, (sd + rd) % 4294967296, (se + re) % 4294967296⟩)
      obtain ⟨oc, hoc⟩ : ∃ oc, oc = stA ⟨(sa + ra) % 4294967296, (sb + rb) % 4294967296, (sc + rc) % 4294967296, (sd + rd) % 4294967296, (se + re) % 4294967296⟩ := ⟨_, rfl⟩
      have HSZ := hide (show (stA ⟨0, 0, 0, 0, 0⟩).size = oc.size by rw [hoc]; rfl)
      have HOC := hide (show Value.agg oc = .agg (stA (add5 ⟨sa, sb, sc, sd, se⟩ (rnds f 80 ⟨sa, sb, sc, sd, se⟩))) by rw [hoc, ← HE.out])
      rw [← hoc] at HI HON HBU
      clear hoc HE
      have e0 := add32 sa ra
      have e1 := add32 sb rb
      have e2 := add32 sc rc
      have e3 := add32 sd rd
      have e4 := add32 se re
      generalize (sa + ra) % 4294967296 = y0 at *
      generalize (sb + rb) % 4294967296 = y1 at *
      generalize (sc + rc) % 4294967296 = y2 at *
      generalize (sd + rd) % 4294967296 = y3 at *
      generalize (se + re) % 4294967296 = y4 at *
      go_wp2_with (first
        | (refine wpList_build rfl 38 _ rfl _ oc HBU.out (by simp [Act.eval]; exact ⟨e0, e1, e2, e3, e4⟩) ?_)
        | (refine wpList_store_row rfl 38 (.tmp 4) (.tmp 100) rfl (w.heap.size + 1) oc (by rfl) (by rfl) (stA ⟨0, 0, 0, 0, 0⟩) 38 T1.out HI.out HSZ.out HON.out ?_; intro w6 G6 K6))
      have hld : (loadVar 38 ⟨w.heap.size + 1, 0, none⟩).run Try.prog w6 = .ok (.agg oc) w6 :=
        run_loadVar_row _ _ 38 38 oc (0, 0) _ G6.out Try.underlying38 rfl HI.out
      refine bodyPost_ret (v := .agg oc) ?_ rfl ⟨by rw [HOC.out], BR.out.trans (K6.out.below BR.out.size (fun i hi e => by omega))⟩
      simp [results, asAddr, hld]
    | succ g1 =>
      have hlt : (t : Int) < 80 := by omega
      have HL5 := fun W => hide (left5_c ra hra W)
      have HL30 := fun W => hide (left30_c rb hrb W)
      have ct : wr.cell? ⟨g, t, none⟩ = some (.int .u32 (f t : Nat)) := (BX.out.cell (p := ⟨g, t, none⟩) hg).trans (HC.out t (by omega))
      have HN := hide (show rnds f (t + 1) s = ⟨(rot 5 ra + fF t rb rc rd + re + kF t + f t) % 4294967296, ra, rot 30 rb, rc, rd⟩ by rw [rnds, ← HRE.out]; rfl)
      have hfl := fF_lt t hrb hrc hrd
      have hkl := kF_lt t
      have h5l := rot_lt 5 hra
      have hwl := HF.out.lt t
      have i0 : (0 : Int) ≤ (t : Int) := by omega
      generalize rot 5 ra = R5 at *
      generalize rot 30 rb = R30 at *
      generalize f t = Fw at *
      have n1 : bits .xor .u32 4294967295 (rb : Int) = ((4294967295 ^^^ rb : Nat) : Int) := xor32 4294967295 rb (by omega) hrb
      have hnb : 4294967295 ^^^ rb < 4294967296 := xor_lt (by omega) hrb
      have a1 := and32 rb rc hrb hrc
      have a2 := and32 _ rd hnb hrd
      have o1 := or32 _ _ (@and_lt rb rc hrc) (@and_lt (4294967295 ^^^ rb) rd hrd)
      have x1 := xor32 rb rc hrb hrc
      have x2 := xor32 _ rd (xor_lt hrb hrc) hrd
      have a3 := and32 rb rd hrb hrd
      have a4 := and32 rc rd hrc hrd
      have o2 := or32 _ _ (@and_lt rb rc hrc) (@and_lt rb rd hrd)
      have o3 := or32 _ _ (or_lt (@and_lt rb rc hrc) (@and_lt rb rd hrd)) (@and_lt rc rd hrd)
      by_cases h1 : t < 20
      · have hf : fF t rb rc rd = (rb &&& rc) ||| ((4294967295 ^^^ rb) &&& rd) := if_pos h1
        have hk : kF t = 1518500249 := if_pos h1
        have h1' : (t : Int) < 20 := by omega
        rw [← hf] at o1
        rw [hk] at HN hkl
        generalize fF t rb rc rd = Ff at *
        clear hf hk a3 a4 o2 o3 h1
        go_upto_region 20 with fail
        go_quiet ((go_at_call 27; exact Calls.quiet_of (HL5 _).out))
        go_wp2_with (go_at_call 27; refine (HL30 _).out.mono ?_; rintro e w' ⟨rfl, m, rfl⟩)
        go_roundg g1
        case measure => omega
        case rel => exact ⟨t + 1, by omega, by go_num, by rw [HN.out]; rfl, by rw [HN.out], by rw [HN.out], by rw [HN.out], by rw [HN.out], (⟨BX.out.os, BX.out.tape, BX.out.output, BX.out.size, BX.out.block⟩ : Below w1.heap.size w1 (wr.drewN (nq + m)))⟩
      · have h1' : ¬ (t : Int) < 20 := by omega
        by_cases h2 : t < 40
        · have hf : fF t rb rc rd = (rb ^^^ rc) ^^^ rd := by unfold fF; rw [if_neg h1, if_pos h2]
          have hk : kF t = 1859775393 := by unfold kF; rw [if_neg h1, if_pos h2]
          have h2' : (t : Int) < 40 := by omega
          rw [← hf] at x2
          rw [hk] at HN hkl
          generalize fF t rb rc rd = Ff at *
          clear hf hk a1 a2 a3 a4 o1 o2 o3 h1 h2
          go_upto_region 20 with fail
          go_quiet ((go_at_call 27; exact Calls.quiet_of (HL5 _).out))
          go_wp2_with (go_at_call 27; refine (HL30 _).out.mono ?_; rintro e w' ⟨rfl, m, rfl⟩)
          go_roundg g1
          case measure => omega
          case rel => exact ⟨t + 1, by omega, by go_num, by rw [HN.out]; rfl, by rw [HN.out], by rw [HN.out], by rw [HN.out], by rw [HN.out], (⟨BX.out.os, BX.out.tape, BX.out.output, BX.out.size, BX.out.block⟩ : Below w1.heap.size w1 (wr.drewN (nq + m)))⟩
        · have h2' : ¬ (t : Int) < 40 := by omega
          by_cases h3 : t < 60
          · have hf : fF t rb rc rd = ((rb &&& rc) ||| (rb &&& rd)) ||| (rc &&& rd) := by unfold fF; rw [if_neg h1, if_neg h2, if_pos h3]
            have hk : kF t = 2400959708 := by unfold kF; rw [if_neg h1, if_neg h2, if_pos h3]
            have h3' : (t : Int) < 60 := by omega
            rw [← hf] at o3
            rw [hk] at HN hkl
            generalize fF t rb rc rd = Ff at *
            clear hf hk a2 o1 h1 h2 h3
            go_upto_region 20 with fail
            go_quiet ((go_at_call 27; exact Calls.quiet_of (HL5 _).out))
            go_wp2_with (go_at_call 27; refine (HL30 _).out.mono ?_; rintro e w' ⟨rfl, m, rfl⟩)
            go_roundg g1
            case measure => omega
            case rel => exact ⟨t + 1, by omega, by go_num, by rw [HN.out]; rfl, by rw [HN.out], by rw [HN.out], by rw [HN.out], by rw [HN.out], (⟨BX.out.os, BX.out.tape, BX.out.output, BX.out.size, BX.out.block⟩ : Below w1.heap.size w1 (wr.drewN (nq + m)))⟩
          · have hf : fF t rb rc rd = (rb ^^^ rc) ^^^ rd := by unfold fF; rw [if_neg h1, if_neg h2, if_neg h3]
            have hk : kF t = 3395469782 := by unfold kF; rw [if_neg h1, if_neg h2, if_neg h3]
            have h3' : ¬ (t : Int) < 60 := by omega
            rw [← hf] at x2
            rw [hk] at HN hkl
            generalize fF t rb rc rd = Ff at *
            clear hf hk a1 a2 a3 a4 o1 o2 o3 h1 h2 h3
            go_upto_region 20 with fail
            go_quiet ((go_at_call 27; exact Calls.quiet_of (HL5 _).out))
            go_wp2_with (go_at_call 27; refine (HL30 _).out.mono ?_; rintro e w' ⟨rfl, m, rfl⟩)
            go_roundg g1
            case measure => omega
            case rel => exact ⟨t + 1, by omega, by go_num, by rw [HN.out]; rfl, by rw [HN.out], by rw [HN.out], by rw [HN.out], by rw [HN.out], (⟨BX.out.os, BX.out.tape, BX.out.output, BX.out.size, BX.out.block⟩ : Below w1.heap.size w1 (wr.drewN (nq + m)))⟩
end Go.Proofs.Ytgafejgmjenfaaa.S
