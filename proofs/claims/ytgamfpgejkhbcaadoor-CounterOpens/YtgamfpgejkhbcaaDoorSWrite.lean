/- Bytes are written to a hash: contract of Write. -/
import Derived.Test.YtgamfpgejkhbcaaDoorSAbs
namespace Go.Proofs.YtgamfpgejkhbcaaDoor.S
set_option maxRecDepth 100000
open Go Go.RowKit

/-- The bytes ys lie where a slice leads, in another block than bh. -/
def ArgB (bh : Nat) (w : World) (a : Option Addr) (ys : List Nat) : Prop :=
  ys.length = 0 ∨ ∃ b off, a = some ⟨b, off, none⟩ ∧ b < w.heap.size ∧ b ≠ bh ∧ Bs w b off ys
theorem elemB : Tryd.prog.elem 22 = 5 := by kernel_rfl
theorem slice_tail (a : Option Addr) (len cap m : Nat) (h1 : m ≤ len) :
    ∃ a', (∀ W, (Instr.sliceAt 22 (.slice a len cap) (some (.int .i64 (m : Int))) none none).run Tryd.prog W = .ok (.slice a' (len - m) (cap - m)) W) ∧ (m < cap → ∀ b off, a = some ⟨b, off, none⟩ → a' = some ⟨b, off + m, none⟩) := by
  refine ⟨if cap = m then a else a.map (·.add (m * 1)), fun W => ?_, ?_⟩
  · rw [run_sliceAt_slice _ _ _ _ _ _ (by kernel_rfl), run_slice_l W 22 a len cap (by kernel_rfl) .i64 (m : Int) (by omega) (by omega), elemB, size5]
    simp only [Result.andThen_ok, sliced, Int.toNat_natCast]
  · intro hc b off e
    rw [if_neg (by omega), e]
    simp [addr_plain]
theorem copy_run (ty : TypeId) (bh : Nat) (s : St) (n : Nat) (q zs : List Nat) (r len cap cap2 b off : Nat) (w : World) (hh : HashIn w bh s n q) (hq : q.length = 64) (hr : r < 64) (hb : Bs w b off zs) (hz : zs.length = Nat.min len (64 - r)) :
    ∃ w2, (Builtin.copy_ #[22, 22] ty #[.slice (some ⟨bh, 6 + r, none⟩) (64 - r) cap2, .slice (some ⟨b, off, none⟩) len cap]).run Tryd.prog w = .ok (goInt zs.length) w2 ∧ HashIn w2 bh s n (lay q r zs) ∧ Kept (fun k => k = bh) w w2 := by
  obtain ⟨i5, hi5, _, hs5, _⟩ := info_parts infoB
  have hmin : Nat.min len (64 - r) ≤ 64 - r := Nat.min_le_right _ _
  have hrun := run_copy_row (P := Tryd.prog) w 22 22 ty 5 bh (6 + r) (64 - r) cap2 ⟨b, off, none⟩ len cap (hA s n q) 97 (zs.map fun (x : Nat) => Value.int .u8 (x : Int)) Tryd.underlying22 (by rw [hi5]; simp [hs5]) hh (by simpa using hz)
    (fun j v hj => by
      rw [addr_plain]
      have hjl : j < zs.length := by
        rcases Nat.lt_or_ge j zs.length with h' | h'
        · exact h'
        · rw [List.getElem?_eq_none (by simpa using h')] at hj; cases hj
      rw [hb j hjl, ← hj]
      simp [hjl]) (by rw [hA_size]; simp; omega) (fun v hv => by simp at hv; obtain ⟨x, _, rfl⟩ := hv; rfl)
  rw [lay_cells] at hrun
  exact ⟨_, by simpa using hrun, setRow_heap' w bh _ _ _ _ hh, kept_setRow _ _ _ _ rfl⟩

set_option maxHeartbeats 4000000 in
theorem write_c (bh : Nat) (a : Option Addr) (cap : Nat) (xs ys : List Nat) (w : World) (hh : HashAt w bh xs) (hy : By ys) (ha : ArgB bh w a ys) (hcap : ys.length ≤ cap) (hcm : cap ≤ 9223372036854775807) (hlen : xs.length + ys.length < 18446744073709551616) :
    Calls Tryd.prog 62 #[.pointer (some ⟨bh, 0, none⟩), .slice a ys.length cap] w fun e w' => e = .returned (.tuple #[]) ∧ HashAt w' bh (xs ++ ys) ∧ Kept (fun k => k = bh) w w' := by
  have HH := hide hh
  have HA := hide ha
  have HY := hide hy
  clear hh ha hy
  obtain ⟨L, hL⟩ : ∃ L, L = ys.length := ⟨_, rfl⟩
  have HL := hide hL
  rw [← hL] at hcap hlen ⊢
  clear hL
  go_enter Tryd.func62, Tryd.ntmps62
  go_wp2_with fail
  go_loopg [1] L (fun gk v1 wx => ∃ k : Nat, k ≤ L ∧ L - k ≤ gk ∧ ∃ a', v1 = .slice a' (L - k) (cap - k) ∧ Hid (k < L → ∃ b off, a = some ⟨b, off, none⟩ ∧ a' = some ⟨b, off + k, none⟩) ∧ Hid (HashAt wx bh (xs ++ ys.take k)) ∧ Hid (Kept (fun k => k = bh) w wx))
  case atStart => exact ⟨0, by omega, by omega, a, rfl, fun h0 => by
    rcases HA.out with h | ⟨b, off, e, _⟩
    · rw [← HL.out] at h; omega
    · exact ⟨b, off, e, e⟩, by rw [List.take_zero, List.append_nil]; exact HH, Kept.refl _ _⟩
  case round =>
    obtain ⟨k, hk, hg, a', rfl, HA', HX, HK⟩ := hrel
    by_cases hkl : k = L
    · subst hkl
      have h0 : ¬ (0 : Int) < ((k - k : Nat) : Int) := by omega
      go_wp2_with fail
      go_end0
      refine ⟨rfl, ?_, HK.out⟩
      have := HX.out
      rw [HL.out, List.take_length] at this
      exact this
    · obtain ⟨b, off, rfl, rfl⟩ := HA'.out (by omega)
      cases gk with
      | zero => omega
      | succ g1 =>
        have hpos : (0 : Int) < ((L - k : Nat) : Int) := by omega
        obtain ⟨q, hI, hW⟩ := HX.out
        obtain ⟨X, hX⟩ : ∃ X, X = xs ++ ys.take k := ⟨_, rfl⟩
        have hXl : X.length = xs.length + k := by rw [hX, List.length_append, List.length_take, ← HL.out]; omega
        rw [← hX] at hI hW
        obtain ⟨r, hr⟩ : ∃ r, X.length % 64 = r := ⟨_, rfl⟩
        obtain ⟨zs, hzs⟩ : ∃ zs, zs = (ys.drop k).take (64 - r) := ⟨_, rfl⟩
        have hzl : zs.length = Nat.min (L - k) (64 - r) := by rw [hzs, List.length_take, List.length_drop, ← HL.out]; exact Nat.min_comm _ _
        have hrl : r < 64 := by omega
        have hzm : zs.length ≤ L - k ∧ zs.length ≤ 64 - r ∧ 0 < zs.length ∧ (zs.length = L - k ∨ zs.length = 64 - r) := by
          have : Nat.min (L - k) (64 - r) = min (L - k) (64 - r) := rfl
          omega
        have hzy : By zs := by rw [hzs]; exact (HY.out.drop k).take _
        have hsrc : ∃ b0, b0 = b ∧ b < wr.heap.size ∧ Bs wr b (off + k) zs := by
          rcases HA.out with h | ⟨b', off', e, h1, h2, h3⟩
          · rw [← HL.out] at h; omega
          · simp only [Option.some.injEq, Addr.mk.injEq] at e
            obtain ⟨rfl, rfl, _⟩ := e
            refine ⟨b, rfl, Nat.lt_of_lt_of_le h1 HK.out.size, fun i hi => ?_⟩
            have hi2 : k + i < ys.length := by rw [← HL.out]; omega
            have := (h3.kept HK.out h1 h2) (k + i) hi2
            rw [show off + k + i = off + (k + i) by omega, this, hzs]
            have hi3 : i < 64 - r := by omega
            simp [List.getD, List.getElem?_drop, hi3]
        obtain ⟨_, _, hbw, hbs⟩ := hsrc
        have hXZ : xs ++ ys.take (k + zs.length) = X ++ zs := by
          rw [hX, List.append_assoc]
          congr 1
          have hz2 : zs = (ys.drop k).take zs.length := by
            rw [hzl, hzs]
            have : Nat.min (L - k) (64 - r) = min (L - k) (64 - r) := rfl
            rw [this, List.take_eq_take_iff, List.length_drop, ← HL.out]
            omega
          rw [List.take_add, ← hz2]
        obtain ⟨w2, hrun, hI2, hK2⟩ := copy_run 3 bh _ _ q zs r (L - k) (cap - k) (64 - r) b (off + k) wr.drew hI hW.len hrl hbs hzl
        have c5 := (cells_of hI 5).trans (hA_5 _ _ _)
        have hsl := fun W => slice64_l .u64 W bh 6 r hrl
        have HI2 := hide hI2
        have HK2 := hide hK2
        have HW := hide hW
        have HZY := hide hzy
        have HXZ := hide hXZ
        have HR := hide hr
        have HXL := hide hXl
        have HB := hide (blks_ok X (X.length / 64))
        obtain ⟨at', hst, hat⟩ := slice_tail (some ⟨b, off + k, none⟩) (L - k) (cap - k) zs.length hzm.1
        have HAT := hide hat
        have HMO := hide (hzm.2.2.2)
        obtain ⟨hm1, hm2, hm3, _⟩ := hzm
        obtain ⟨m, hm⟩ : ∃ m, m = zs.length := ⟨_, rfl⟩
        have HM := hide hm
        rw [← hm] at hrun hst HAT HMO hm1 hm2 hm3 HXZ
        obtain ⟨N, hN⟩ : ∃ N, N = X.length := ⟨_, rfl⟩
        have HN := hide hN
        rw [← hN] at HI2 c5 hr hXl HB
        generalize hS : blks X (N / 64) = S at HI2 HB
        have HSE := hide hS
        have hmod : (N : Int).tmod 64 = (r : Int) := by rw [Int.tmod_eq_emod_of_nonneg (by omega)]; omega
        have hmod2 : (N : Int) % 64 = (r : Int) := by omega
        have hNm : N + m < 18446744073709551616 := by omega
        clear hI hI2 hK2 hW hzy hXZ hX hzs hzl hbs hm hN hS hat hr hXl HA' HX
        go_upto_region 1 with fail
        go_region
        go_upto_region 2 with fail
        have d5 := (cells_of HI2.out 5).trans (hA_5 _ _ _)
        have g5 := free_of HI2.out 5
        have hNm2 : (N : Int) + (m : Int) < 18446744073709551616 := by omega
        have HI3 : Hid (HashIn (w2.setCell ⟨bh, 5, none⟩ (.int .u64 ((N : Int) + (m : Int)))) bh S (N + m) (lay q r zs)) := HI2.out.set5 (N + m)
        have HK3 : Hid (Kept (fun k => k = bh) w (w2.setCell ⟨bh, 5, none⟩ (.int .u64 ((N : Int) + (m : Int))))) :=
          ((HK.out.drewN 1).trans HK2.out (fun _ _ h => h)).setCell (p := ⟨bh, 5, none⟩) (fun _ => rfl) _
        clear HI2 HK2 hrun c5 hsl hmod hmod2
        go_upto_region 3 with fail
        generalize w2.setCell ⟨bh, 5, none⟩ (.int .u64 ((N : Int) + (m : Int))) = w3 at HI3 HK3 ⊢
        clear d5 g5
        have e5 : w3.cell? ⟨bh, 5, none⟩ = some (.int .u64 ((N : Int) + (m : Int))) := (cells_of HI3.out 5).trans (hA_5 _ _ _)
        have hnext : ∃ gk, gk = g1 := ⟨_, rfl⟩
        clear hnext
        by_cases hf : r + m = 64
        · have hfull : ((N : Int) + (m : Int)).tmod 64 = 0 := by rw [Int.tmod_eq_emod_of_nonneg (by omega)]; have := HR.out; have := HN.out; omega
          have hfull2 : ((N : Int) + (m : Int)) % 64 = 0 := by have := HR.out; have := HN.out; omega
          go_upto_region 5 with fail
          have HT := hide (take_c bh S (N + m) (lay q r zs) (wF (lay q r zs)) w3.drew (HI3.out.drewN 1) HB.out (lay_by r HW.out.by_ HZY.out) (by rw [lay_length (by rw [HW.out.len, ← HM.out]; omega)]; exact HW.out.len) (wds (lay_by r HW.out.by_ HZY.out)))
          go_region_with ((go_at_call 65; refine HT.out.mono ?_; rintro e w4 ⟨rfl, h4, k4⟩; have HI4 := hide h4; have HK4 := hide k4; clear h4 k4))
          clear hNm hlen hNm2 hfull hfull2 e5
          go_wp2_with fail
          go_roundg g1
          case measure => omega
          case rel =>
            refine ⟨k + m, by omega, by omega, at', by rw [Nat.sub_sub, Nat.sub_sub], fun h => ⟨b, off, rfl, ?_⟩, ?_, (HK3.out.drewN 1).trans HK4.out (fun _ _ h => h)⟩
            · rw [HAT.out (by omega) b (off + k) rfl, Nat.add_assoc]
            · rw [HXZ.out]
              have e : (X ++ zs).length = N + m := by rw [List.length_append, ← HN.out, ← HM.out]
              have hm : X.length % 64 + zs.length = 64 := by rw [HR.out, ← HM.out]; exact hf
              refine ⟨lay q r zs, ?_, ?_⟩
              · have e2 := blks_full HW.out hm
                rw [HR.out, ← HN.out, HSE.out] at e2
                rw [e2, e]
                exact HI4.out
              · rw [← HR.out]; exact wt_full HW.out HZY.out hm
        · have hpart : ¬ ((N : Int) + (m : Int)).tmod 64 = 0 := by rw [Int.tmod_eq_emod_of_nonneg (by omega)]; have := HR.out; have := HN.out; omega
          obtain ⟨V, hV⟩ : ∃ V : Nat, ((N : Int) + (m : Int)) % 64 = (V : Int) := ⟨(N + m) % 64, by omega⟩
          have hV2 : ((N : Int) + (m : Int)).tmod 64 = (V : Int) := by rw [Int.tmod_eq_emod_of_nonneg (by omega)]; exact hV
          have hV0 : ¬ (V : Int) = 0 := by rw [← hV2]; exact hpart
          have hV3 : ((V : Int) == 0) = false := by simpa using hV0
          clear hpart
          go_upto_region 4 with fail
          clear hNm hlen hNm2
          go_wp2_with fail
          go_roundg g1
          case measure => omega
          case rel =>
            refine ⟨k + m, by omega, by omega, at', by rw [Nat.sub_sub, Nat.sub_sub], fun h => ⟨b, off, rfl, ?_⟩, ?_, HK3⟩
            · rw [HAT.out (by omega) b (off + k) rfl, Nat.add_assoc]
            · rw [HXZ.out]
              have e : (X ++ zs).length = N + m := by rw [List.length_append, ← HN.out, ← HM.out]
              refine ⟨lay q r zs, ?_, ?_⟩
              · rw [e, ← e, blks_more (by rw [HR.out, ← HM.out]; omega), e, ← HN.out, HSE.out]; exact HI3.out
              · rw [← HR.out]; exact wt_more HW.out HZY.out (by rw [HR.out, ← HM.out]; omega)
end Go.Proofs.YtgamfpgejkhbcaaDoor.S
