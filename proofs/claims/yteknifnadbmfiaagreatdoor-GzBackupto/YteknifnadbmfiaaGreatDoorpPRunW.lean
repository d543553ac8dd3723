/- The stream's run: contract. -/
import Derived.Test.YteknifnadbmfiaaGreatDoorpPBack
import Derived.Test.YteknifnadbmfiaaGreatDoorpPStored
import Derived.Deep.RegionLaw
namespace Go.Proofs.YteknifnadbmfiaaGreatDoor
set_option maxRecDepth 100000
open Go Go.RowKit

/-- SW, wherever what was told lies. -/
def SX (B bs br : Nat) (a : Option Addr) (len cap : Nat) (zs : List Int) (m : Nat) (fc : Value) (w : World) (ov : Value) (wx : World) (p : Nat) (out : List Int) : Prop := ∃ o oc, SW B bs br a len cap zs m fc w ov wx p o oc out
theorem own_some {w : World} {base : Nat} {o : Option Addr} {oc : Nat} {F : List Int} (h : OwnsB w base (.slice o F.length oc) F) (h0 : 0 < F.length) : ∃ g, o = some ⟨g, 0, none⟩ ∧ g < w.heap.size := by
  obtain ⟨g, cap, hv, _, hlt⟩ := World.ownsRow.form h h0
  simp at hv
  exact ⟨g, hv.1, hlt⟩
theorem one_byte' (w : World) (x : Value) (n : Nat) (h : w.heap.size = n) : ∀ j u, [x][j]? = some u → (w.alloc (.cells #[x] 5)).cell? ((⟨n, 0, none⟩ : Addr).add j) = some u := by
  subst h; exact World.news_of_block (heap_new w (.cells #[x] 5))

section
variable {B bs br : Nat} {a : Option Addr} {len cap : Nat} {zs : List Int} {m : Nat} {w : World} {p : Nat} {o : Option Addr} {oc : Nat} {fc : Value} {out : List Int}
set_option maxHeartbeats 8000000 in
theorem run_c (h : SS B bs br a len cap zs m w p o oc fc out) (hl8 : len * 8 ≤ 9223372036854775000) (hm : m ≤ 10000000) (ho : out.length ≤ m) {lo hi bc gl gc : Nat} {vo : Value} {N : Nat} {D : List Int} (hc : CodeAt lo hi w bc gl gc vo N D) (hg : Good D) (h3 : D.length ≤ 320) (hbr : br < lo ∨ hi ≤ br) (v : Nat) (hv : 257 ≤ v) (hv4 : v ≤ 400) :
    Calls Tryz.prog 126 #[.pointer (some ⟨bs, 0, none⟩), .int .i64 (v : Int), .pointer (some ⟨bc, 0, none⟩)] w (DOk B bs br a len cap zs m fc w (.slice o out.length oc) (iRun D (ib zs) (len * 8) m p v out)) := by
  obtain ⟨j0, hj0, hj1, hj2, hj3⟩ := info_parts Tryz.info5
  obtain ⟨R, hR⟩ : ∃ R, R = iRun D (ib zs) (len * 8) m p v out := ⟨_, rfl⟩
  rw [← hR]
  have hm8 : m ≤ 100000000 := by omega
  have W0 := hide (SW.new h)
  have hL := long_c h hl8 v hv hv4
  have hB := fun w' q (s : SS B bs br a len cap zs m w' q o oc fc out) (k : Kept (fun b => b = br) w w') => back_c s hl8 (hc.kept k (fun b h1 h2 e => by omega)) hg h3 hbr
  unfold iRun at hR
  clear h hc hg h3
  rcases h1 : iLong (ib zs) (len * 8) p v with e | ⟨q1, n⟩
  · rw [h1] at hL
    have HL := hide (hL.mono fun _ _ => NOk.bad rfl)
    rw [iThen_of_err h1] at hR
    have HR := hide hR
    clear hL h1 hR hB
    go_enter Tryz.func126, Tryz.ntmps126
    go_wp2_with (go_at_call 140; refine HL.out.mono ?_; rintro x w1 ⟨rfl, k1, e1, e2⟩; have K1 := hide (W0.out.bad (Mv.rd k1)); clear k1)
    go_ret
    exact DBad.ok HR.out ⟨rfl, K1.out, e1, e2⟩
  have hn := iLong_le (ib_le zs) h1
  rw [h1] at hL
  have HL := hide (hL.mono fun _ _ => NOk.got rfl)
  rw [iThen_of_ok h1] at hR
  have hB1 := fun w' => hB w' q1
  clear hL h1 hB
  rcases h2 : iBack D (ib zs) (len * 8) q1 with e | ⟨q2, d⟩
  · rw [h2] at hB1
    have HB := fun w' s k => hide ((hB1 w' s k).mono fun _ _ => NOk.bad rfl)
    rw [iThen_of_err h2] at hR
    have HR := hide hR
    clear hB1 h2 hR
    go_enter Tryz.func126, Tryz.ntmps126
    go_wp2_with (first
      | (go_at_call 140; refine HL.out.mono ?_; rintro x w1 ⟨rfl, k1, r1, l1⟩; have W1 := hide (W0.out.move k1 r1 l1); have K1 := hide k1; clear k1 r1)
      | (go_at_call 141; refine (HB w1 W1.out.ss K1.out).out.mono ?_; rintro x w2 ⟨rfl, k2, e1, e2⟩; have K2 := hide (W1.out.bad (Mv.rd k2)); clear k2))
    go_ret
    exact DBad.ok HR.out ⟨rfl, K2.out, e1, e2⟩
  have hd := iBack_le (ib_le zs) h2
  obtain ⟨hd1, hd4⟩ := hd
  rw [h2] at hB1
  have HB := fun w' s k => hide ((hB1 w' s k).mono fun _ _ => NOk.got rfl)
  rw [iThen_of_ok h2] at hR
  clear hB1 h2
  by_cases hback : out.length < d
  case pos =>
    rw [if_pos hback] at hR
    have HR := hide hR
    have hb' : (out.length : Int) < d := by omega
    clear hR hback
    go_enter Tryz.func126, Tryz.ntmps126
    go_wp2_with (first
      | (go_at_call 140; refine HL.out.mono ?_; rintro x w1 ⟨rfl, k1, r1, l1⟩; have W1 := hide (W0.out.move k1 r1 l1); have K1 := hide k1; clear k1 r1)
      | (go_at_call 141; refine (HB w1 W1.out.ss K1.out).out.mono ?_; rintro x w2 ⟨rfl, k2, r2, l2⟩; have W2 := hide (W1.out.move k2 r2 l2); have c2 := W2.out.ss.c1; clear k2 r2))
    go_ret
    exact DBad.ok HR.out ⟨rfl, W2.out.kept, by decide, by decide⟩
  rw [if_neg hback] at hR
  replace hback : d ≤ out.length := by omega
  have hb' : ¬ (out.length : Int) < d := by omega
  by_cases hov : m < out.length + n
  case pos =>
    rw [if_pos hov] at hR
    have HR := hide hR
    clear hR hback
    go_enter Tryz.func126, Tryz.ntmps126
    go_wp2_with (first
      | (go_at_call 140; refine HL.out.mono ?_; rintro x w1 ⟨rfl, k1, r1, l1⟩; have W1 := hide (W0.out.move k1 r1 l1); have K1 := hide k1; clear k1 r1)
      | (go_at_call 141; refine (HB w1 W1.out.ss K1.out).out.mono ?_; rintro x w2 ⟨rfl, k2, r2, l2⟩; have W2 := hide (W1.out.move k2 r2 l2); have c2 := W2.out.ss.c1; clear k2 r2)
      | (go_at_call 100; refine (room_no W2.out.ss hm8 ho n hov).mono ?_; rintro x w3 ⟨rfl, kk, rfl⟩))
    go_ret
    exact DBad.ok HR.out ⟨rfl, (W2.out.drew kk).kept, by decide, by decide⟩
  rw [if_neg hov] at hR
  replace hov : out.length + n ≤ m := by omega
  have HR := hide hR
  clear hR
  go_enter Tryz.func126, Tryz.ntmps126
  go_wp2_with (first
    | (go_at_call 140; refine HL.out.mono ?_; rintro x w1 ⟨rfl, k1, r1, l1⟩; have W1 := hide (W0.out.move k1 r1 l1); have K1 := hide k1; clear k1 r1)
    | (go_at_call 141; refine (HB w1 W1.out.ss K1.out).out.mono ?_; rintro x w2 ⟨rfl, k2, r2, l2⟩; have W2 := hide (W1.out.move k2 r2 l2); have c2 := W2.out.ss.c1; clear k2 r2)
    | (go_at_call 100; refine (room_yes W2.out.ss hm8 n hov).mono ?_; rintro x w3 ⟨rfl, kk, rfl⟩; have W3 := hide (W2.out.drew kk)))
  clear HL HB W1 K1 W2 c2
  go_loopg [43] n (fun gk v43 wx => ∃ i : Nat, i + gk = n ∧ v43 = .int .i64 i ∧ SX B bs br a len cap zs m fc w (.slice o out.length oc) wx q2 (iCpy out d i))
  case atStart => exact ⟨0, by omega, rfl, o, oc, W3.out⟩
  case round =>
    obtain ⟨i, hig, rfl, hX⟩ := hrel
    have HX := hide hX
    clear hX
    cases gk with
    | zero =>
      obtain rfl : i = n := by omega
      go_wp2_with fail
      go_ret
      obtain ⟨o', oc', hW⟩ := HX.out
      exact DGot.ok HR.out hW.got
    | succ g1 =>
      have hin : (i : Int) < n := by omega
      obtain ⟨F, hF⟩ : ∃ F, F = iCpy out d i := ⟨_, rfl⟩
      have hFl : F.length = out.length + i := by rw [hF, iCpy_length']
      obtain ⟨j, hj⟩ : ∃ j, j = F.length - d := ⟨_, rfl⟩
      have HFS : Hid (iCpy out d (i + 1) = F ++ [ln F j]) := by rw [iCpy_succ, ← hF, hj, hFl]; exact rfl
      rw [← hF] at HX
      have hjl : j < F.length := by omega
      have hFm : F.length ≤ 10000000 := by omega
      have hjd : (F.length : Int) - (d : Int) = (j : Int) := by omega
      have hwr : IntKind.i64.wrap ((F.length : Int) - d) = (j : Int) := by simp only [IntKind.wrap_i64]; omega
      clear hF
      obtain ⟨o', oc', hW⟩ := HX.out
      obtain ⟨g, rfl, hgl⟩ := own_some hW.ss.owns (by omega)
      have hcg : wr.cell? ⟨g, j, none⟩ = some (.int .u8 (ln F j)) := by
        rw [World.ownsRow.cellAt hW.ss.owns j (by omega)]
        simp [ln, List.getD, hjl]
      generalize ln F j = X at HFS hcg
      have HW := hide hW
      have c1 := hW.ss.c1
      have f1 := free_of hW.ss.s0 1
      have hz := lt_of_block hW.ss.s0
      have hBz := hW.ss.inb.1
      clear hW HX W3 hFl hj hjd
      go_upto_region 13 with fail
      have i1 : (0 : Int) ≤ (j : Int) := by omega
      have i2 : (j : Int) < (F.length : Int) := by omega
      go_region_law (first
        | (refine step_append_lies _ (by rfl) _ _ 24 (by rfl) B 5 j0 (.int .u8 0) 1 1 Tryz.underlying24 hj0 hj1 hj2 hj3 rfl (by omega) (.slice (some ⟨g, 0, none⟩) F.length oc') F.length (F.map (Value.int .u8)) (by rfl) (World.ownsRow.alloc (HW.out.ss.drew 1).owns _) ⟨wr.heap.size, 0, none⟩ 1 1 [.int .u8 X] (by rfl) rfl (one_byte' wr.drew _ _ rfl) (by intro u hu; simp at hu; subst hu; rfl) (by omega) (by unfold maxLen; omega) (by omega) (by simp; omega) (wr.heap.size + 1) (by simp) ?_; intro g4 c5 w4 hown' hgrow hat hlt4; have P9 := hide ((HW.out.drew 1).push hown' hgrow hat); have hA9 := (HW.out.drew 1).after hgrow; have d1 := cells_of hA9 1; have f2 := free_of hA9 1; have hz4 := lt_of_block hA9; simp [fA] at d1; clear hown' hgrow hat hlt4 hA9))
      all_goals (go_wp2_with fail)
      all_goals go_roundg g1
      all_goals (first
        | omega
        | (refine ⟨i + 1, by omega, by go_num, ?_⟩
           rw [HFS.out]
           exact ⟨_, _, P9.out⟩))
end
end Go.Proofs.YteknifnadbmfiaaGreatDoor
