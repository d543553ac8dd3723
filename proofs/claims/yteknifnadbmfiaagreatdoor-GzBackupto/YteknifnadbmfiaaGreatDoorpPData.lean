/- The stream's data: contract. -/
import Derived.Test.YteknifnadbmfiaaGreatDoorpPRunW
namespace Go.Proofs.YteknifnadbmfiaaGreatDoor
set_option maxRecDepth 100000
open Go Go.RowKit

theorem iOn_ok {r : Except Int (Nat × List Int)} {q : Nat} {o : List Int} (h : r = .ok (q, o)) : iOn r = .ok (q, (true, o)) := by rw [h]; rfl
theorem iOn_err {r : Except Int (Nat × List Int)} {e : Int} (h : r = .error e) : iOn r = .error e := by rw [h]; rfl

section
variable {B bs br : Nat} {a : Option Addr} {len cap : Nat} {zs : List Int} {m : Nat} {w : World} {p : Nat} {o : Option Addr} {oc : Nat} {fc : Value} {out : List Int}
theorem Aw.rd {lo hi : Nat} {ov : Value} (h : Aw lo hi bs br ov) : br < lo ∨ hi ≤ br := by
  rcases Nat.lt_or_ge br lo with h1 | h1
  · exact .inl h1
  · rcases Nat.lt_or_ge br hi with h2 | h2
    · exact absurd (.inr (.inl rfl)) (h br h1 h2)
    · exact .inr h2
set_option maxHeartbeats 8000000 in
theorem data_c (h : SS B bs br a len cap zs m w p o oc fc out) (hl8 : len * 8 ≤ 9223372036854775000) (hm : m ≤ 10000000) (ho : out.length ≤ m) {lo hi bk bc gl gc : Nat} {vo : Value} {N bc' gl' gc' : Nat} {vo' : Value} {N' : Nat} {S D : List Int} (hc : Cds lo hi w bk bc gl gc vo N bc' gl' gc' vo' N' S D) (ha : Aw lo hi bs br (.slice o out.length oc))
    (hg : Good S) (h3 : S.length ≤ 320) (hg' : Good D) (h3' : D.length ≤ 320) :
    Calls Tryz.prog 105 #[.pointer (some ⟨bs, 0, none⟩), .pointer (some ⟨bk, 0, none⟩)] w (DOk B bs br a len cap zs m fc w (.slice o out.length oc) (iDat S D (ib zs) (len * 8) m p out)) := by
  obtain ⟨j0, hj0, hj1, hj2, hj3⟩ := info_parts Tryz.info5
  obtain ⟨R, hR⟩ : ∃ R, R = iDat S D (ib zs) (len * 8) m p out := ⟨_, rfl⟩
  rw [← hR]
  have HR := hide hR
  have hm8 : m ≤ 100000000 := by omega
  have hbr := ha.rd
  have W0 := hide (SW.new h)
  have HCD := hide hc
  have HAW := hide ha
  have HG := hide hg
  have HG' := hide hg'
  have HKC : Hid (∀ wx p' o' oc' out', SW B bs br a len cap zs m fc w (.slice o out.length oc) wx p' o' oc' out' → Cds lo hi wx bk bc gl gc vo N bc' gl' gc' vo' N' S D) := fun wx p' o' oc' out' hw => hc.kept hw.kept ha
  have hpl := h.pl
  clear h hc ha hg hg' hR
  unfold iDat at HR
  go_enter Tryz.func105, Tryz.ntmps105
  go_wp2_with fail
  go_loopg [] (len * 8 - p) (fun gk wx => ∃ (p' : Nat) (out' : List Int) (_ : p' + gk = len * 8) (_ : out'.length ≤ m), Hid (R = iLoop (len * 8) (iOne S D (ib zs) (len * 8) m) p' out') ∧ Hid (SX B bs br a len cap zs m fc w (.slice o out.length oc) wx p' out'))
  case atStart => exact ⟨p, out, by omega, ho, HR, o, oc, W0.out⟩
  case round =>
    obtain ⟨p', out', hpg, ho', HR', HX⟩ := hrel
    clear HR W0
    obtain ⟨o', oc', hW⟩ := HX.out
    have hCd := HKC.out _ _ _ _ _ hW
    have hS := symbol_c hW.ss hl8 hCd.sym HG.out h3 hbr
    have HW := hide hW
    have k0 := cells_of hCd.block 0
    simp at k0
    have hkz := lt_of_block hCd.block
    have HCd := hide hCd
    clear hW HX hCd
    rcases h1 : iNx S (ib zs) (len * 8) p' with e | ⟨q1, v⟩
    · rw [h1] at hS
      have HS := hide (hS.mono fun _ _ => NOk.bad rfl)
      have HRR := hide (HR'.out.trans (iLoop_err (iOne_err h1)))
      clear hS h1 HR'
      go_wp2_with (go_at_call 125; refine HS.out.mono ?_; rintro x w1 ⟨rfl, k1, e1, e2⟩; have K1 := hide (HW.out.bad (Mv.rd k1)); clear k1)
      go_ret
      exact DBad.ok HRR.out ⟨rfl, K1.out, e1, e2⟩
    · obtain ⟨hv, hpq⟩ := iNx_lt h1
      rw [h1] at hS
      have HS := hide (hS.mono fun _ _ => NOk.got rfl)
      clear hS
      by_cases hend : v = 256
      · subst hend
        have HRR := hide (HR'.out.trans (iLoop_end (iOne_end h1)))
        clear h1 HR'
        go_wp2_with (go_at_call 125; refine HS.out.mono ?_; rintro x w1 ⟨rfl, k1, r1, l1⟩; have W1 := hide (HW.out.move k1 r1 l1); clear k1 r1)
        go_ret
        exact DGot.ok HRR.out W1.out.got
      · by_cases hrun : 256 < v
        · have hrun' : (256 : Int) < v := by omega
          have hend' : ¬ (v : Int) = 256 := by omega
          have hO := iOne_run (D := D) (most := m) (out := out') h1 hrun
          have hRun := fun w1 (s : SS B bs br a len cap zs m w1 q1 o' oc' fc out') (k : Kept (fun b => b = br) wr w1) => run_c s hl8 hm ho' (HCd.out.back.kept k (fun b h1 h2 e => by omega)) HG'.out h3' hbr v (by omega) (by omega)
          rcases h2 : iRun D (ib zs) (len * 8) m q1 v out' with e | ⟨q2, out2⟩
          · rw [h2] at hRun
            have HN := fun w1 s k => hide ((hRun w1 s k).mono fun _ _ => DOk.bad rfl)
            have HRR := hide (HR'.out.trans (iLoop_err (hO.trans (iOn_err h2))))
            clear hRun h1 h2 hO HR' hend hrun
            go_wp2_with (first
              | (go_at_call 125; refine HS.out.mono ?_; rintro x w1 ⟨rfl, k1, r1, l1⟩; have W1 := hide (HW.out.move k1 r1 l1); have K1 := hide k1; have C1 := HCd.out.kept k1 (fun b h1 h2 e => by omega); have d1 := cells_of C1.block 1; have z1 := lt_of_block C1.block; simp at d1; clear k1 r1 C1)
              | (go_at_call 126; refine (HN w1 W1.out.ss K1.out).out.mono ?_; rintro x w2 ⟨rfl, k2, e1, e2⟩; have K2 := hide (W1.out.bad k2); clear k2))
            go_ret
            exact DBad.ok HRR.out ⟨rfl, K2.out, e1, e2⟩
          · have ho2 := iRun_le h2
            have hgo := iGo_one S D (ib zs) (len * 8) m p' out' q2 _ (hO.trans (iOn_ok h2))
            rw [h2] at hRun
            have HN := fun w1 s k => hide ((hRun w1 s k).mono fun _ _ => DOk.got rfl)
            have HRR := hide (HR'.out.trans (iLoop_on (hO.trans (iOn_ok h2)) hgo.1 hgo.2))
            have hpq2 := hgo.1
            have hql2 := hgo.2
            clear hRun h1 h2 hO HR' hend hrun hgo
            cases gk with
            | zero => omega
            | succ g1 =>
              go_wp2_with (first
                | (go_at_call 125; refine HS.out.mono ?_; rintro x w1 ⟨rfl, k1, r1, l1⟩; have W1 := hide (HW.out.move k1 r1 l1); have K1 := hide k1; have C1 := HCd.out.kept k1 (fun b h1 h2 e => by omega); have d1 := cells_of C1.block 1; have z1 := lt_of_block C1.block; simp at d1; clear k1 r1 C1)
                | (go_at_call 126; refine (HN w1 W1.out.ss K1.out).out.mono ?_; intro x w2 h2; obtain rfl := h2.1; have X2 := hide (DGot.sw h2); clear h2))
              go_roundg (len * 8 - q2)
              case measure => omega
              case rel =>
                obtain ⟨o2, oc2, hW2⟩ := X2.out
                exact ⟨q2, out2, by omega, ho2, HRR, o2, oc2, W1.out.on hW2⟩
        · have hv6 : v < 256 := by omega
          have hrun' : ¬ (256 : Int) < v := by omega
          have hend' : ¬ (v : Int) = 256 := by omega
          by_cases hov : m ≤ out'.length
          · have HRR := hide (HR'.out.trans (iLoop_err (iOne_over (D := D) h1 hv6 hov)))
            clear h1 HR' hend hrun
            go_wp2_with (first
              | (go_at_call 125; refine HS.out.mono ?_; rintro x w1 ⟨rfl, k1, r1, l1⟩; have W1 := hide (HW.out.move k1 r1 l1); clear k1 r1)
              | (go_at_call 100; refine (room_no W1.out.ss hm8 ho' 1 (by omega)).mono ?_; rintro x w2 ⟨rfl, kk, rfl⟩))
            go_ret
            exact DBad.ok HRR.out ⟨rfl, (W1.out.drew kk).kept, by decide, by decide⟩
          · have hO := iOne_byte (D := D) (most := m) (out := out') h1 hv6 (by omega)
            have hgo := iGo_one S D (ib zs) (len * 8) m p' out' q1 _ hO
            have HRR := hide (HR'.out.trans (iLoop_on hO hgo.1 hgo.2))
            have hql2 := hgo.2
            have hwX : IntKind.u8.wrap (v : Int) = (v : Int) := by simp only [IntKind.wrap_u8]; omega
            clear h1 HR' hend hrun hO hgo
            cases gk with
            | zero => omega
            | succ g1 =>
              go_wp2_with (first
                | (go_at_call 125; refine HS.out.mono ?_; rintro x w1 ⟨rfl, k1, r1, l1⟩; have W1 := hide (HW.out.move k1 r1 l1); clear k1 r1)
                | (go_at_call 100; refine (room_yes W1.out.ss hm8 1 (by omega)).mono ?_; rintro x w2 ⟨rfl, kk, rfl⟩; have W2 := hide (W1.out.drew kk); have c2 := W2.out.ss.c1; have z2 : bs < w1.heap.size := lt_of_block W1.out.ss.s0)
                | (at_builtin; refine wpList_append_lies _ rfl _ _ 24 rfl B 5 j0 (.int .u8 0) 1 1 Tryz.underlying24 hj0 hj1 hj2 hj3 rfl (by decide) (.slice o' out'.length oc') out'.length (out'.map (Value.int .u8)) rfl (World.ownsRow.alloc W2.out.ss.owns _) ⟨w1.heap.size, 0, none⟩ 1 1 [.int .u8 (v : Int)] rfl rfl (one_byte' (w1.drewN kk) _ _ rfl) (by intro u hu; simp at hu; subst hu; rfl) (by omega) (by unfold maxLen; omega) (by omega) (by have := W2.out.ss.inb; simp; omega) (w1.heap.size + 1) (by simp) ?_; intro g4 c5 w4 hown' hgrow hat hlt4; have P9 := hide (W2.out.push hown' hgrow hat); have hA9 := W2.out.after hgrow; have d1 := cells_of hA9 1; have f2 := free_of hA9 1; have hz4 := lt_of_block hA9; simp [fA] at d1; clear hown' hgrow hat hlt4 hA9))
              go_roundg (len * 8 - q1)
              case measure => omega
              case rel => exact ⟨q1, out' ++ [(v : Int)], by omega, by simp; omega, HRR, _, _, P9.out⟩
end
end Go.Proofs.YteknifnadbmfiaaGreatDoor
