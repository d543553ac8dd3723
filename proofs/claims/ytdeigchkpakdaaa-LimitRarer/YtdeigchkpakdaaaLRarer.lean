/- The law on symbols that are more often: walked. -/
import Derived.Test.YtdeigchkpakdaaaLWalks
namespace Go.Proofs.Ytdeigchkpakdaaa
open Go Go.RowKit

theorem rarer_of {ls F : List Int} {L : Nat} (h : LGoodR ls L F) {i k : Nat} (hi : i < ls.length) (hk : k < ls.length) (h1 : ln ls k < ln ls i) (h2 : 0 < ln ls k) : ln F i ≤ ln F k := by
  have mi : (i : Int) ∈ occ ls ls.length := (occ_mem ls ls.length _).2 ⟨i, rfl, hi, by omega⟩
  have mk : (k : Int) ∈ occ ls ls.length := (occ_mem ls ls.length _).2 ⟨k, rfl, hk, h2⟩
  have hne : i ≠ k := fun e => by rw [e] at h1; omega
  have p1 := List.perm_cons_erase mi
  have mk2 : (k : Int) ∈ (occ ls ls.length).erase (i : Int) := (List.mem_erase_of_ne (by omega)).2 mk
  have p2 := List.perm_cons_erase mk2
  have p : (occ ls ls.length).Perm ((i : Int) :: (k : Int) :: ((occ ls ls.length).erase (i : Int)).erase (k : Int)) := p1.trans (List.Perm.cons _ p2)
  have hl : 2 ≤ (occ ls ls.length).length := by rw [p.length_eq]; simp
  have pz := zOf_perm (ls := ls) (F := F) p
  have := (h.best hl).rarer (x := ((ln ls i).toNat, (ln F i).toNat)) (y := ((ln ls k).toNat, (ln F k).toNat)) (R := zOf ls F (((occ ls ls.length).erase (i : Int)).erase (k : Int))) (by simpa [zOf, keyOf] using pz) (by simp only; omega)
  have p0 := h.pos i
  have p3 := h.pos k
  simp only at this
  omega

set_option maxHeartbeats 2000000 in
set_option maxRecDepth 100000 in
theorem rarer_walk (U : Nat) (a : Option Addr) (cap : Nat) (ls : List Int) (most : Int) (w : World) (hA : Ints 0 U w a ls) :
    Calls Try.prog 6 #[.slice a ls.length cap, .int .i64 most] w (Yes w) := by
  have HA := hide hA
  by_cases hf : FitsP ls most
  · obtain ⟨L, rfl⟩ : ∃ L : Nat, most = L := ⟨most.toNat, by have := hf.1.2.1; omega⟩
    have HL := hide (lengths_yes U a cap ls L w hA hf)
    have h320 := hf.1.1
    clear hf hA
    go_enter Try.func6, Try.ntmps6
    go_wp2_with (go_at_call 9; refine HL.out.mono ?_; rintro e w1 ⟨gl, F, rfl, k1, k2, k3, k4⟩; have HR := hide k2; have HGD := hide k3; have HB := hide k4; clear k1 k2 k3 k4)
    have HI1 := hide (HA.out.stay HB.out)
    go_loopg [31] ls.length (fun gi v31 wx => ∃ i q : Nat, i + gi = ls.length ∧ v31 = .int .i64 i ∧ wx = w1.drewN q)
    case atStart => exact ⟨0, 0, by omega, rfl, rfl⟩
    case round =>
      obtain ⟨i, q, hig, rfl, rfl⟩ := hrel
      cases gk with
      | zero =>
        obtain rfl : i = ls.length := by omega
        go_wp2_with (go_at_call 11; refine (alive_any _).mono ?_; rintro e w5 ⟨rfl, b3⟩; have BA := hide ((below_drewN HB.out q).trans (b3.mono HB.out.size)); clear b3)
        go_ret
        exact ⟨rfl, BA.out⟩
      | succ g1 =>
        have hlt : (i : Int) < (ls.length : Int) := by omega
        go_wp2_with fail
        go_loopg [36] ls.length (fun gj v36 wx => ∃ j q : Nat, j + gj = ls.length ∧ v36 = .int .i64 j ∧ wx = w1.drewN q)
        case atStart => exact ⟨0, q, by omega, rfl, rfl⟩
        case round =>
          obtain ⟨j, q2, hjg, rfl, rfl⟩ := hrel
          cases gk with
          | zero =>
            obtain rfl : j = ls.length := by omega
            go_wp2_with fail
            go_roundg g1
            case measure => omega
            case rel => exact ⟨i + 1, q2, by omega, by go_num, rfl⟩
          | succ g2 =>
            have hltj : (j : Int) < (ls.length : Int) := by omega
            obtain ⟨ba, oa, _, _, hba, rfl, hca⟩ := HI1.out.resolve_left (by omega)
            have ci : (w1.drewN q2).cell? ⟨ba, oa + i, none⟩ = some (.int .i64 (ln ls i)) := hca i (by omega)
            have cj : (w1.drewN q2).cell? ⟨ba, oa + j, none⟩ = some (.int .i64 (ln ls j)) := hca j (by omega)
            have fi : (w1.drewN q2).cell? ⟨gl, i, none⟩ = some (.int .i64 (ln F i)) := HR.out.cell (by rw [HGD.out.len]; omega)
            have fj : (w1.drewN q2).cell? ⟨gl, j, none⟩ = some (.int .i64 (ln F j)) := HR.out.cell (by rw [HGD.out.len]; omega)
            have hra : ln ls j < ln ls i → 0 < ln ls j → ln F i ≤ ln F j := fun h1 h2 => rarer_of HGD.out (by omega) (by omega) h1 h2
            have HRA := hide hra
            clear hca hra
            generalize ln ls i = X at ci HRA
            generalize ln ls j = Y at cj HRA
            generalize ln F i = P at fi HRA
            generalize ln F j = Q at fj HRA
            generalize hwq : w1.drewN q2 = wq at ci cj fi fj ⊢
            have HWQ := hide hwq
            clear hwq
            by_cases c1 : Y < X
            · have d1 : decide (Y < X) = true := decide_eq_true c1
              by_cases c2 : 0 < Y
              · have d2 : decide (0 < Y) = true := decide_eq_true c2
                have c3 := HRA.out c1 c2
                have c3' : ¬ Q < P := by omega
                have d3 : decide (Q < P) = false := decide_eq_false c3'
                go_wp2_with fail
                go_quiet (fail)
                go_wp2_with fail
                go_roundg g2
                case measure => omega
                case rel => exact ⟨j + 1, q2 + nq, by omega, by go_num, by rw [← HWQ.out, World.drewN_drewN]⟩
              · have d2 : decide (0 < Y) = false := decide_eq_false c2
                go_wp2_with fail
                go_quiet (fail)
                go_wp2_with fail
                go_roundg g2
                case measure => omega
                case rel => exact ⟨j + 1, q2 + nq, by omega, by go_num, by rw [← HWQ.out, World.drewN_drewN]⟩
            · have d1 : decide (Y < X) = false := decide_eq_false c1
              go_wp2_with fail
              go_quiet (fail)
              go_wp2_with fail
              go_roundg g2
              case measure => omega
              case rel => exact ⟨j + 1, q2 + nq, by omega, by go_num, by rw [← HWQ.out, World.drewN_drewN]⟩
  · have HL := hide (lengths_no U a cap ls most w hA hf)
    clear hf hA
    go_enter Try.func6, Try.ntmps6
    go_wp2_with (first
      | (go_at_call 9; refine HL.out.mono ?_; rintro e w1 ⟨rfl, k4⟩; have HB := hide k4; clear k4)
      | (go_at_call 11; refine (alive_any _).mono ?_; rintro e w3 ⟨rfl, b3⟩; have BA := hide (HB.out.trans (b3.mono HB.out.size)); clear b3))
    go_ret
    exact ⟨rfl, BA.out⟩
#print axioms rarer_walk
end Go.Proofs.Ytdeigchkpakdaaa
