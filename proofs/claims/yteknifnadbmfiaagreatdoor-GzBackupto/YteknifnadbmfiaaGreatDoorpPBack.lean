/- The stream's back: contract. -/
import Derived.Test.YteknifnadbmfiaaGreatDoorpAg06PRun
namespace Go.Proofs.YteknifnadbmfiaaGreatDoor
set_option maxRecDepth 100000
open Go Go.RowKit

section
variable {B bs br : Nat} {a : Option Addr} {len cap : Nat} {zs : List Int} {m : Nat} {w : World} {p : Nat} {o : Option Addr} {oc : Nat} {fc : Value} {out : List Int}
set_option maxHeartbeats 8000000 in
theorem away_c (h : SS B bs br a len cap zs m w p o oc fc out) (hl : len * 8 <= 9223372036854775000) (bc q1 : Nat) (v : Int) (n k : Nat) (hv : backRow v n k) (hS : Calls Tryz.prog 125 #[.pointer (some ⟨bs, 0, none⟩), .pointer (some ⟨bc, 0, none⟩)] w (fun x w' => x = .returned (.tuple #[.int .i64 v, .int .i64 0]) /\ Kept (fun b => b = br) w w' /\ w'.heap[br]? = some (.cells (rA a len cap q1) 148 (0, 0)) /\ q1 <= len * 8)) :
  Calls Tryz.prog 141 #[.pointer (some ⟨bs, 0, none⟩), .pointer (some ⟨bc, 0, none⟩)] w (NOk br a len cap w (iThen (iTk (ib zs) (len * 8) q1 n) fun q x => .ok (q, k + x))) := by
 have hn5 : n <= 24 := by unfold backRow at hv; omega
 have HN := fun ni hni w1 (hk : Kept (fun b => b = br) w w1) hr hq => number_c (SS.move h hk (q := q1) hr hq) hl n ni hni hn5
 have hlt : ∀ q x, iTk (ib zs) (len * 8) q1 n = .ok (q, x) -> x < 2 ^ n := fun q x e => iTk_lt (ib_le zs) e
 have HS := hide hS
 clear h hn5 hS
 generalize iTk (ib zs) (len * 8) q1 n = R at HN hlt ⊢
 cases R with
 | ok x =>
  obtain ⟨q, x⟩ := x
  have HC := fun ni hni w1 hk hr hq => hide ((HN ni hni w1 hk hr hq).mono fun _ _ => NOk.got rfl)
  have hx := hlt q x rfl
  have HR : Hid ((iThen (.ok (q, x)) fun q x => .ok (q, k + x) : Except Int (Nat × Nat)) = .ok (q, k + x)) := rfl
  clear HN hlt
  rcases hv with ⟨rfl, rfl, rfl⟩ | ⟨rfl, rfl, rfl⟩ | ⟨rfl, rfl, rfl⟩ | ⟨rfl, rfl, rfl⟩ | ⟨rfl, rfl, rfl⟩ | ⟨rfl, rfl, rfl⟩ | ⟨rfl, rfl, rfl⟩ | ⟨rfl, rfl, rfl⟩ | ⟨rfl, rfl, rfl⟩ | ⟨rfl, rfl, rfl⟩ | ⟨rfl, rfl, rfl⟩ | ⟨rfl, rfl, rfl⟩ | ⟨rfl, rfl, rfl⟩ | ⟨rfl, rfl, rfl⟩ | ⟨rfl, rfl, rfl⟩ | ⟨rfl, rfl, rfl⟩ | ⟨rfl, rfl, rfl⟩ | ⟨rfl, rfl, rfl⟩ | ⟨rfl, rfl, rfl⟩ | ⟨rfl, rfl, rfl⟩ | ⟨rfl, rfl, rfl⟩ | ⟨rfl, rfl, rfl⟩ | ⟨rfl, rfl, rfl⟩ | ⟨rfl, rfl, rfl⟩ | ⟨rfl, rfl, rfl⟩ | ⟨rfl, rfl, rfl⟩
  all_goals
   go_enter Tryz.func141, Tryz.ntmps141
   go_wp2_with (first
    | (go_at_call 125; refine HS.out.mono ?_; rintro x w1 ⟨rfl, k1, r1, q1⟩; have K1 := hide k1; have R1 := hide r1; have Q1 := hide q1; clear k1 r1 q1)
    | (go_at_call 76; refine (HC _ rfl w1 K1.out R1.out Q1.out).out.mono ?_; rintro x w2 ⟨rfl, h1⟩; have H1 := hide h1; clear h1))
   go_ret2
   exact NGot.ok HR.out ⟨by go_num, K1.out.trans H1.out.1 (fun _ _ e => e), H1.out.2⟩
 | error e =>
  have HC := fun ni hni w1 hk hr hq => hide ((HN ni hni w1 hk hr hq).mono fun _ _ => NOk.bad rfl)
  have HR : Hid ((iThen (.error e) fun q x => .ok (q, k + x) : Except Int (Nat × Nat)) = .error e) := rfl
  clear HN hlt
  rcases hv with ⟨rfl, rfl, rfl⟩ | ⟨rfl, rfl, rfl⟩ | ⟨rfl, rfl, rfl⟩ | ⟨rfl, rfl, rfl⟩ | ⟨rfl, rfl, rfl⟩ | ⟨rfl, rfl, rfl⟩ | ⟨rfl, rfl, rfl⟩ | ⟨rfl, rfl, rfl⟩ | ⟨rfl, rfl, rfl⟩ | ⟨rfl, rfl, rfl⟩ | ⟨rfl, rfl, rfl⟩ | ⟨rfl, rfl, rfl⟩ | ⟨rfl, rfl, rfl⟩ | ⟨rfl, rfl, rfl⟩ | ⟨rfl, rfl, rfl⟩ | ⟨rfl, rfl, rfl⟩ | ⟨rfl, rfl, rfl⟩ | ⟨rfl, rfl, rfl⟩ | ⟨rfl, rfl, rfl⟩ | ⟨rfl, rfl, rfl⟩ | ⟨rfl, rfl, rfl⟩ | ⟨rfl, rfl, rfl⟩ | ⟨rfl, rfl, rfl⟩ | ⟨rfl, rfl, rfl⟩ | ⟨rfl, rfl, rfl⟩ | ⟨rfl, rfl, rfl⟩
  all_goals
   go_enter Tryz.func141, Tryz.ntmps141
   go_wp2_with (first
    | (go_at_call 125; refine HS.out.mono ?_; rintro x w1 ⟨rfl, k1, r1, q1⟩; have K1 := hide k1; have R1 := hide r1; have Q1 := hide q1; clear k1 r1 q1)
    | (go_at_call 76; refine (HC _ rfl w1 K1.out R1.out Q1.out).out.mono ?_; rintro x w2 ⟨rfl, h1, h2, h3⟩; have H1 := hide h1; have H2 := hide (And.intro h2 h3); clear h1))
   go_ret2
   exact NBad.ok HR.out ⟨rfl, K1.out.trans H1.out (fun _ _ e => e), H2.out.1, H2.out.2⟩

theorem iBack_is {D : List Int} {b : Nat -> Nat} {T q q1 v n k : Nat} (h : iNx D b T q = .ok (q1, v)) (hv : v <= 29) (hn : iDx v = n) (hk : iDb v = k) : iBack D b T q = iThen (iTk b T q1 n) fun q x => .ok (q, k + x) := by
 unfold iBack; rw [iThen_of_ok h, if_neg (by omega), hn, hk]
theorem back_c (h : SS B bs br a len cap zs m w p o oc fc out) (hl : len * 8 <= 9223372036854775000) {lo hi bc gl gc : Nat} {vo : Value} {N : Nat} {D : List Int} (hc : CodeAt lo hi w bc gl gc vo N D) (hg : Good D) (h3 : D.length <= 320) (hbr : br < lo \/ hi <= br) :
  Calls Tryz.prog 141 #[.pointer (some ⟨bs, 0, none⟩), .pointer (some ⟨bc, 0, none⟩)] w (NOk br a len cap w (iBack D (ib zs) (len * 8) p)) := by
 have hS := symbol_c h hl hc hg h3 hbr
 rcases hR : iNx D (ib zs) (len * 8) p with e | ⟨q1, v⟩
 ·rw [hR] at hS
  have HS := hide (hS.mono fun _ _ => NOk.bad rfl)
  have HR : Hid (iBack D (ib zs) (len * 8) p = .error e) := by unfold iBack; rw [iThen_of_err hR]; exact rfl
  clear hS hR h hc hg h3 hbr
  go_enter Tryz.func141, Tryz.ntmps141
  go_wp2_with (go_at_call 125; refine HS.out.mono ?_; rintro x w1 ⟨rfl, k1, e1, e2⟩; have K1 := hide k1; clear k1)
  go_ret2
  exact NBad.ok HR.out ⟨rfl, K1.out, e1, e2⟩
 ·have hv := (iNx_lt hR).1
  rw [hR] at hS
  have hS2 := hS.mono fun _ _ => NOk.got rfl
  by_cases h29 : 29 < v
  ·have HS := hide hS2
   have HR : Hid (iBack D (ib zs) (len * 8) p = .error 63) := by unfold iBack; rw [iThen_of_ok hR, if_pos h29]; exact rfl
   have h5 : (29 : Int) < v := by omega
   clear hS hS2 hR h hc hg hbr
   go_enter Tryz.func141, Tryz.ntmps141
   go_wp2_with (go_at_call 125; refine HS.out.mono ?_; rintro x w1 ⟨rfl, k1, r1, q1⟩; have K1 := hide k1; clear k1 r1 q1)
   go_ret2
   exact NBad.ok HR.out ⟨rfl, K1.out, by decide, by decide⟩
  ·by_cases h4 : v < 4
   ·have HS := hide hS2
    have hk : iDb v = 1 + v /\ iDx v = 0 := (show ∀ v, v < 4 -> iDb v = 1 + v /\ iDx v = 0 by decide) v h4
    have hq1 : q1 <= len * 8 := by
     have := iNx_got hR
     obtain ⟨n, rfl, hh⟩ := this
     have := hh.1; have := h.pl; omega
    have HR : Hid (iBack D (ib zs) (len * 8) p = .ok (q1, 1 + v)) := by rw [iBack_is hR (by omega) hk.2 hk.1, iThen_of_ok (iTk_ok (by omega))]; exact rfl
    have h5 : (v : Int) < 4 := by omega
    clear hS hS2 hR h hc hg hbr hk
    go_enter Tryz.func141, Tryz.ntmps141
    go_wp2_with (go_at_call 125; refine HS.out.mono ?_; rintro x w1 ⟨rfl, h1⟩; have H1 := hide h1; clear h1)
    go_ret2
    exact NGot.ok HR.out ⟨by go_num, H1.out⟩
   ·obtain ⟨n, k, hk, e1, e2⟩ : ∃ n k, backRow (v : Int) n k /\ iDx v = n /\ iDb v = k := by
     have : v = 4 \/ v = 5 \/ v = 6 \/ v = 7 \/ v = 8 \/ v = 9 \/ v = 10 \/ v = 11 \/ v = 12 \/ v = 13 \/ v = 14 \/ v = 15 \/ v = 16 \/ v = 17 \/ v = 18 \/ v = 19 \/ v = 20 \/ v = 21 \/ v = 22 \/ v = 23 \/ v = 24 \/ v = 25 \/ v = 26 \/ v = 27 \/ v = 28 \/ v = 29 := by omega
     clear h hS hS2 hR hc
     unfold backRow
     rcases this with rfl | rfl | rfl | rfl | rfl | rfl | rfl | rfl | rfl | rfl | rfl | rfl | rfl | rfl | rfl | rfl | rfl | rfl | rfl | rfl | rfl | rfl | rfl | rfl | rfl | rfl
     all_goals exact ⟨_, _, by simp; exact ⟨rfl, rfl⟩, by decide, by decide⟩
    rw [iBack_is hR (by omega) e1 e2]
    exact away_c h hl bc q1 (v : Int) n k hk hS2
end
end Go.Proofs.YteknifnadbmfiaaGreatDoor
