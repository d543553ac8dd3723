/- Several texts, laid together: PRun, PBack. -/
import Derived.Test.YtibolmgijaploaaDoorG13PSpec
/- The stream's times, long and back: contracts. -/
namespace Go.Proofs.YtibolmgijaploaaDoor
set_option maxRecDepth 100000
open Go Go.RowKit

section
variable {B bs br : Nat} {a : Option Addr} {len cap : Nat} {zs : List Int} {m : Nat} {w : World} {p : Nat} {o : Option Addr} {oc : Nat} {fc : Value} {out : List Int}

theorem times_c (h : SS B bs br a len cap zs m w p o oc fc out) (hl : len * 8 ≤ 9223372036854775000) (v : Int) (n k : Nat) (hv : (v = 16 ∧ n = 2 ∧ k = 3) ∨ (v = 17 ∧ n = 3 ∧ k = 3) ∨ (v = 18 ∧ n = 7 ∧ k = 11)) :
    Calls Tryd.prog 56 #[.pointer (some ⟨bs, 0, none⟩), .int .i64 v] w (NOk br a len cap w (iThen (iTk (ib zs) (len * 8) p n) fun q x => .ok (q, k + x))) := by
  have HN := fun ni hni => number_c h hl n ni hni (by omega)
  have hlt : ∀ q x, iTk (ib zs) (len * 8) p n = .ok (q, x) → x < 2 ^ n := fun q x e => iTk_lt (ib_le zs) e
  clear h
  generalize iTk (ib zs) (len * 8) p n = R at HN hlt ⊢
  cases R with
  | ok x =>
    obtain ⟨q, x⟩ := x
    have HC := fun ni hni => hide ((HN ni hni).mono fun _ _ => NOk.got rfl)
    have hx := hlt q x rfl
    have HR : Hid ((iThen (.ok (q, x)) fun q x => .ok (q, k + x) : Except Int (Nat × Nat)) = .ok (q, k + x)) := rfl
    clear HN hlt
    rcases hv with ⟨rfl, rfl, rfl⟩ | ⟨rfl, rfl, rfl⟩ | ⟨rfl, rfl, rfl⟩
    all_goals
      go_enter Tryd.func56, Tryd.ntmps56
      go_wp2_with (go_at_call 23; refine (HC _ rfl).out.mono ?_; rintro x w1 ⟨rfl, h1⟩; have H1 := hide h1; clear h1)
      go_ret2
      exact NGot.ok HR.out ⟨by go_num, H1.out⟩
  | error e =>
    have HC := fun ni hni => hide ((HN ni hni).mono fun _ _ => NOk.bad rfl)
    have HR : Hid ((iThen (.error e) fun q x => .ok (q, k + x) : Except Int (Nat × Nat)) = .error e) := rfl
    clear HN hlt
    rcases hv with ⟨rfl, rfl, rfl⟩ | ⟨rfl, rfl, rfl⟩ | ⟨rfl, rfl, rfl⟩
    all_goals
      go_enter Tryd.func56, Tryd.ntmps56
      go_wp2_with (go_at_call 23; refine (HC _ rfl).out.mono ?_; rintro x w1 ⟨rfl, h1, h2, h3⟩; have H1 := hide h1; have H2 := hide (And.intro h2 h3); clear h1)
      go_ret2
      exact NBad.ok HR.out ⟨rfl, H1.out, H2.out.1, H2.out.2⟩

def longRow (v : Int) (n k : Nat) : Prop := (v = 265 ∧ n = 1 ∧ k = 11) ∨ (v = 266 ∧ n = 1 ∧ k = 13) ∨ (v = 267 ∧ n = 1 ∧ k = 15) ∨ (v = 268 ∧ n = 1 ∧ k = 17) ∨ (v = 269 ∧ n = 2 ∧ k = 19) ∨ (v = 270 ∧ n = 2 ∧ k = 23) ∨ (v = 271 ∧ n = 2 ∧ k = 27) ∨ (v = 272 ∧ n = 2 ∧ k = 31) ∨ (v = 273 ∧ n = 3 ∧ k = 35) ∨ (v = 274 ∧ n = 3 ∧ k = 43) ∨ (v = 275 ∧ n = 3 ∧ k = 51) ∨ (v = 276 ∧ n = 3 ∧ k = 59) ∨ (v = 277 ∧ n = 4 ∧ k = 67) ∨ (v = 278 ∧ n = 4 ∧ k = 83) ∨ (v = 279 ∧ n = 4 ∧ k = 99) ∨ (v = 280 ∧ n = 4 ∧ k = 115) ∨ (v = 281 ∧ n = 5 ∧ k = 131) ∨ (v = 282 ∧ n = 5 ∧ k = 163) ∨ (v = 283 ∧ n = 5 ∧ k = 195) ∨ (v = 284 ∧ n = 5 ∧ k = 227)
def backRow (v : Int) (n k : Nat) : Prop := (v = 4 ∧ n = 1 ∧ k = 5) ∨ (v = 5 ∧ n = 1 ∧ k = 7) ∨ (v = 6 ∧ n = 2 ∧ k = 9) ∨ (v = 7 ∧ n = 2 ∧ k = 13) ∨ (v = 8 ∧ n = 3 ∧ k = 17) ∨ (v = 9 ∧ n = 3 ∧ k = 25) ∨ (v = 10 ∧ n = 4 ∧ k = 33) ∨ (v = 11 ∧ n = 4 ∧ k = 49) ∨ (v = 12 ∧ n = 5 ∧ k = 65) ∨ (v = 13 ∧ n = 5 ∧ k = 97) ∨ (v = 14 ∧ n = 6 ∧ k = 129) ∨ (v = 15 ∧ n = 6 ∧ k = 193) ∨ (v = 16 ∧ n = 7 ∧ k = 257) ∨ (v = 17 ∧ n = 7 ∧ k = 385) ∨ (v = 18 ∧ n = 8 ∧ k = 513) ∨ (v = 19 ∧ n = 8 ∧ k = 769) ∨ (v = 20 ∧ n = 9 ∧ k = 1025) ∨ (v = 21 ∧ n = 9 ∧ k = 1537) ∨ (v = 22 ∧ n = 10 ∧ k = 2049) ∨ (v = 23 ∧ n = 10 ∧ k = 3073) ∨ (v = 24 ∧ n = 11 ∧ k = 4097) ∨ (v = 25 ∧ n = 11 ∧ k = 6145) ∨ (v = 26 ∧ n = 12 ∧ k = 8193) ∨ (v = 27 ∧ n = 12 ∧ k = 12289) ∨ (v = 28 ∧ n = 13 ∧ k = 16385) ∨ (v = 29 ∧ n = 13 ∧ k = 24577)
set_option maxHeartbeats 4000000 in
theorem more_c (h : SS B bs br a len cap zs m w p o oc fc out) (hl : len * 8 ≤ 9223372036854775000) (v : Int) (n k : Nat) (hv : longRow v n k) :
    Calls Tryd.prog 67 #[.pointer (some ⟨bs, 0, none⟩), .int .i64 v] w (NOk br a len cap w (iThen (iTk (ib zs) (len * 8) p n) fun q x => .ok (q, k + x))) := by
  have hn5 : n ≤ 24 := by unfold longRow at hv; omega
  have HN := fun ni hni => number_c h hl n ni hni hn5
  have hlt : ∀ q x, iTk (ib zs) (len * 8) p n = .ok (q, x) → x < 2 ^ n := fun q x e => iTk_lt (ib_le zs) e
  clear h hn5
  generalize iTk (ib zs) (len * 8) p n = R at HN hlt ⊢
  cases R with
  | ok x =>
    obtain ⟨q, x⟩ := x
    have HC := fun ni hni => hide ((HN ni hni).mono fun _ _ => NOk.got rfl)
    have hx := hlt q x rfl
    have HR : Hid ((iThen (.ok (q, x)) fun q x => .ok (q, k + x) : Except Int (Nat × Nat)) = .ok (q, k + x)) := rfl
    clear HN hlt
    rcases hv with ⟨rfl, rfl, rfl⟩ | ⟨rfl, rfl, rfl⟩ | ⟨rfl, rfl, rfl⟩ | ⟨rfl, rfl, rfl⟩ | ⟨rfl, rfl, rfl⟩ | ⟨rfl, rfl, rfl⟩ | ⟨rfl, rfl, rfl⟩ | ⟨rfl, rfl, rfl⟩ | ⟨rfl, rfl, rfl⟩ | ⟨rfl, rfl, rfl⟩ | ⟨rfl, rfl, rfl⟩ | ⟨rfl, rfl, rfl⟩ | ⟨rfl, rfl, rfl⟩ | ⟨rfl, rfl, rfl⟩ | ⟨rfl, rfl, rfl⟩ | ⟨rfl, rfl, rfl⟩ | ⟨rfl, rfl, rfl⟩ | ⟨rfl, rfl, rfl⟩ | ⟨rfl, rfl, rfl⟩ | ⟨rfl, rfl, rfl⟩
    all_goals
      go_enter Tryd.func67, Tryd.ntmps67
      go_wp2_with (go_at_call 23; refine (HC _ rfl).out.mono ?_; rintro x w1 ⟨rfl, h1⟩; have H1 := hide h1; clear h1)
      go_ret2
      exact NGot.ok HR.out ⟨by go_num, H1.out⟩
  | error e =>
    have HC := fun ni hni => hide ((HN ni hni).mono fun _ _ => NOk.bad rfl)
    have HR : Hid ((iThen (.error e) fun q x => .ok (q, k + x) : Except Int (Nat × Nat)) = .error e) := rfl
    clear HN hlt
    rcases hv with ⟨rfl, rfl, rfl⟩ | ⟨rfl, rfl, rfl⟩ | ⟨rfl, rfl, rfl⟩ | ⟨rfl, rfl, rfl⟩ | ⟨rfl, rfl, rfl⟩ | ⟨rfl, rfl, rfl⟩ | ⟨rfl, rfl, rfl⟩ | ⟨rfl, rfl, rfl⟩ | ⟨rfl, rfl, rfl⟩ | ⟨rfl, rfl, rfl⟩ | ⟨rfl, rfl, rfl⟩ | ⟨rfl, rfl, rfl⟩ | ⟨rfl, rfl, rfl⟩ | ⟨rfl, rfl, rfl⟩ | ⟨rfl, rfl, rfl⟩ | ⟨rfl, rfl, rfl⟩ | ⟨rfl, rfl, rfl⟩ | ⟨rfl, rfl, rfl⟩ | ⟨rfl, rfl, rfl⟩ | ⟨rfl, rfl, rfl⟩
    all_goals
      go_enter Tryd.func67, Tryd.ntmps67
      go_wp2_with (go_at_call 23; refine (HC _ rfl).out.mono ?_; rintro x w1 ⟨rfl, h1, h2, h3⟩; have H1 := hide h1; have H2 := hide (And.intro h2 h3); clear h1)
      go_ret2
      exact NBad.ok HR.out ⟨rfl, H1.out, H2.out.1, H2.out.2⟩

theorem long_c (h : SS B bs br a len cap zs m w p o oc fc out) (hl : len * 8 ≤ 9223372036854775000) (v : Nat) (hv : 257 ≤ v) (hv4 : v ≤ 400) :
    Calls Tryd.prog 67 #[.pointer (some ⟨bs, 0, none⟩), .int .i64 (v : Int)] w (NOk br a len cap w (iLong (ib zs) (len * 8) p v)) := by
  by_cases h1 : 285 < v
  · have HR := hide (iLong_err (b := ib zs) (T := len * 8) (q := p) h1)
    have h2 : (285 : Int) < v := by omega
    clear h h1
    go_enter Tryd.func67, Tryd.ntmps67
    go_wp2
    go_ret2
    exact NBad.ok HR.out ⟨rfl, Kept.refl _ _, by decide, by decide⟩
  · by_cases h2 : v = 285
    · subst h2
      have HR := hide (iLong_none (b := ib zs) (T := len * 8) (q := p) (v := 285) (k := 258) (by decide) h.pl (by decide) (by decide))
      have H1 := hide h.rd
      have hpl := h.pl
      clear h h1
      go_enter Tryd.func67, Tryd.ntmps67
      go_wp2
      go_ret2
      exact NGot.ok HR.out ⟨rfl, Kept.refl _ _, H1.out, hpl⟩
    · by_cases h3 : v < 265
      · have hk : iLb v = v - 254 ∧ iLx v = 0 := (show ∀ v, v < 265 → 257 ≤ v → iLb v = v - 254 ∧ iLx v = 0 by decide) v h3 hv
        have HR := hide (iLong_none (b := ib zs) (T := len * 8) (q := p) (v := v) (k := v - 254) (by omega) h.pl hk.2 hk.1)
        have H1 := hide h.rd
        have hpl := h.pl
        have h4 : (v : Int) < 265 := by omega
        have h5 : (257 : Int) ≤ v := by omega
        clear h h1 h2 hk
        go_enter Tryd.func67, Tryd.ntmps67
        go_wp2
        go_ret2
        exact NGot.ok HR.out ⟨by go_num, Kept.refl _ _, H1.out, hpl⟩
      · obtain ⟨n, k, hk, e1, e2⟩ : ∃ n k, longRow (v : Int) n k ∧ iLx v = n ∧ iLb v = k := by
          have : v = 265 ∨ v = 266 ∨ v = 267 ∨ v = 268 ∨ v = 269 ∨ v = 270 ∨ v = 271 ∨ v = 272 ∨ v = 273 ∨ v = 274 ∨ v = 275 ∨ v = 276 ∨ v = 277 ∨ v = 278 ∨ v = 279 ∨ v = 280 ∨ v = 281 ∨ v = 282 ∨ v = 283 ∨ v = 284 := by omega
          clear h
          unfold longRow
          rcases this with rfl | rfl | rfl | rfl | rfl | rfl | rfl | rfl | rfl | rfl | rfl | rfl | rfl | rfl | rfl | rfl | rfl | rfl | rfl | rfl
          all_goals exact ⟨_, _, by simp; exact ⟨rfl, rfl⟩, by decide, by decide⟩
        rw [iLong_is (by omega) e1 e2]
        exact more_c h hl (v : Int) n k hk
end
end Go.Proofs.YtibolmgijaploaaDoor

/- The stream's back: contract. -/
namespace Go.Proofs.YtibolmgijaploaaDoor
set_option maxRecDepth 100000
open Go Go.RowKit

section
variable {B bs br : Nat} {a : Option Addr} {len cap : Nat} {zs : List Int} {m : Nat} {w : World} {p : Nat} {o : Option Addr} {oc : Nat} {fc : Value} {out : List Int}
set_option maxHeartbeats 8000000 in
theorem away_c (h : SS B bs br a len cap zs m w p o oc fc out) (hl : len * 8 ≤ 9223372036854775000) (bc q1 : Nat) (v : Int) (n k : Nat) (hv : backRow v n k) (hS : Calls Tryd.prog 54 #[.pointer (some ⟨bs, 0, none⟩), .pointer (some ⟨bc, 0, none⟩)] w (fun x w' => x = .returned (.tuple #[.int .i64 v, .int .i64 0]) ∧ Kept (fun b => b = br) w w' ∧ w'.heap[br]? = some (.cells (rA a len cap q1) 54 (0, 0)) ∧ q1 ≤ len * 8)) :
    Calls Tryd.prog 68 #[.pointer (some ⟨bs, 0, none⟩), .pointer (some ⟨bc, 0, none⟩)] w (NOk br a len cap w (iThen (iTk (ib zs) (len * 8) q1 n) fun q x => .ok (q, k + x))) := by
  have hn5 : n ≤ 24 := by unfold backRow at hv; omega
  have HN := fun ni hni w1 (hk : Kept (fun b => b = br) w w1) hr hq => number_c (SS.move h hk (q := q1) hr hq) hl n ni hni hn5
  have hlt : ∀ q x, iTk (ib zs) (len * 8) q1 n = .ok (q, x) → x < 2 ^ n := fun q x e => iTk_lt (ib_le zs) e
  have HS := hide hS
  clear h hn5 hS
  generalize iTk (ib zs) (len * 8) q1 n = R at HN hlt ⊢
  cases R with
  | ok x =>
    obtain ⟨q, x⟩ := x
    have HC := fun ni hni w1 hk hr hq => hide ((HN ni hni w1 hk hr hq).mono fun _ _ => NOk.got rfl)
    have hx := hlt q x rfl
    have HR : Hid ((iThen (.ok (q, x)) fun q x => .ok (q, k + x) : Except Int (Nat × Nat)) = .ok (q, k + x)) := rfl
    clear HN hlt
    rcases hv with ⟨rfl, rfl, rfl⟩ | ⟨rfl, rfl, rfl⟩ | ⟨rfl, rfl, rfl⟩ | ⟨rfl, rfl, rfl⟩ | ⟨rfl, rfl, rfl⟩ | ⟨rfl, rfl, rfl⟩ | ⟨rfl, rfl, rfl⟩ | ⟨rfl, rfl, rfl⟩ | ⟨rfl, rfl, rfl⟩ | ⟨rfl, rfl, rfl⟩ | ⟨rfl, rfl, rfl⟩ | ⟨rfl, rfl, rfl⟩ | ⟨rfl, rfl, rfl⟩ | ⟨rfl, rfl, rfl⟩ | ⟨rfl, rfl, rfl⟩ | ⟨rfl, rfl, rfl⟩ | ⟨rfl, rfl, rfl⟩ | ⟨rfl, rfl, rfl⟩ | ⟨rfl, rfl, rfl⟩ | ⟨rfl, rfl, rfl⟩ | ⟨rfl, rfl, rfl⟩ | ⟨rfl, rfl, rfl⟩ | ⟨rfl, rfl, rfl⟩ | ⟨rfl, rfl, rfl⟩ | ⟨rfl, rfl, rfl⟩ | ⟨rfl, rfl, rfl⟩
    all_goals
      go_enter Tryd.func68, Tryd.ntmps68
      go_wp2_with (first
        | (go_at_call 54; refine HS.out.mono ?_; rintro x w1 ⟨rfl, k1, r1, q1⟩; have K1 := hide k1; have R1 := hide r1; have Q1 := hide q1; clear k1 r1 q1)
        | (go_at_call 23; refine (HC _ rfl w1 K1.out R1.out Q1.out).out.mono ?_; rintro x w2 ⟨rfl, h1⟩; have H1 := hide h1; clear h1))
      go_ret2
      exact NGot.ok HR.out ⟨by go_num, K1.out.trans H1.out.1 (fun _ _ e => e), H1.out.2⟩
  | error e =>
    have HC := fun ni hni w1 hk hr hq => hide ((HN ni hni w1 hk hr hq).mono fun _ _ => NOk.bad rfl)
    have HR : Hid ((iThen (.error e) fun q x => .ok (q, k + x) : Except Int (Nat × Nat)) = .error e) := rfl
    clear HN hlt
    rcases hv with ⟨rfl, rfl, rfl⟩ | ⟨rfl, rfl, rfl⟩ | ⟨rfl, rfl, rfl⟩ | ⟨rfl, rfl, rfl⟩ | ⟨rfl, rfl, rfl⟩ | ⟨rfl, rfl, rfl⟩ | ⟨rfl, rfl, rfl⟩ | ⟨rfl, rfl, rfl⟩ | ⟨rfl, rfl, rfl⟩ | ⟨rfl, rfl, rfl⟩ | ⟨rfl, rfl, rfl⟩ | ⟨rfl, rfl, rfl⟩ | ⟨rfl, rfl, rfl⟩ | ⟨rfl, rfl, rfl⟩ | ⟨rfl, rfl, rfl⟩ | ⟨rfl, rfl, rfl⟩ | ⟨rfl, rfl, rfl⟩ | ⟨rfl, rfl, rfl⟩ | ⟨rfl, rfl, rfl⟩ | ⟨rfl, rfl, rfl⟩ | ⟨rfl, rfl, rfl⟩ | ⟨rfl, rfl, rfl⟩ | ⟨rfl, rfl, rfl⟩ | ⟨rfl, rfl, rfl⟩ | ⟨rfl, rfl, rfl⟩ | ⟨rfl, rfl, rfl⟩
    all_goals
      go_enter Tryd.func68, Tryd.ntmps68
      go_wp2_with (first
        | (go_at_call 54; refine HS.out.mono ?_; rintro x w1 ⟨rfl, k1, r1, q1⟩; have K1 := hide k1; have R1 := hide r1; have Q1 := hide q1; clear k1 r1 q1)
        | (go_at_call 23; refine (HC _ rfl w1 K1.out R1.out Q1.out).out.mono ?_; rintro x w2 ⟨rfl, h1, h2, h3⟩; have H1 := hide h1; have H2 := hide (And.intro h2 h3); clear h1))
      go_ret2
      exact NBad.ok HR.out ⟨rfl, K1.out.trans H1.out (fun _ _ e => e), H2.out.1, H2.out.2⟩

theorem iBack_is {D : List Int} {b : Nat → Nat} {T q q1 v n k : Nat} (h : iNx D b T q = .ok (q1, v)) (hv : v ≤ 29) (hn : iDx v = n) (hk : iDb v = k) : iBack D b T q = iThen (iTk b T q1 n) fun q x => .ok (q, k + x) := by
  unfold iBack; rw [iThen_of_ok h, if_neg (by omega), hn, hk]
theorem back_c (h : SS B bs br a len cap zs m w p o oc fc out) (hl : len * 8 ≤ 9223372036854775000) {lo hi bc gl gc : Nat} {vo : Value} {N : Nat} {D : List Int} (hc : CodeAt lo hi w bc gl gc vo N D) (hg : Good D) (h3 : D.length ≤ 320) (hbr : br < lo ∨ hi ≤ br) :
    Calls Tryd.prog 68 #[.pointer (some ⟨bs, 0, none⟩), .pointer (some ⟨bc, 0, none⟩)] w (NOk br a len cap w (iBack D (ib zs) (len * 8) p)) := by
  have hS := symbol_c h hl hc hg h3 hbr
  rcases hR : iNx D (ib zs) (len * 8) p with e | ⟨q1, v⟩
  · rw [hR] at hS
    have HS := hide (hS.mono fun _ _ => NOk.bad rfl)
    have HR : Hid (iBack D (ib zs) (len * 8) p = .error e) := by unfold iBack; rw [iThen_of_err hR]; exact rfl
    clear hS hR h hc hg h3 hbr
    go_enter Tryd.func68, Tryd.ntmps68
    go_wp2_with (go_at_call 54; refine HS.out.mono ?_; rintro x w1 ⟨rfl, k1, e1, e2⟩; have K1 := hide k1; clear k1)
    go_ret2
    exact NBad.ok HR.out ⟨rfl, K1.out, e1, e2⟩
  · have hv := (iNx_lt hR).1
    rw [hR] at hS
    have hS2 := hS.mono fun _ _ => NOk.got rfl
    by_cases h29 : 29 < v
    · have HS := hide hS2
      have HR : Hid (iBack D (ib zs) (len * 8) p = .error 63) := by unfold iBack; rw [iThen_of_ok hR, if_pos h29]; exact rfl
      have h5 : (29 : Int) < v := by omega
      clear hS hS2 hR h hc hg hbr
      go_enter Tryd.func68, Tryd.ntmps68
      go_wp2_with (go_at_call 54; refine HS.out.mono ?_; rintro x w1 ⟨rfl, k1, r1, q1⟩; have K1 := hide k1; clear k1 r1 q1)
      go_ret2
      exact NBad.ok HR.out ⟨rfl, K1.out, by decide, by decide⟩
    · by_cases h4 : v < 4
      · have HS := hide hS2
        have hk : iDb v = 1 + v ∧ iDx v = 0 := (show ∀ v, v < 4 → iDb v = 1 + v ∧ iDx v = 0 by decide) v h4
        have hq1 : q1 ≤ len * 8 := by
          have := iNx_got hR
          obtain ⟨n, rfl, hh⟩ := this
          have := hh.1; have := h.pl; omega
        have HR : Hid (iBack D (ib zs) (len * 8) p = .ok (q1, 1 + v)) := by rw [iBack_is hR (by omega) hk.2 hk.1, iThen_of_ok (iTk_ok (by omega))]; exact rfl
        have h5 : (v : Int) < 4 := by omega
        clear hS hS2 hR h hc hg hbr hk
        go_enter Tryd.func68, Tryd.ntmps68
        go_wp2_with (go_at_call 54; refine HS.out.mono ?_; rintro x w1 ⟨rfl, h1⟩; have H1 := hide h1; clear h1)
        go_ret2
        exact NGot.ok HR.out ⟨by go_num, H1.out⟩
      · obtain ⟨n, k, hk, e1, e2⟩ : ∃ n k, backRow (v : Int) n k ∧ iDx v = n ∧ iDb v = k := by
          have : v = 4 ∨ v = 5 ∨ v = 6 ∨ v = 7 ∨ v = 8 ∨ v = 9 ∨ v = 10 ∨ v = 11 ∨ v = 12 ∨ v = 13 ∨ v = 14 ∨ v = 15 ∨ v = 16 ∨ v = 17 ∨ v = 18 ∨ v = 19 ∨ v = 20 ∨ v = 21 ∨ v = 22 ∨ v = 23 ∨ v = 24 ∨ v = 25 ∨ v = 26 ∨ v = 27 ∨ v = 28 ∨ v = 29 := by omega
          clear h hS hS2 hR hc
          unfold backRow
          rcases this with rfl | rfl | rfl | rfl | rfl | rfl | rfl | rfl | rfl | rfl | rfl | rfl | rfl | rfl | rfl | rfl | rfl | rfl | rfl | rfl | rfl | rfl | rfl | rfl | rfl | rfl
          all_goals exact ⟨_, _, by simp; exact ⟨rfl, rfl⟩, by decide, by decide⟩
        rw [iBack_is hR (by omega) e1 e2]
        exact away_c h hl bc q1 (v : Int) n k hk hS2
end
end Go.Proofs.YtibolmgijaploaaDoor
