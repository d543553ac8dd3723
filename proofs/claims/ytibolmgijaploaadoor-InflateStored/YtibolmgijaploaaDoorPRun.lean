/- The stream's times, long and back: contracts. -/
import Derived.Test.YtibolmgijaploaaDoorPRead
import Derived.Test.YtibolmgijaploaaDoorPSpec
namespace Go.Proofs.YtibolmgijaploaaDoor
set_option maxRecDepth 100000
open Go Go.RowKit

section
variable {B bs br : Nat} {a : Option Addr} {len cap : Nat} {zs : List Int} {m : Nat} {w : World} {p : Nat} {o : Option Addr} {oc : Nat} {fc : Value} {out : List Int}

theorem times_c (h : SS B bs br a len cap zs m w p o oc fc out) (hl : len * 8 ≤ 9223372036854775000) (v : Int) (n k : Nat) (hv : (v = 16 ∧ n = 2 ∧ k = 3) ∨ (v = 17 ∧ n = 3 ∧ k = 3) ∨ (v = 18 ∧ n = 7 ∧ k = 11)) :
    Calls Tryd.prog 56 #[.pointer (some ⟨bs, 0, none⟩), .int .i64 v] w (NOk br a len cap w (iThen (iTk (ib zs) (len * 8) p n) fun q x => .ok (q, k + x))) := by
  have HN := fun ni hni => number_c h hl n ni hni (by omega)
  have hlt : ∀ q x, iTk (ib zs) (len * 8) p n = .ok (q, x) → x < 2 ^ n := fun q x e => iTk_lt (ib_le zs) e
  clear h
  generalize iTk (ib zs) (len * 8) p n = R at HN hlt ⊢
  cases R with
  | ok x =>
    obtain ⟨q, x⟩ := x
    have HC := fun ni hni => hide ((HN ni hni).mono fun _ _ => NOk.got rfl)
    have hx := hlt q x rfl
    have HR : Hid ((iThen (.ok (q, x)) fun q x => .ok (q, k + x) : Except Int (Nat × Nat)) = .ok (q, k + x)) := rfl
    clear HN hlt
    rcases hv with ⟨rfl, rfl, rfl⟩ | ⟨rfl, rfl, rfl⟩ | ⟨rfl, rfl, rfl⟩
    all_goals
      go_enter Tryd.func56, Tryd.ntmps56
      go_wp2_with (go_at_call 23; refine (HC _ rfl).out.mono ?_; rintro x w1 ⟨rfl, h1⟩; have H1 := hide h1; clear h1)
      go_ret2
      exact NGot.ok HR.out ⟨by go_num, H1.out⟩
  | error e =>
    have HC := fun ni hni => hide ((HN ni hni).mono fun _ _ => NOk.bad rfl)
    have HR : Hid ((iThen (.error e) fun q x => .ok (q, k + x) : Except Int (Nat × Nat)) = .error e) := rfl
    clear HN hlt
    rcases hv with ⟨rfl, rfl, rfl⟩ | ⟨rfl, rfl, rfl⟩ | ⟨rfl, rfl, rfl⟩
    all_goals
      go_enter Tryd.func56, Tryd.ntmps56
      go_wp2_with (go_at_call 23; refine (HC _ rfl).out.mono ?_; rintro x w1 ⟨rfl, h1, h2, h3⟩; have H1 := hide h1; have H2 := hide (And.intro h2 h3); clear h1)
      go_ret2
      exact NBad.ok HR.out ⟨rfl, H1.out, H2.out.1, H2.out.2⟩

def longRow (v : Int) (n k : Nat) : Prop := (v = 265 ∧ n = 1 ∧ k = 11) ∨ (v = 266 ∧ n = 1 ∧ k = 13) ∨ (v = 267 ∧ n = 1 ∧ k = 15) ∨ (v = 268 ∧ n = 1 ∧ k = 17) ∨ (v = 269 ∧ n = 2 ∧ k = 19) ∨ (v = 270 ∧ n = 2 ∧ k = 23) ∨ (v = 271 ∧ n = 2 ∧ k = 27) ∨ (v = 272 ∧ n = 2 ∧ k = 31) ∨ (v = 273 ∧ n = 3 ∧ k = 35) ∨ (v = 274 ∧ n = 3 ∧ k = 43) ∨ (v = 275 ∧ n = 3 ∧ k = 51) ∨ (v = 276 ∧ n = 3 ∧ k = 59) ∨ (v = 277 ∧ n = 4 ∧ k = 67) ∨ (v = 278 ∧ n = 4 ∧ k = 83) ∨ (v = 279 ∧ n = 4 ∧ k = 99) ∨ (v = 280 ∧ n = 4 ∧ k = 115) ∨ (v = 281 ∧ n = 5 ∧ k = 131) ∨ (v = 282 ∧ n = 5 ∧ k = 163) ∨ (v = 283 ∧ n = 5 ∧ k = 195) ∨ (v = 284 ∧ n = 5 ∧ k = 227)
def backRow (v : Int) (n k : Nat) : Prop := (v = 4 ∧ n = 1 ∧ k = 5) ∨ (v = 5 ∧ n = 1 ∧ k = 7) ∨ (v = 6 ∧ n = 2 ∧ k = 9) ∨ (v = 7 ∧ n = 2 ∧ k = 13) ∨ (v = 8 ∧ n = 3 ∧ k = 17) ∨ (v = 9 ∧ n = 3 ∧ k = 25) ∨ (v = 10 ∧ n = 4 ∧ k = 33) ∨ (v = 11 ∧ n = 4 ∧ k = 49) ∨ (v = 12 ∧ n = 5 ∧ k = 65) ∨ (v = 13 ∧ n = 5 ∧ k = 97) ∨ (v = 14 ∧ n = 6 ∧ k = 129) ∨ (v = 15 ∧ n = 6 ∧ k = 193) ∨ (v = 16 ∧ n = 7 ∧ k = 257) ∨ (v = 17 ∧ n = 7 ∧ k = 385) ∨ (v = 18 ∧ n = 8 ∧ k = 513) ∨ (v = 19 ∧ n = 8 ∧ k = 769) ∨ (v = 20 ∧ n = 9 ∧ k = 1025) ∨ (v = 21 ∧ n = 9 ∧ k = 1537) ∨ (v = 22 ∧ n = 10 ∧ k = 2049) ∨ (v = 23 ∧ n = 10 ∧ k = 3073) ∨ (v = 24 ∧ n = 11 ∧ k = 4097) ∨ (v = 25 ∧ n = 11 ∧ k = 6145) ∨ (v = 26 ∧ n = 12 ∧ k = 8193) ∨ (v = 27 ∧ n = 12 ∧ k = 12289) ∨ (v = 28 ∧ n = 13 ∧ k = 16385) ∨ (v = 29 ∧ n = 13 ∧ k = 24577)
set_option maxHeartbeats 4000000 in
theorem more_c (h : SS B bs br a len cap zs m w p o oc fc out) (hl : len * 8 ≤ 9223372036854775000) (v : Int) (n k : Nat) (hv : longRow v n k) :
    Calls Tryd.prog 67 #[.pointer (some ⟨bs, 0, none⟩), .int .i64 v] w (NOk br a len cap w (iThen (iTk (ib zs) (len * 8) p n) fun q x => .ok (q, k + x))) := by
  have hn5 : n ≤ 24 := by unfold longRow at hv; omega
  have HN := fun ni hni => number_c h hl n ni hni hn5
  have hlt : ∀ q x, iTk (ib zs) (len * 8) p n = .ok (q, x) → x < 2 ^ n := fun q x e => iTk_lt (ib_le zs) e
  clear h hn5
  generalize iTk (ib zs) (len * 8) p n = R at HN hlt ⊢
  cases R with
  | ok x =>
    obtain ⟨q, x⟩ := x
    have HC := fun ni hni => hide ((HN ni hni).mono fun _ _ => NOk.got rfl)
    have hx := hlt q x rfl
    have HR : Hid ((iThen (.ok (q, x)) fun q x => .ok (q, k + x) : Except Int (Nat × Nat)) = .ok (q, k + x)) := rfl
    clear HN hlt
    rcases hv with ⟨rfl, rfl, rfl⟩ | ⟨rfl, rfl, rfl⟩ | ⟨rfl, rfl, rfl⟩ | ⟨rfl, rfl, rfl⟩ | ⟨rfl, rfl, rfl⟩ | ⟨rfl, rfl, rfl⟩ | ⟨rfl, rfl, rfl⟩ | ⟨rfl, rfl, rfl⟩ | ⟨rfl, rfl, rfl⟩ | ⟨rfl, rfl, rfl⟩ | ⟨rfl, rfl, rfl⟩ | ⟨rfl, rfl, rfl⟩ | ⟨rfl, rfl, rfl⟩ | ⟨rfl, rfl, rfl⟩ | ⟨rfl, rfl, rfl⟩ | ⟨rfl, rfl, rfl⟩ | ⟨rfl, rfl, rfl⟩ | ⟨rfl, rfl, rfl⟩ | ⟨rfl, rfl, rfl⟩ | ⟨rfl, rfl, rfl⟩
    all_goals
      go_enter Tryd.func67, Tryd.ntmps67
      go_wp2_with (go_at_call 23; refine (HC _ rfl).out.mono ?_; rintro x w1 ⟨rfl, h1⟩; have H1 := hide h1; clear h1)
      go_ret2
      exact NGot.ok HR.out ⟨by go_num, H1.out⟩
  | error e =>
    have HC := fun ni hni => hide ((HN ni hni).mono fun _ _ => NOk.bad rfl)
    have HR : Hid ((iThen (.error e) fun q x => .ok (q, k + x) : Except Int (Nat × Nat)) = .error e) := rfl
    clear HN hlt
    rcases hv with ⟨rfl, rfl, rfl⟩ | ⟨rfl, rfl, rfl⟩ | ⟨rfl, rfl, rfl⟩ | ⟨rfl, rfl, rfl⟩ | ⟨rfl, rfl, rfl⟩ | ⟨rfl, rfl, rfl⟩ | ⟨rfl, rfl, rfl⟩ | ⟨rfl, rfl, rfl⟩ | ⟨rfl, rfl, rfl⟩ | ⟨rfl, rfl, rfl⟩ | ⟨rfl, rfl, rfl⟩ | ⟨rfl, rfl, rfl⟩ | ⟨rfl, rfl, rfl⟩ | ⟨rfl, rfl, rfl⟩ | ⟨rfl, rfl, rfl⟩ | ⟨rfl, rfl, rfl⟩ | ⟨rfl, rfl, rfl⟩ | ⟨rfl, rfl, rfl⟩ | ⟨rfl, rfl, rfl⟩ | ⟨rfl, rfl, rfl⟩
    all_goals
      go_enter Tryd.func67, Tryd.ntmps67
      go_wp2_with (go_at_call 23; refine (HC _ rfl).out.mono ?_; rintro x w1 ⟨rfl, h1, h2, h3⟩; have H1 := hide h1; have H2 := hide (And.intro h2 h3); clear h1)
      go_ret2
      exact NBad.ok HR.out ⟨rfl, H1.out, H2.out.1, H2.out.2⟩

theorem long_c (h : SS B bs br a len cap zs m w p o oc fc out) (hl : len * 8 ≤ 9223372036854775000) (v : Nat) (hv : 257 ≤ v) (hv4 : v ≤ 400) :
    Calls Tryd.prog 67 #[.pointer (some ⟨bs, 0, none⟩), .int .i64 (v : Int)] w (NOk br a len cap w (iLong (ib zs) (len * 8) p v)) := by
  by_cases h1 : 285 < v
  · have HR := hide (iLong_err (b := ib zs) (T := len * 8) (q := p) h1)
    have h2 : (285 : Int) < v := by omega
    clear h h1
    go_enter Tryd.func67, Tryd.ntmps67
    go_wp2
    go_ret2
    exact NBad.ok HR.out ⟨rfl, Kept.refl _ _, by decide, by decide⟩
  · by_cases h2 : v = 285
    · subst h2
      have HR := hide (iLong_none (b := ib zs) (T := len * 8) (q := p) (v := 285) (k := 258) (by decide) h.pl (by decide) (by decide))
      have H1 := hide h.rd
      have hpl := h.pl
      clear h h1
      go_enter Tryd.func67, Tryd.ntmps67
      go_wp2
      go_ret2
      exact NGot.ok HR.out ⟨rfl, Kept.refl _ _, H1.out, hpl⟩
    · by_cases h3 : v < 265
      · have hk : iLb v = v - 254 ∧ iLx v = 0 := (show ∀ v, v < 265 → 257 ≤ v → iLb v = v - 254 ∧ iLx v = 0 by decide) v h3 hv
        have HR := hide (iLong_none (b := ib zs) (T := len * 8) (q := p) (v := v) (k := v - 254) (by omega) h.pl hk.2 hk.1)
        have H1 := hide h.rd
        have hpl := h.pl
        have h4 : (v : Int) < 265 := by omega
        have h5 : (257 : Int) ≤ v := by omega
        clear h h1 h2 hk
        go_enter Tryd.func67, Tryd.ntmps67
        go_wp2
        go_ret2
        exact NGot.ok HR.out ⟨by go_num, Kept.refl _ _, H1.out, hpl⟩
      · obtain ⟨n, k, hk, e1, e2⟩ : ∃ n k, longRow (v : Int) n k ∧ iLx v = n ∧ iLb v = k := by
          have : v = 265 ∨ v = 266 ∨ v = 267 ∨ v = 268 ∨ v = 269 ∨ v = 270 ∨ v = 271 ∨ v = 272 ∨ v = 273 ∨ v = 274 ∨ v = 275 ∨ v = 276 ∨ v = 277 ∨ v = 278 ∨ v = 279 ∨ v = 280 ∨ v = 281 ∨ v = 282 ∨ v = 283 ∨ v = 284 := by omega
          clear h
          unfold longRow
          rcases this with rfl | rfl | rfl | rfl | rfl | rfl | rfl | rfl | rfl | rfl | rfl | rfl | rfl | rfl | rfl | rfl | rfl | rfl | rfl | rfl
          all_goals exact ⟨_, _, by simp; exact ⟨rfl, rfl⟩, by decide, by decide⟩
        rw [iLong_is (by omega) e1 e2]
        exact more_c h hl (v : Int) n k hk
end
end Go.Proofs.YtibolmgijaploaaDoor
