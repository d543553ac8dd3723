/- Days, months and years, over whole numbers. No Go text in sight. -/
import Derived.Test.YtlfffpgokemjbaaRows
import Derived.WalkKit
namespace Go.Proofs.Ytlfffpgokemjbaa.T
set_option maxRecDepth 100000
open Go

/-- A long year. -/
def Lg (y : Int) : Prop := (y % 4 = 0 ∧ y % 100 ≠ 0) ∨ y % 400 = 0
instance (y : Int) : Decidable (Lg y) := inferInstanceAs (Decidable (_ ∨ _))
/-- How many days a year has. -/
def yd (y : Int) : Int := if Lg y then 366 else 365
/-- How many days a month has. -/
def md (y m : Int) : Int := if m = 2 then (if Lg y then 29 else 28) else if m = 4 ∨ m = 6 ∨ m = 9 ∨ m = 11 then 30 else 31
/-- How many days a year's first one is behind the first one of 1970. -/
def yn (y : Int) : Int := 365 * (y - 1970) + (y - 1) / 4 - (y - 1) / 100 + (y - 1) / 400 - 477
/-- How many days of a year lie ahead of a month, where it is not long. -/
def mc (m : Int) : Int := if m ≤ 1 then 0 else if m = 2 then 31 else if m = 3 then 59 else if m = 4 then 90 else if m = 5 then 120 else if m = 6 then 151 else if m = 7 then 181 else if m = 8 then 212 else if m = 9 then 243 else if m = 10 then 273 else if m = 11 then 304 else if m = 12 then 334 else 365
/-- How many days of a year lie ahead of a month. -/
def mn (y m : Int) : Int := mc m + if Lg y ∧ 3 ≤ m then 1 else 0
theorem yn_1970 : yn 1970 = 0 := by decide
theorem yn_succ (y : Int) : yn (y + 1) = yn y + yd y := by
  unfold yn yd
  by_cases h : Lg y
  · rw [if_pos h]; unfold Lg at h; omega
  · rw [if_neg h]; unfold Lg at h; omega
theorem yd_le (y : Int) : 365 ≤ yd y ∧ yd y ≤ 366 := by unfold yd; split <;> omega
theorem yn_mono {y z : Int} (h : y ≤ z) : yn y + 365 * (z - y) ≤ yn z := by unfold yn; omega
theorem yn_upto {y z : Int} (h : y ≤ z) : yn z ≤ yn y + 366 * (z - y) := by unfold yn; omega
theorem yn_next {y z : Int} (h : y < z) : yn y + yd y ≤ yn z := by
  have := yn_mono (show y + 1 ≤ z by omega)
  rw [yn_succ] at this
  omega
theorem month_cases {m : Int} (h1 : 1 ≤ m) (h2 : m ≤ 12) : m = 1 ∨ m = 2 ∨ m = 3 ∨ m = 4 ∨ m = 5 ∨ m = 6 ∨ m = 7 ∨ m = 8 ∨ m = 9 ∨ m = 10 ∨ m = 11 ∨ m = 12 := by omega
theorem mn_1 (y : Int) : mn y 1 = 0 := by unfold mn; simp [mc]
theorem mn_13 (y : Int) : mn y 13 = yd y := by unfold mn yd; by_cases h : Lg y <;> simp [mc, h]
theorem mn_succ (y : Int) {m : Int} (h1 : 1 ≤ m) (h2 : m ≤ 12) : mn y (m + 1) = mn y m + md y m := by
  unfold mn md
  by_cases h : Lg y
  · rcases month_cases h1 h2 with rfl | rfl | rfl | rfl | rfl | rfl | rfl | rfl | rfl | rfl | rfl | rfl <;> simp [mc, h]
  · rcases month_cases h1 h2 with rfl | rfl | rfl | rfl | rfl | rfl | rfl | rfl | rfl | rfl | rfl | rfl <;> simp [mc, h]
theorem md_le (y m : Int) : 28 ≤ md y m ∧ md y m ≤ 31 := by unfold md; split <;> (try split) <;> omega
theorem mn_mono (y : Int) {m k : Int} (h1 : 1 ≤ m) (h : m ≤ k) (h2 : k ≤ 13) : mn y m ≤ mn y k := by
  have key : ∀ (j : Nat) (m : Int), 1 ≤ m → m + (j : Int) ≤ 13 → mn y m ≤ mn y (m + (j : Int)) := fun j => by
    induction j with
    | zero => intro m _ _; rw [show m + ((0 : Nat) : Int) = m by omega]; exact Int.le_refl _
    | succ j ih =>
      intro m a b
      have := ih (m + 1) (by omega) (by omega)
      rw [mn_succ y a (by omega), show m + 1 + (j : Int) = m + ((j + 1 : Nat) : Int) by omega] at this
      have := md_le y m
      omega
  have := key (k - m).toNat m h1 (by omega)
  rw [show m + ((k - m).toNat : Int) = k by omega] at this
  exact this
theorem mn_next (y : Int) {m k : Int} (h1 : 1 ≤ m) (h : m < k) (h2 : k ≤ 13) : mn y m + md y m ≤ mn y k := by
  have := mn_mono y (show 1 ≤ m + 1 by omega) (show m + 1 ≤ k by omega) h2
  rw [mn_succ y h1 (by omega)] at this
  omega
/-- A day's number behind the first one of 1970. -/
def dn (y m d : Int) : Int := yn y + mn y m + d - 1
/-- Month and day are ones of that year, and n is the day's number. -/
def IsDay (n y m d : Int) : Prop := (1 ≤ m ∧ m ≤ 12) ∧ (1 ≤ d ∧ d ≤ md y m) ∧ n = dn y m d
theorem IsDay.bounds {n y m d : Int} (h : IsDay n y m d) : yn y + mn y m ≤ n ∧ n < yn y + mn y m + md y m ∧ yn y ≤ n ∧ n < yn y + yd y := by
  obtain ⟨⟨a, b⟩, ⟨c, e⟩, rfl⟩ := h
  have h1 := mn_mono y (show (1 : Int) ≤ 1 by omega) a (by omega)
  have h2 := mn_next y a (show m < 13 by omega) (by omega)
  rw [mn_1] at h1
  rw [mn_13] at h2
  unfold dn
  omega
theorem IsDay.year {n k y m d y' m' d' : Int} (h : IsDay n y m d) (h' : IsDay k y' m' d') (hle : n ≤ k) : y ≤ y' := by
  have a := h.bounds
  have b := h'.bounds
  apply Classical.byContradiction
  intro q
  have := yn_next (show y' < y by omega)
  omega
theorem IsDay.month {n k y m d m' d' : Int} (h : IsDay n y m d) (h' : IsDay k y m' d') (hle : n ≤ k) : m ≤ m' := by
  have a := h.bounds
  have b := h'.bounds
  apply Classical.byContradiction
  intro q
  have := mn_next y h'.1.1 (show m' < m by omega) (by have := h.1; omega)
  omega
theorem IsDay.day {n k y m d d' : Int} (h : IsDay n y m d) (h' : IsDay k y m d') : k - n = d' - d := by
  have a := h.2.2
  have b := h'.2.2
  unfold dn at a b
  omega
/-- A day's number is one date's alone. -/
theorem IsDay.one {n y m d y' m' d' : Int} (h : IsDay n y m d) (h' : IsDay n y' m' d') : y = y' ∧ m = m' ∧ d = d' := by
  obtain rfl : y = y' := by have := h.year h' (Int.le_refl _); have := h'.year h (Int.le_refl _); omega
  obtain rfl : m = m' := by have := h.month h' (Int.le_refl _); have := h'.month h (Int.le_refl _); omega
  have := h.day h'
  exact ⟨rfl, rfl, by omega⟩
/-- The next day. -/
theorem IsDay.next {n y m d y' m' d' : Int} (h : IsDay n y m d) (h' : IsDay (n + 1) y' m' d') : (d' = d + 1 ∧ m' = m ∧ y' = y) ∨ (d' = 1 ∧ 28 ≤ d ∧ ((m' = m + 1 ∧ y' = y) ∨ (m' = 1 ∧ m = 12 ∧ y' = y + 1))) := by
  have hm := md_le y m
  by_cases h1 : d < md y m
  · have k : IsDay (n + 1) y m (d + 1) := ⟨h.1, ⟨by have := h.2.1; omega, by omega⟩, by have := h.2.2; unfold dn at this ⊢; omega⟩
    obtain ⟨rfl, rfl, rfl⟩ := k.one h'
    exact .inl ⟨rfl, rfl, rfl⟩
  · have hd : d = md y m := by have := h.2.1; omega
    have hn := h.2.2
    unfold dn at hn
    by_cases h2 : m < 12
    · have e := mn_succ y h.1.1 h.1.2
      have k : IsDay (n + 1) y (m + 1) 1 := ⟨by have := h.1; omega, ⟨by omega, by have := md_le y (m + 1); omega⟩, by unfold dn; omega⟩
      obtain ⟨rfl, rfl, rfl⟩ := k.one h'
      exact .inr ⟨rfl, by omega, .inl ⟨rfl, rfl⟩⟩
    · obtain rfl : m = 12 := by have := h.1; omega
      have e := mn_succ y h.1.1 h.1.2
      rw [show (12 : Int) + 1 = 13 from rfl, mn_13] at e
      have k : IsDay (n + 1) (y + 1) 1 1 := ⟨by omega, ⟨by omega, by have := md_le (y + 1) 1; omega⟩, by unfold dn; rw [mn_1, yn_succ]; omega⟩
      obtain ⟨rfl, rfl, rfl⟩ := k.one h'
      exact .inr ⟨rfl, by omega, .inr ⟨rfl, rfl, rfl⟩⟩
/-- Each day's number is some date's. -/
theorem year_of (n : Int) : ∃ y, yn y ≤ n ∧ n < yn y + yd y := by
  have key : ∀ (k : Nat) (y : Int), yn y ≤ n → n < yn (y + (k : Int)) → ∃ y, yn y ≤ n ∧ n < yn y + yd y := fun k => by
    induction k with
    | zero => intro y h1 h2; rw [show y + ((0 : Nat) : Int) = y by omega] at h2; omega
    | succ k ih =>
      intro y h1 h2
      by_cases h : n < yn y + yd y
      · exact ⟨y, h1, h⟩
      · exact ih (y + 1) (by rw [yn_succ]; omega) (by rw [show y + 1 + (k : Int) = y + ((k + 1 : Nat) : Int) by omega]; exact h2)
  by_cases h : 0 ≤ n
  · refine key (n.toNat + 1) 1970 (by rw [yn_1970]; exact h) ?_
    have := yn_mono (show (1970 : Int) ≤ 1970 + ((n.toNat + 1 : Nat) : Int) by omega)
    rw [yn_1970] at this
    omega
  · refine key ((-n).toNat + 1) (1970 + n) ?_ ?_
    · have := yn_mono (show (1970 : Int) + n ≤ 1970 by omega)
      rw [yn_1970] at this
      omega
    · have := yn_mono (show (1970 : Int) ≤ 1970 + n + (((-n).toNat + 1 : Nat) : Int) by omega)
      rw [yn_1970] at this
      omega
theorem month_of (y r : Int) (h0 : 0 ≤ r) (h1 : r < yd y) : ∃ m, (1 ≤ m ∧ m ≤ 12) ∧ mn y m ≤ r ∧ r < mn y m + md y m := by
  have key : ∀ (k : Nat) (m : Int), 1 ≤ m → m + (k : Int) ≤ 13 → mn y m ≤ r → r < mn y (m + (k : Int)) → ∃ m, (1 ≤ m ∧ m ≤ 12) ∧ mn y m ≤ r ∧ r < mn y m + md y m := fun k => by
    induction k with
    | zero => intro m a b c d; rw [show m + ((0 : Nat) : Int) = m by omega] at d; omega
    | succ k ih =>
      intro m a b c d
      by_cases h : r < mn y m + md y m
      · exact ⟨m, ⟨a, by omega⟩, c, h⟩
      · exact ih (m + 1) (by omega) (by omega) (by rw [mn_succ y a (by omega)]; omega) (by rw [show m + 1 + (k : Int) = m + ((k + 1 : Nat) : Int) by omega]; exact d)
  exact key 12 1 (by omega) (by omega) (by rw [mn_1]; exact h0) (by rw [show (1 : Int) + ((12 : Nat) : Int) = 13 from rfl, mn_13]; exact h1)
theorem day_of (n : Int) : ∃ y m d, IsDay n y m d := by
  obtain ⟨y, a, b⟩ := year_of n
  obtain ⟨m, hm, c, e⟩ := month_of y (n - yn y) (by omega) (by omega)
  exact ⟨y, m, n - yn y - mn y m + 1, hm, ⟨by omega, by omega⟩, by unfold dn; omega⟩
/-- A date: what the clock says at a second. -/
def IsDt (s y m d h mi se : Int) : Prop := IsDay (s / 86400) y m d ∧ (0 ≤ h ∧ h ≤ 23) ∧ (0 ≤ mi ∧ mi ≤ 59) ∧ (0 ≤ se ∧ se ≤ 59) ∧ s % 86400 = h * 3600 + mi * 60 + se
theorem IsDt.one {s y m d h mi se y' m' d' h' mi' se' : Int} (a : IsDt s y m d h mi se) (b : IsDt s y' m' d' h' mi' se') : (y = y' ∧ m = m' ∧ d = d') ∧ h = h' ∧ mi = mi' ∧ se = se' := by
  obtain ⟨a1, a2, a3, a4, a5⟩ := a
  obtain ⟨b1, b2, b3, b4, b5⟩ := b
  exact ⟨a1.one b1, by omega, by omega, by omega⟩
theorem IsDt.of {y m d h mi se : Int} (a : (1 ≤ m ∧ m ≤ 12) ∧ (1 ≤ d ∧ d ≤ md y m)) (b : (0 ≤ h ∧ h ≤ 23) ∧ (0 ≤ mi ∧ mi ≤ 59) ∧ (0 ≤ se ∧ se ≤ 59)) : IsDt (dn y m d * 86400 + h * 3600 + mi * 60 + se) y m d h mi se :=
  ⟨⟨a.1, a.2, by omega⟩, b.1, b.2.1, b.2.2, by omega⟩
theorem IsDt.back {s y m d h mi se : Int} (a : IsDt s y m d h mi se) : s = dn y m d * 86400 + h * 3600 + mi * 60 + se := by
  obtain ⟨a1, a2, a3, a4, a5⟩ := a
  have := a1.2.2
  omega
theorem dt_of (s : Int) : ∃ y m d, IsDt s y m d (s % 86400 / 3600) (s % 86400 % 3600 / 60) (s % 86400 % 60) := by
  obtain ⟨y, m, d, h⟩ := day_of (s / 86400)
  exact ⟨y, m, d, h, by omega, by omega, by omega, by omega⟩
/-- The years of all times of 64 bits. -/
theorem IsDt.years {s y m d h mi se : Int} (a : IsDt s y m d h mi se) (h1 : -9223372037 ≤ s) (h2 : s ≤ 9223372036) : 1677 ≤ y ∧ y ≤ 2262 := by
  have b := a.1.bounds
  constructor
  · apply Classical.byContradiction
    intro q
    have := yn_next (show y < 1677 by omega)
    have e : yn 1677 = -107015 := by decide
    omega
  · apply Classical.byContradiction
    intro q
    have := yn_mono (show 2263 ≤ y by omega)
    have e : yn 2263 = 107016 := by decide
    omega
/-- Of two dates that of the later second is not ahead. -/
theorem IsDt.order {s t y m d h mi se y' m' d' h' mi' se' : Int} (a : IsDt s y m d h mi se) (b : IsDt t y' m' d' h' mi' se') (hle : s ≤ t) :
    y < y' ∨ (y = y' ∧ (m < m' ∨ (m = m' ∧ (d < d' ∨ (d = d' ∧ (h < h' ∨ (h = h' ∧ (mi < mi' ∨ (mi = mi' ∧ (se < se' ∨ (se = se' ∧ s = t))))))))))) := by
  have hq : s / 86400 ≤ t / 86400 := by omega
  rcases (by omega : y < y' ∨ y' ≤ y) with q | q
  · exact .inl q
  · obtain rfl : y = y' := by have := a.1.year b.1 hq; omega
    refine .inr ⟨rfl, ?_⟩
    rcases (by omega : m < m' ∨ m' ≤ m) with q2 | q2
    · exact .inl q2
    · obtain rfl : m = m' := by have := a.1.month b.1 hq; omega
      refine .inr ⟨rfl, ?_⟩
      have hd := a.1.day b.1
      obtain ⟨_, a2, a3, a4, a5⟩ := a
      obtain ⟨_, b2, b3, b4, b5⟩ := b
      omega
end Go.Proofs.Ytlfffpgokemjbaa.T
