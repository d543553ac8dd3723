/- The reference's Match: contract. -/
import Derived.Test.YtibolmgijaploaaDoorHRef2
import Derived.Test.YtibolmgijaploaaDoorRefBytes
namespace Go.Proofs.YtibolmgijaploaaDoor
set_option maxRecDepth 100000
open Go Go.RowKit

/-- Do the bits of L from p on agree with R, as far as they go? And are they all there? -/
def agB (L : List Int) (p : Nat) (R : List Int) : Bool := decide (∀ k, k < R.length → p + k < L.length → ln L (p + k) = ln R k)
def alB (L : List Int) (p : Nat) (R : List Int) : Bool := agB L p R && decide (p + R.length ≤ L.length)
theorem agB_true {L : List Int} {p : Nat} {R : List Int} (h : ∀ k, k < R.length → p + k < L.length → ln L (p + k) = ln R k) : agB L p R = true := decide_eq_true h
theorem agB_false {L : List Int} {p : Nat} {R : List Int} (k : Nat) (h1 : k < R.length) (h2 : p + k < L.length) (h3 : ¬ ln L (p + k) = ln R k) : agB L p R = false := decide_eq_false fun h => h3 (h k h1 h2)

set_option maxHeartbeats 1000000 in
theorem match_c (lo hi lo' hi' : Nat) (a a' : Option Addr) (cap cap' : Nat) (L R : List Int) (p : Nat) (w : World) (hL : L.length ≤ 1000000) (hR : R.length ≤ 1000000) (hp : p ≤ L.length) (h : Ints lo hi w a L) (h' : Ints lo' hi' w a' R) :
    Calls Tryd.prog 44 #[.slice a L.length cap, .int .i64 (p : Int), .slice a' R.length cap'] w fun e w' => e = .returned (.tuple #[.bool (agB L p R), .bool (alB L p R)]) ∧ ∃ n, w' = w.drewN n := by
  have HI : Hid (Ints lo hi w a L) := h
  have HI' : Hid (Ints lo' hi' w a' R) := h'
  obtain ⟨AG, hAG⟩ : ∃ b, b = agB L p R := ⟨_, rfl⟩
  obtain ⟨AL, hAL⟩ : ∃ b, b = alB L p R := ⟨_, rfl⟩
  rw [← hAG, ← hAL]
  have HAG : Hid (AG = agB L p R) := hAG
  have HAL : Hid (AL = (AG && decide (p + R.length ≤ L.length))) := by rw [hAG, hAL]; rfl
  clear h h' hAG hAL
  go_enter Tryd.func44, Tryd.ntmps44
  go_wp2
  go_loopw [8] (fun i wr => ∃ k : Nat, k ≤ R.length ∧ i = .int .i64 k ∧ (∀ j, j < k → p + j < L.length ∧ ln L (p + j) = ln R j) ∧ ∃ n, wr = w.drewN n) (fun i _ => R.length - (intOf i).toNat)
  case atStart => exact ⟨0, by omega, rfl, fun j hj => absurd hj (by omega), 0, rfl⟩
  case round =>
    obtain ⟨k, hk, rfl, hso, n, rfl⟩ := hrel
    have HSO : Hid (∀ j, j < k → p + j < L.length ∧ ln L (p + j) = ln R j) := hso
    clear hso
    by_cases hlt : k < R.length
    · by_cases hin : p + k < L.length
      · obtain ⟨b, off, _, _, hb, rfl, hcell⟩ := HI.out.resolve_left (by omega)
        obtain ⟨b', off', _, _, hb', rfl, hcell'⟩ := HI'.out.resolve_left (by omega)
        have hc := hcell (p + k) hin
        have hc' := hcell' k hlt
        clear hcell hcell' HI HI'
        by_cases hm : ln L (p + k) = ln R k
        · have HN : Hid (∀ j, j < k + 1 → p + j < L.length ∧ ln L (p + j) = ln R j) := fun j hj => by
            by_cases e : j = k
            · subst e; exact ⟨hin, hm⟩
            · exact HSO.out j (by omega)
          rw [hm] at hc
          clear hm
          generalize ln R k = X at hc hc'
          go_wp2
          go_quiet (fail)
          go_wp2
          go_roundw
          case rel => exact ⟨k + 1, by omega, by go_num, HN.out, _, rfl⟩
          case measure => simp [intOf]; omega
        · have h1 : AG = false := by rw [HAG.out]; exact agB_false k hlt hin hm
          have h2 : AL = false := by rw [HAL.out, h1]; rfl
          subst h1 h2
          generalize ln R k = X at hc' hm
          generalize ln L (p + k) = Y at hc hm
          clear HAG HAL
          go_wp2
          go_quiet (fail)
          go_wp2
          go_ret2
          exact ⟨rfl, _, World.drewN_drewN _ _ _⟩
      · have h1 : AG = true := by
          rw [HAG.out]
          refine agB_true fun j hj1 hj2 => ?_
          exact (HSO.out j (by omega)).2
        have h2 : AL = false := by rw [HAL.out, h1]; simp; omega
        subst h1 h2
        have hin' : (L.length : Int) ≤ (p : Int) + k := by omega
        clear HAG HAL
        go_wp2
        go_ret2
        exact ⟨rfl, _, rfl⟩
    · obtain rfl : k = R.length := by omega
      have h1 : AG = true := by
        rw [HAG.out]
        exact agB_true fun j hj1 hj2 => (HSO.out j (by omega)).2
      have h2 : AL = true := by
        rw [HAL.out, h1]
        simp
        by_cases h0 : R.length = 0
        · omega
        · have := (HSO.out (R.length - 1) (by omega)).1; omega
      subst h1 h2
      clear HAG HAL
      go_wp2
      go_ret2
      exact ⟨rfl, _, rfl⟩

/-- The bits of L from p on. -/
def bn (L : List Int) (p i : Nat) : Nat := (ln L (p + i)).toNat
theorem bn_le {L : List Int} (hb : Bin L) (p i : Nat) : bn L p i ≤ 1 := by have := hb (p + i); unfold bn ln; omega
theorem bn_int {L : List Int} (hb : Bin L) (p i : Nat) : (bn L p i : Int) = ln L (p + i) := by have := hb (p + i); unfold bn ln; omega

theorem agB_iff {L : List Int} (hb : Bin L) (p c n : Nat) (hp : p ≤ L.length) (hc : c < 2 ^ n) (j : Nat) (hj : j = min n (L.length - p)) : agB L p (rowL c n) = true ↔ vl (bn L p) j = c / 2 ^ (n - j) := by
  have h := vl_code (bn L p) c n hc j (by omega)
  have e : agB L p (rowL c n) = true ↔ ∀ k, k < j → bn L p k = bitC c n k := by
    unfold agB
    rw [decide_eq_true_iff, rowL_length]
    constructor
    · intro q k hk
      have := q k (by omega) (by omega)
      rw [rowL_at c n (by omega), ← bn_int hb] at this
      omega
    · intro q k h1 h2
      rw [rowL_at c n h1, ← bn_int hb, q k (by omega)]
  rw [e, h]
  exact ⟨fun q => q.1, fun q => ⟨q, fun k _ => bn_le hb p k⟩⟩
theorem alB_iff {L : List Int} (hb : Bin L) (p c n : Nat) (hp : p ≤ L.length) (hc : c < 2 ^ n) : alB L p (rowL c n) = true ↔ n ≤ L.length - p ∧ vl (bn L p) n = c := by
  unfold alB
  rw [Bool.and_eq_true, decide_eq_true_iff, rowL_length]
  constructor
  · rintro ⟨h1, h2⟩
    rw [agB_iff hb p c n hp hc n (by omega)] at h1
    exact ⟨by omega, by simpa using h1⟩
  · rintro ⟨h1, h2⟩
    refine ⟨?_, by omega⟩
    rw [agB_iff hb p c n hp hc n (by omega)]
    simpa using h2

/-- What the next bits are: a symbol's code, or none, and why. -/
def NextIs (ls : List Int) (b : Nat → Nat) (av N s n : Nat) (err : Int) : Prop :=
  (err = 0 ∧ n ≤ av ∧ s < ls.length ∧ 1 ≤ n ∧ ln ls s = (n : Int) ∧ cd ls s = vl b n) ∨ (s = 0 ∧ n = 0 ∧ (∀ m, m ≤ av → ¬ Hit ls b m) ∧ ((av < N ∧ err = 42) ∨ (N ≤ av ∧ err = 43)))

theorem NextIs.one {ls : List Int} {b : Nat → Nat} (hb : ∀ i, b i ≤ 1) {av N s n t m : Nat} {e f : Int} (h : NextIs ls b av N s n e) (k : NextIs ls b av N t m f) : s = t ∧ n = m ∧ e = f := by
  rcases h with ⟨h1, h2, h3, h4, h5, h6⟩ | ⟨h1, h2, h3, h4⟩ <;> rcases k with ⟨k1, k2, k3, k4, k5, k6⟩ | ⟨k1, k2, k3, k4⟩
  · have e1 : s = t := sym_one hb h3 k3 (by omega) (by omega) (by rw [h5, Int.toNat_natCast]; exact h6) (by rw [k5, Int.toNat_natCast]; exact k6)
    subst e1
    exact ⟨rfl, by omega, by omega⟩
  · exfalso
    have := sym_hit h3 (b := b) (by omega) (by rw [h5, Int.toNat_natCast]; exact h6)
    rw [h5, Int.toNat_natCast] at this
    exact k3 n h2 this
  · exfalso
    have := sym_hit k3 (b := b) (by omega) (by rw [k5, Int.toNat_natCast]; exact k6)
    rw [k5, Int.toNat_natCast] at this
    exact h3 m k2 this
  · omega

theorem some_iff {ls : List Int} (hg : Good ls) {N : Nat} (hN : Longest ls N) {L : List Int} (hb : Bin L) (p : Nat) (hp : p ≤ L.length) (hno : ∀ m, m ≤ L.length - p → ¬ Hit ls (bn L p) m) :
    (∃ t, t < ls.length ∧ ln ls t ≠ 0 ∧ agB L p (rowL (cd ls t) (ln ls t).toNat) = true) ↔ L.length - p < N := by
  constructor
  · rintro ⟨t, ht, h0, hag⟩
    have hf := ln_fit hg.fit t
    have hc := (cd_lt hg.le hg.fit ht (by omega)).2
    have hu := hN.up t ht
    by_cases hn : (ln ls t).toNat ≤ L.length - p
    · exfalso
      rw [agB_iff hb p _ _ hp hc _ rfl, Nat.min_eq_left hn, Nat.sub_self, Nat.pow_zero, Nat.div_one] at hag
      exact hno _ hn (sym_hit ht (by omega) hag.symm)
    · omega
  · intro hav
    rcases hg.way with hfull | hlone
    · obtain ⟨m, hm, hh⟩ := full_hit ls hfull (cutB (bn L p) (L.length - p)) (cutB_le (bn_le hb p) _) N hN.le (fun k h1 h2 => hN.zero k h1)
      have hgt : L.length - p < m := by
        rcases Nat.lt_or_ge (L.length - p) m with h' | h'
        · exact h'
        · exfalso
          refine hno m h' ?_
          unfold Hit at hh ⊢
          rw [cutB_vl _ _ _ h'] at hh
          exact hh
      obtain ⟨t, ht, hl, hcd⟩ := hit_sym hh
      have hc := (cd_lt hg.le hg.fit ht (by omega)).2
      refine ⟨t, ht, by omega, ?_⟩
      rw [hl, Int.toNat_natCast] at hc ⊢
      rw [agB_iff hb p _ _ hp hc (L.length - p) (by omega), hcd]
      have e : m = (L.length - p) + (m - (L.length - p)) := by omega
      conv => rhs; rw [e]
      rw [show L.length - p + (m - (L.length - p)) - (L.length - p) = m - (L.length - p) by omega, vl_half _ (cutB_le (bn_le hb p) _), cutB_vl _ _ _ (Nat.le_refl _)]
    · rcases hN.at_ with h0 | ⟨t, ht, hl⟩
      · omega
      · have h1 := hlone t ht
        have hc := (cd_lt hg.le hg.fit ht (by omega)).2
        have hN1 : N = 1 := by omega
        subst hN1
        refine ⟨t, ht, by omega, ?_⟩
        rw [hl] at hc ⊢
        rw [agB_iff hb p _ _ hp hc 0 (by simp; omega)]
        simp [vl]
        simp at hc
        omega
end Go.Proofs.YtibolmgijaploaaDoor
