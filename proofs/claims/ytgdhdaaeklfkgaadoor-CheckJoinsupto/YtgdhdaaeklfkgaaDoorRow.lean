/- PROVED: what rowOfByte, apply and square of a row of 32 numbers answer: a row tells what so many steps make of each bit; apply does them; square makes twice as many. -/
import Derived.Test.YtgdhdaaeklfkgaaDoorLen
import Derived.Deep.DeepCutAuto
import Derived.Deep.RegionWith
import Derived.Deep.DeepFit
namespace Go.Proofs.YtgdhdaaeklfkgaaDoor
open Go Go.RowKit

/-- The first k places of a row. -/
def rwA (f : Nat → Nat) (k : Nat) : Array Value := ((List.range 32).map fun i => Value.int .u32 ((if i < k then f i else 0 : Nat) : Int)).toArray
theorem rwA_size (f : Nat → Nat) (k : Nat) : (rwA f k).size = 32 := by simp [rwA]
theorem rwA_zero (f : Nat → Nat) : rwA f 0 = Array.replicate 32 (.int .u32 0) := by
  apply Array.ext_getElem?
  intro i
  simp only [rwA, List.getElem?_toArray, List.getElem?_map, Array.getElem?_replicate]
  by_cases h : i < 32
  · simp [h]
  · simp [h]
theorem rwA_at {f : Nat → Nat} {k i : Nat} (h : i < 32) (hk : i < k) : (rwA f k)[i]? = some (.int .u32 (f i : Nat)) := by
  simp [rwA, h, hk]
theorem rwA_not {f : Nat → Nat} {k : Nat} (h : k < 32) : (rwA f k)[k]? = some (.int .u32 0) := by
  simp [rwA, h]
theorem rwA_set {f : Nat → Nat} {k : Nat} (h : k < 32) : (rwA f k).setIfInBounds k (.int .u32 (f k : Nat)) = rwA f (k + 1) := by
  apply Array.ext_getElem?
  intro i
  rw [Array.getElem?_setIfInBounds]
  by_cases hi : k = i
  · subst hi
    simp [rwA, h]
  · by_cases h2 : i < 32
    · have : (i < k) ↔ (i < k + 1) := by omega
      simp [rwA, hi, h2, this]
    · simp [rwA, hi, h2]
theorem rwA_one (f : Nat → Nat) (k : Nat) : (rwA f k).all (·.oneCell') = true := by
  simp [rwA, Value.oneCell']
theorem zeroR0 : (∀ w, (zeroValue 37).run Tryd.prog w = .ok (.agg (Array.replicate 32 (.int .u32 0))) w) ∧ (Tryd.prog.info? 37).map (·.size) = some 32 :=
  zero_of_info (by kernel_rfl)
theorem zeroR (f : Nat → Nat) : ∀ w, (zeroValue 37).run Tryd.prog w = .ok (.agg (rwA f 0)) w := by
  rw [rwA_zero]; exact zeroR0.1
theorem infoR (f : Nat → Nat) (k : Nat) : (Tryd.prog.info? 37).map (·.size) = some (rwA f k).size := by rw [rwA_size]; exact zeroR0.2

/-- What m steps make of each bit. -/
def rf (m i : Nat) : Nat := stN m (2 ^ i)
theorem pow_lt32 {i : Nat} (h : i < 32) : 2 ^ i < 4294967296 := by
  have : 2 ^ i ≤ 2 ^ 31 := Nat.pow_le_pow_right (by omega) (by omega)
  omega
theorem rf_lt (m : Nat) {i : Nat} (h : i < 32) : rf m i < 4294967296 := stN_lt m (pow_lt32 h)
theorem rf_twice (m i : Nat) : stN m (rf m i) = rf (m + m) i := (stN_add m m _).symm
def RowIn (w : World) (b m : Nat) : Prop := ∀ i, i < 32 → w.cell? ⟨b, i, none⟩ = some (.int .u32 (rf m i : Nat))
theorem rowIn_of {w : World} {b m : Nat} {t : TypeId} {fr : Nat × Nat} (h : w.heap[b]? = some (.cells (rwA (rf m) 32) t fr)) : RowIn w b m := fun i hi => by
  rw [cells_of h, rwA_at hi hi]

/-- The lowest bit that is 1 is struck. -/
theorem low_split (x : Nat) (h0 : x ≠ 0) (hx : x < 4294967296) : ∃ y, x &&& (x - 1) = y ∧ y < x ∧ x = 2 ^ Lib.ctz 32 x ^^^ y := by
  obtain ⟨m, hm, hk⟩ := Lib.ctzFrom_spec 32 x (by omega) hx
  have hc : Lib.ctz 32 x = Lib.ctzFrom 32 x := by unfold Lib.ctz; rw [if_neg h0]
  rw [hc]
  generalize Lib.ctzFrom 32 x = k at hm hk
  have hp := Nat.two_pow_pos k
  have e0 : x = 2 ^ (k + 1) * m + 2 ^ k := by rw [hm, Nat.pow_succ, Nat.mul_add, Nat.mul_one, Nat.mul_assoc]
  have e1 : x - 1 = 2 ^ (k + 1) * m + (2 ^ k - 1) := by omega
  have hlt : 2 ^ k < 2 ^ (k + 1) := by rw [Nat.pow_succ]; omega
  refine ⟨2 ^ (k + 1) * m + 0, ?_, by omega, ?_⟩
  · rw [e1]
    conv => lhs; lhs; rw [e0]
    apply Nat.eq_of_testBit_eq
    intro j
    rw [Nat.testBit_and, Nat.testBit_two_pow_mul_add _ hlt, Nat.testBit_two_pow_mul_add _ (show 2 ^ k - 1 < 2 ^ (k + 1) by omega), Nat.testBit_two_pow_mul_add _ (Nat.two_pow_pos (k + 1))]
    by_cases hj : j < k + 1
    · rw [if_pos hj, if_pos hj, if_pos hj, Nat.testBit_two_pow, Nat.testBit_two_pow_sub_one, Nat.zero_testBit]
      by_cases hkj : k = j
      · subst hkj; simp
      · simp [hkj]
    · rw [if_neg hj, if_neg hj, if_neg hj, Bool.and_self]
  · conv => lhs; rw [e0]
    apply Nat.eq_of_testBit_eq
    intro j
    rw [Nat.testBit_xor, Nat.testBit_two_pow_mul_add _ hlt, Nat.testBit_two_pow_mul_add _ (Nat.two_pow_pos (k + 1))]
    by_cases hj : j < k + 1
    · rw [if_pos hj, if_pos hj, Nat.zero_testBit]; simp
    · rw [if_neg hj, if_neg hj, Nat.testBit_two_pow]
      have : ¬ k = j := by omega
      simp [this]

set_option maxHeartbeats 1000000 in
theorem apply_c (b m c : Nat) (hc : c < 4294967296) (w : World) (hr : RowIn w b m) (hT : DeB w) :
    Calls Tryd.prog 14 #[.pointer (some ⟨b, 0, none⟩), .int .u32 (c : Int)] w fun e w' => e = .returned (.int .u32 (stN m c : Nat)) ∧ ∃ q, w' = w.drewN q := by
  have HR : Hid (RowIn w b m) := hr
  have HT : Hid (DeB w) := hT
  clear hr hT
  go_enter Tryd.func14, Tryd.ntmps14
  go_wp2_with fail
  go_loopg [1, 5] c (fun g s1 s5 wx => ∃ s q : Nat, s1 = .int .u32 (g : Int) ∧ s5 = .int .u32 (s : Int) ∧ s < 4294967296 ∧ g < 4294967296 ∧ s ^^^ stN m g = stN m c ∧ wx = w.drewN q)
  case atStart => exact ⟨0, 0, rfl, rfl, by omega, hc, by simp, rfl⟩
  case round =>
    obtain ⟨s, q, rfl, rfl, hs, hg, hinv, rfl⟩ := hrel
    have HV : Hid (s ^^^ stN m gk = stN m c) := hinv
    clear hinv
    by_cases h0 : gk = 0
    · subst h0
      go_wp2
      go_ret
      refine ⟨ret_int ?_, q, rfl⟩
      have := HV.out
      rw [stN_zero, Nat.xor_zero] at this
      rw [this]
    · obtain ⟨y, hand, hy, hsplit⟩ := low_split gk h0 hg
      have hk := (Lib.lowest_bit 32 gk h0 hg).2
      have hne : ((gk : Int) == 0) = false := by simp; omega
      have hne' : ¬ ((gk : Int) = 0) := by omega
      have htz := fun w hw => tz_c gk hg h0 w hw
      generalize Lib.ctz 32 gk = k at hsplit hk htz
      have hk' : (k : Int) < 32 := by omega
      have c1 := HR.out k hk
      have hR := rf_lt m hk
      have hfold : stN m gk = rf m k ^^^ stN m y := by rw [hsplit, stN_xor]; rfl
      generalize rf m k = R at c1 hR hfold
      have hx := xor32 s R hs hR
      have hxl := xor_lt hs hR
      have hst : (s ^^^ R) ^^^ stN m y = stN m c := by rw [Nat.xor_assoc, ← hfold]; exact HV.out
      generalize s ^^^ R = S at hx hxl hst
      have ha : bits .and .u32 (gk : Int) ((gk : Int) - 1) = (y : Int) := by
        have := and32 gk (gk - 1) hg (by omega)
        rw [hand] at this
        rw [← this, Int.natCast_sub (by omega)]
        rfl
      have HST : Hid (S ^^^ stN m y = stN m c) := hst
      clear hand hsplit hfold hst
      have TZ : Hid (∀ w, DeB w → Calls Tryd.prog 20 #[.int .u32 (gk : Int)] w fun e w' => e = .returned (.int .i64 (k : Int)) ∧ w' = w) := htz
      clear htz
      go_wp2_with fail
      go_region_held3 (fun w' => w'.cell? ⟨b, k, none⟩ = some (.int .u32 (R : Int))) (first | go_keep | assumption) ((first | (go_at_call 20; refine (TZ.out _ (by exact HT.out)).mono ?_; rintro e w' ⟨rfl, rfl⟩)))
      go_wp2
      go_roundg y
      case measure => omega
      case rel => exact ⟨S, q + 1, rfl, rfl, hxl, by omega, HST.out, rfl⟩
end Go.Proofs.YtgdhdaaeklfkgaaDoor
