/- Several texts, laid together: HRef2, HRef3, ReadBits, HNext. -/
import Derived.Test.YtlakgbckopjelaaGreatDoorG03HRef1
import Derived.Test.YtlakgbckopjelaaGreatDoorG02HMath
import Derived.Test.YtlakgbckopjelaaGreatDoorG00Read
/- The reference's Same, Codes, Row and Match: contracts. -/
namespace Go.Proofs.YtlakgbckopjelaaGreatDoor
set_option maxRecDepth 100000
open Go Go.RowKit

/-- What the reference's Codes has in hand ahead of symbol k's turn at length n. -/
def CLast (ls : List Int) (n k : Nat) (C last : Int) : Prop :=
  (last = 0 ∧ C = -1 ∧ fc ls n + (ls.take k).count (n : Int) = 0) ∨ (1 ≤ last ∧ last ≤ n ∧ 0 ≤ C ∧ (C + 1) * 2 ^ ((n : Int) - last).toNat = ((fc ls n + (ls.take k).count (n : Int) : Nat) : Int))

theorem CLast.le {ls : List Int} {n k : Nat} {C last : Int} (h : CLast ls n k C last) (hw : ws ls 15 ≤ 32768) (hn : n ≤ 15) (h1 : 1 ≤ n) : -1 ≤ C ∧ C ≤ 32768 := by
  rcases h with ⟨_, h, _⟩ | ⟨h2, h3, h4, h5⟩
  · omega
  · have u := up_le ls hw n hn
    have p : 2 ^ n ≤ 2 ^ 15 := Nat.pow_le_pow_right (by decide) hn
    have c := take_count_le ls k (n : Int)
    have e := ct_eq ls n h1
    have q := pow_pos' ((n : Int) - last).toNat
    have m : (C + 1) * 1 ≤ (C + 1) * 2 ^ ((n : Int) - last).toNat := Int.mul_le_mul_of_nonneg_left q (by omega)
    omega
theorem CLast.next {ls : List Int} {n : Nat} {C last : Int} (h : CLast ls n ls.length C last) (h1 : 1 ≤ n) : CLast ls (n + 1) 0 C last := by
  have e := ct_eq ls n h1
  unfold CLast at h ⊢
  rw [List.take_length, ← e] at h
  simp only [List.take_zero, List.count_nil, Nat.add_zero, fc]
  rcases h with ⟨a, b, c⟩ | ⟨a, b, c, d⟩
  · exact .inl ⟨a, b, by omega⟩
  · refine .inr ⟨a, by omega, c, ?_⟩
    have q : (((n + 1 : Nat) : Int) - last).toNat = ((n : Int) - last).toNat + 1 := by omega
    rw [q, Int.pow_succ, ← Int.mul_assoc, d]
    push_cast; omega
theorem CLast.skip {ls : List Int} {n k : Nat} {C last : Int} (h : CLast ls n k C last) (hk : k < ls.length) (hl : ¬ ln ls k = (n : Int)) : CLast ls n (k + 1) C last := by
  unfold CLast at h ⊢
  rw [take_count_succ ls k _ hk, if_neg hl]; exact h
theorem CLast.take {ls : List Int} {n k : Nat} (hk : k < ls.length) (hl : ln ls k = (n : Int)) (h1 : 1 ≤ n) (X : Int) (hX : X = ((fc ls n + (ls.take k).count (n : Int) : Nat) : Int)) : CLast ls n (k + 1) X n := by
  unfold CLast
  rw [take_count_succ ls k _ hk, if_pos hl]
  refine .inr ⟨by omega, by omega, by omega, ?_⟩
  rw [hX]; simp; omega

set_option maxHeartbeats 1000000 in
set_option maxRecDepth 100000 in
theorem refCodes_c (B : Nat) (a : Option Addr) (cap : Nat) (ls : List Int) (w : World) (hn : ls.length ≤ 320) (hf : Fit ls) (hw : ws ls 15 ≤ 32768) (hi : Ints 0 B w a ls) :
    Calls Tryz.prog 33 #[.slice a ls.length cap] w fun e w' => e = .returned (.slice (some ⟨w.heap.size, 0, none⟩) ls.length ls.length) ∧ w' = w.alloc (.cells (valA (codesL ls)) 3) := by
  obtain ⟨i0, hi0, hz0, hz1', hz2'⟩ := info_parts Tryz.info3
  have hmk := made_ints ls.length i0 hi0 hz0 hz1' hz2' (by omega)
  rw [← cds_first ls] at hmk
  have HF : Hid (Fit ls) := hf
  clear hf
  go_enter Tryz.func33, Tryz.ntmps33
  go_wp2
  clear hmk
  go_loopw [4, 5, 6] (fun s4 s5 s6 wr => ∃ (n : Nat) (C last : Int), n ≤ 15 ∧ s6 = .int .i64 ((n : Int) + 1) ∧ s4 = .int .i64 C ∧ s5 = .int .i64 last ∧ CLast ls (n + 1) 0 C last ∧ wr = w.alloc (.cells (valA (cds ls (n + 1) 0)) 3)) (fun _ _ s6 _ => 16 - (intOf s6).toNat)
  case atStart => exact ⟨0, -1, 0, by omega, rfl, rfl, rfl, .inl ⟨rfl, rfl, by simp [fc, ct]⟩, rfl⟩
  case round =>
    obtain ⟨n, C0, last0, hn15, rfl, rfl, rfl, hC0, rfl⟩ := hrel
    by_cases hlt : n < 15
    · have hlt' : (n : Int) + 1 ≤ 15 := by omega
      have HC0 : Hid (CLast ls (n + 1) 0 C0 last0) := hC0
      clear hC0
      go_wp2
      go_loopw [4, 5, 7] (fun s4 s5 s7 wr => ∃ (k : Nat) (C last : Int), k ≤ ls.length ∧ s7 = .int .i64 k ∧ s4 = .int .i64 C ∧ s5 = .int .i64 last ∧ CLast ls (n + 1) k C last ∧ wr = w.alloc (.cells (valA (cds ls (n + 1) k)) 3)) (fun _ _ s7 _ => ls.length - (intOf s7).toNat)
      case atStart => exact ⟨0, C0, last0, by omega, rfl, rfl, rfl, HC0.out, rfl⟩
      case round =>
        obtain ⟨k, C, last, hk, rfl, rfl, rfl, hC, rfl⟩ := hrel
        clear HC0
        by_cases hlk : k < ls.length
        · obtain ⟨b, off, _, _, hb, rfl, hcell⟩ := hi.resolve_left (by omega)
          have hc := hcell k hlk
          have HI : Hid _ := hi
          have HC : Hid (CLast ls (n + 1) k C last) := hC
          have hCb := hC.le hw (by omega) (by omega)
          clear hcell hi
          by_cases hm : ln ls k = ((n + 1 : Nat) : Int)
          · obtain ⟨X, hX⟩ : ∃ X : Nat, X = fc ls (n + 1) + (ls.take k).count ((n + 1 : Nat) : Int) := ⟨_, rfl⟩
            have HX : Hid (X = fc ls (n + 1) + (ls.take k).count ((n + 1 : Nat) : Int)) := hX
            have hXb : X ≤ 32768 := by
              have u := up_le ls hw (n + 1) (by omega)
              have p : 2 ^ (n + 1) ≤ 2 ^ 15 := Nat.pow_le_pow_right (by decide) (by omega)
              have c := take_count_le ls k ((n + 1 : Nat) : Int)
              have e := ct_eq ls (n + 1) (by omega)
              omega
            have HS : Hid ((valA (cds ls (n + 1) k)).setIfInBounds k (.int .i64 (X : Int)) = valA (cds ls (n + 1) (k + 1))) := cds_set ls (n + 1) k hlk (by omega) hm X (by rw [hX])
            have hsz : (valA (cds ls (n + 1) k)).size = ls.length := by rw [valA_size, cds_length]
            have HT : Hid (CLast ls (n + 1) (k + 1) X ((n + 1 : Nat) : Int)) := CLast.take hlk hm (by omega) X (by rw [hX])
            rw [hm] at hc
            have hc' : w.cell? ⟨b, off + k, none⟩ = some (.int .i64 ((n : Int) + 1)) := by rw [hc]; simp
            clear hX hm hc
            rcases hC with ⟨rfl, rfl, h0⟩ | ⟨l1, l2, l3, l4⟩
            · have hX0 : X = 0 := by rw [HX.out]; exact h0
              subst hX0
              clear h0
              generalize valA (cds ls (n + 1) k) = VA at HS hsz ⊢
              go_wp2
              go_roundw
              case rel => exact ⟨k + 1, 0, ((n + 1 : Nat) : Int), by omega, by go_num, rfl, by go_num, HT.out, by rw [← HS.out]; rfl⟩
              case measure => simp [intOf]; omega
            · have l4' : (C + 1) * 2 ^ ((n : Int) + 1 - last).toNat = (X : Int) := by
                rw [← HX.out] at l4
                rw [← l4]; push_cast; rfl
              have l0 : ¬ last = 0 := by omega
              have l2' : last ≤ (n : Int) + 1 := by omega
              clear l4 l2
              generalize valA (cds ls (n + 1) k) = VA at HS hsz ⊢
              go_wp2
              go_roundw
              case rel => exact ⟨k + 1, (X : Int), ((n + 1 : Nat) : Int), by omega, by go_num, rfl, by go_num, HT.out, by rw [← HS.out]⟩
              case measure => simp [intOf]; omega
          · have HM : Hid (¬ ln ls k = ((n + 1 : Nat) : Int)) := hm
            have hm' : ¬ ln ls k = (n : Int) + 1 := by push_cast at hm; exact hm
            generalize ln ls k = Y at hc hm'
            clear hm hC
            go_wp2
            go_roundw
            case rel => exact ⟨k + 1, C, last, by omega, by go_num, rfl, rfl, HC.out.skip hlk HM.out, by rw [← cds_skip ls (n + 1) k HM.out]⟩
            case measure => simp [intOf]; omega
        · obtain rfl : k = ls.length := by omega
          have HC : Hid (CLast ls (n + 1) ls.length C last) := hC
          clear hC
          go_wp2
          go_roundw
          case rel => exact ⟨n + 1, C, last, by omega, by go_num, rfl, rfl, HC.out.next (by omega), by rw [← cds_next]⟩
          case measure => simp [intOf]; omega
    · obtain rfl : n = 15 := by omega
      go_wp2
      go_ret
      exact ⟨rfl, by rw [← cds_end ls HF.out]⟩

/-- A code's bits, the highest first; the first ones of them not yet laid, if fewer than n are. -/
def rowP (c n j : Nat) : List Int := (List.range n).map fun (k : Nat) => if n - j ≤ k then (bitC c n k : Int) else 0
def rowL (c n : Nat) : List Int := (List.range n).map fun (k : Nat) => (bitC c n k : Int)
theorem rowL_length (c n : Nat) : (rowL c n).length = n := by simp [rowL]
theorem rowL_at (c n : Nat) {k : Nat} (h : k < n) : ln (rowL c n) k = (bitC c n k : Int) := by simp [ln, rowL, List.getD, h]
theorem rowP_zero (c n : Nat) : rowP c n 0 = List.replicate n 0 := by
  have e : List.replicate n (0 : Int) = (List.range n).map fun _ => 0 := by rw [List.map_const', List.length_range]
  rw [e]
  unfold rowP
  apply List.map_congr_left
  intro s hs
  have : s < n := by simpa using hs
  rw [if_neg (by omega)]
theorem rowP_end (c n : Nat) : rowP c n n = rowL c n := by
  unfold rowP rowL
  apply List.map_congr_left
  intro s _
  rw [if_pos (by omega)]
theorem rowP_size (c n j : Nat) : (valA (rowP c n j)).size = n := by simp [valA, rowP]
theorem rowP_set (c n j : Nat) (hj : j < n) : (valA (rowP c n j)).setIfInBounds (n - 1 - j) (.int .i64 ((c / 2 ^ j % 2 : Nat) : Int)) = valA (rowP c n (j + 1)) := by
  apply Array.ext_getElem?
  intro s
  rw [Array.getElem?_setIfInBounds]
  by_cases hs : s < n
  · by_cases e : n - 1 - j = s
    · subst e
      have hb : bitC c n (n - 1 - j) = c / 2 ^ j % 2 := by unfold bitC; rw [show n - 1 - (n - 1 - j) = j by omega]
      simp [valA, rowP, hs, hb]
      intro h; omega
    · have : (n ≤ s + j) ↔ (n ≤ s + (j + 1)) := by omega
      simp [valA, rowP, hs, e, this]
  · have e : ¬ n - 1 - j = s := by omega
    simp [valA, rowP, hs, e]

set_option maxHeartbeats 1000000 in
theorem refRow_c (c n : Nat) (w : World) (hn : n ≤ 15) (hc : c ≤ 1000000) :
    Calls Tryz.prog 34 #[.int .i64 (c : Int), .int .i64 (n : Int)] w fun e w' => e = .returned (.slice (some ⟨w.heap.size, 0, none⟩) n n) ∧ w' = w.alloc (.cells (valA (rowL c n)) 3) := by
  obtain ⟨i0, hi0, hz0, hz1', hz2'⟩ := info_parts Tryz.info3
  have hmk := made_ints n i0 hi0 hz0 hz1' hz2' (by omega)
  rw [← rowP_zero c n] at hmk
  go_enter Tryz.func34, Tryz.ntmps34
  go_wp2
  clear hmk
  go_loopw [0, 6] (fun s0 s6 wr => ∃ j : Nat, j ≤ n ∧ s6 = .int .i64 ((n : Int) - 1 - j) ∧ s0 = .int .i64 ((c / 2 ^ j : Nat) : Int) ∧ wr = w.alloc (.cells (valA (rowP c n j)) 3)) (fun _ s6 _ => (intOf s6 + 1).toNat)
  case atStart => exact ⟨0, by omega, by simp, by simp, rfl⟩
  case round =>
    obtain ⟨j, hj, rfl, rfl, rfl⟩ := hrel
    have hy : c / 2 ^ j ≤ 1000000 := Nat.le_trans (Nat.div_le_self _ _) hc
    by_cases hlt : j < n
    · have HS : Hid ((valA (rowP c n j)).setIfInBounds (n - 1 - j) (.int .i64 ((c / 2 ^ j % 2 : Nat) : Int)) = valA (rowP c n (j + 1))) := rowP_set c n j hlt
      have HD : Hid (c / 2 ^ j / 2 = c / 2 ^ (j + 1)) := by show _ = _; rw [Nat.div_div_eq_div_mul, Nat.pow_succ]
      have hsz := rowP_size c n j
      generalize valA (rowP c n j) = VA at HS hsz ⊢
      generalize c / 2 ^ j = Y at HS HD hy ⊢
      obtain ⟨k, hk⟩ : ∃ k : Nat, k = n - 1 - j := ⟨_, rfl⟩
      have hki : (n : Int) - 1 - j = (k : Int) := by omega
      rw [← hk] at HS
      rw [hki]
      have hkn : k < n := by omega
      have HK : Hid ((n : Int) - 1 - j = (k : Int)) := hki
      clear hk hki
      go_wp2
      go_roundw
      case rel => exact ⟨j + 1, by omega, by have := HK.out; rw [← this]; go_num, by rw [← HD.out]; push_cast; rfl, by rw [← HS.out]; push_cast; rfl⟩
      case measure => simp [intOf]
    · obtain rfl : j = n := by omega
      go_wp2
      go_ret
      exact ⟨rfl, by rw [← rowP_end]⟩
end Go.Proofs.YtlakgbckopjelaaGreatDoor

/- The reference's Match: contract. -/
namespace Go.Proofs.YtlakgbckopjelaaGreatDoor
set_option maxRecDepth 100000
open Go Go.RowKit

/-- Do the bits of L from p on agree with R, as far as they go? And are they all there? -/
def agB (L : List Int) (p : Nat) (R : List Int) : Bool := decide (∀ k, k < R.length → p + k < L.length → ln L (p + k) = ln R k)
def alB (L : List Int) (p : Nat) (R : List Int) : Bool := agB L p R && decide (p + R.length ≤ L.length)
theorem agB_true {L : List Int} {p : Nat} {R : List Int} (h : ∀ k, k < R.length → p + k < L.length → ln L (p + k) = ln R k) : agB L p R = true := decide_eq_true h
theorem agB_false {L : List Int} {p : Nat} {R : List Int} (k : Nat) (h1 : k < R.length) (h2 : p + k < L.length) (h3 : ¬ ln L (p + k) = ln R k) : agB L p R = false := decide_eq_false fun h => h3 (h k h1 h2)

set_option maxHeartbeats 1000000 in
theorem match_c (lo hi lo' hi' : Nat) (a a' : Option Addr) (cap cap' : Nat) (L R : List Int) (p : Nat) (w : World) (hL : L.length ≤ 1000000) (hR : R.length ≤ 1000000) (hp : p ≤ L.length) (h : Ints lo hi w a L) (h' : Ints lo' hi' w a' R) :
    Calls Tryz.prog 101 #[.slice a L.length cap, .int .i64 (p : Int), .slice a' R.length cap'] w fun e w' => e = .returned (.tuple #[.bool (agB L p R), .bool (alB L p R)]) ∧ ∃ n, w' = w.drewN n := by
  have HI : Hid (Ints lo hi w a L) := h
  have HI' : Hid (Ints lo' hi' w a' R) := h'
  obtain ⟨AG, hAG⟩ : ∃ b, b = agB L p R := ⟨_, rfl⟩
  obtain ⟨AL, hAL⟩ : ∃ b, b = alB L p R := ⟨_, rfl⟩
  rw [← hAG, ← hAL]
  have HAG : Hid (AG = agB L p R) := hAG
  have HAL : Hid (AL = (AG && decide (p + R.length ≤ L.length))) := by rw [hAG, hAL]; rfl
  clear h h' hAG hAL
  go_enter Tryz.func101, Tryz.ntmps101
  go_wp2
  go_loopw [8] (fun i wr => ∃ k : Nat, k ≤ R.length ∧ i = .int .i64 k ∧ (∀ j, j < k → p + j < L.length ∧ ln L (p + j) = ln R j) ∧ ∃ n, wr = w.drewN n) (fun i _ => R.length - (intOf i).toNat)
  case atStart => exact ⟨0, by omega, rfl, fun j hj => absurd hj (by omega), 0, rfl⟩
  case round =>
    obtain ⟨k, hk, rfl, hso, n, rfl⟩ := hrel
    have HSO : Hid (∀ j, j < k → p + j < L.length ∧ ln L (p + j) = ln R j) := hso
    clear hso
    by_cases hlt : k < R.length
    · by_cases hin : p + k < L.length
      · obtain ⟨b, off, _, _, hb, rfl, hcell⟩ := HI.out.resolve_left (by omega)
        obtain ⟨b', off', _, _, hb', rfl, hcell'⟩ := HI'.out.resolve_left (by omega)
        have hc := hcell (p + k) hin
        have hc' := hcell' k hlt
        clear hcell hcell' HI HI'
        by_cases hm : ln L (p + k) = ln R k
        · have HN : Hid (∀ j, j < k + 1 → p + j < L.length ∧ ln L (p + j) = ln R j) := fun j hj => by
            by_cases e : j = k
            · subst e; exact ⟨hin, hm⟩
            · exact HSO.out j (by omega)
          rw [hm] at hc
          clear hm
          generalize ln R k = X at hc hc'
          go_wp2
          go_quiet (fail)
          go_wp2
          go_roundw
          case rel => exact ⟨k + 1, by omega, by go_num, HN.out, _, rfl⟩
          case measure => simp [intOf]; omega
        · have h1 : AG = false := by rw [HAG.out]; exact agB_false k hlt hin hm
          have h2 : AL = false := by rw [HAL.out, h1]; rfl
          subst h1 h2
          generalize ln R k = X at hc' hm
          generalize ln L (p + k) = Y at hc hm
          clear HAG HAL
          go_wp2
          go_quiet (fail)
          go_wp2
          go_ret2
          exact ⟨rfl, _, World.drewN_drewN _ _ _⟩
      · have h1 : AG = true := by
          rw [HAG.out]
          refine agB_true fun j hj1 hj2 => ?_
          exact (HSO.out j (by omega)).2
        have h2 : AL = false := by rw [HAL.out, h1]; simp; omega
        subst h1 h2
        have hin' : (L.length : Int) ≤ (p : Int) + k := by omega
        clear HAG HAL
        go_wp2
        go_ret2
        exact ⟨rfl, _, rfl⟩
    · obtain rfl : k = R.length := by omega
      have h1 : AG = true := by
        rw [HAG.out]
        exact agB_true fun j hj1 hj2 => (HSO.out j (by omega)).2
      have h2 : AL = true := by
        rw [HAL.out, h1]
        simp
        by_cases h0 : R.length = 0
        · omega
        · have := (HSO.out (R.length - 1) (by omega)).1; omega
      subst h1 h2
      clear HAG HAL
      go_wp2
      go_ret2
      exact ⟨rfl, _, rfl⟩

/-- The bits of L from p on. -/
def bn (L : List Int) (p i : Nat) : Nat := (ln L (p + i)).toNat
theorem bn_le {L : List Int} (hb : Bin L) (p i : Nat) : bn L p i ≤ 1 := by have := hb (p + i); unfold bn ln; omega
theorem bn_int {L : List Int} (hb : Bin L) (p i : Nat) : (bn L p i : Int) = ln L (p + i) := by have := hb (p + i); unfold bn ln; omega

theorem agB_iff {L : List Int} (hb : Bin L) (p c n : Nat) (hp : p ≤ L.length) (hc : c < 2 ^ n) (j : Nat) (hj : j = min n (L.length - p)) : agB L p (rowL c n) = true ↔ vl (bn L p) j = c / 2 ^ (n - j) := by
  have h := vl_code (bn L p) c n hc j (by omega)
  have e : agB L p (rowL c n) = true ↔ ∀ k, k < j → bn L p k = bitC c n k := by
    unfold agB
    rw [decide_eq_true_iff, rowL_length]
    constructor
    · intro q k hk
      have := q k (by omega) (by omega)
      rw [rowL_at c n (by omega), ← bn_int hb] at this
      omega
    · intro q k h1 h2
      rw [rowL_at c n h1, ← bn_int hb, q k (by omega)]
  rw [e, h]
  exact ⟨fun q => q.1, fun q => ⟨q, fun k _ => bn_le hb p k⟩⟩
theorem alB_iff {L : List Int} (hb : Bin L) (p c n : Nat) (hp : p ≤ L.length) (hc : c < 2 ^ n) : alB L p (rowL c n) = true ↔ n ≤ L.length - p ∧ vl (bn L p) n = c := by
  unfold alB
  rw [Bool.and_eq_true, decide_eq_true_iff, rowL_length]
  constructor
  · rintro ⟨h1, h2⟩
    rw [agB_iff hb p c n hp hc n (by omega)] at h1
    exact ⟨by omega, by simpa using h1⟩
  · rintro ⟨h1, h2⟩
    refine ⟨?_, by omega⟩
    rw [agB_iff hb p c n hp hc n (by omega)]
    simpa using h2

/-- What the next bits are: a symbol's code, or none, and why. -/
def NextIs (ls : List Int) (b : Nat → Nat) (av N s n : Nat) (err : Int) : Prop :=
  (err = 0 ∧ n ≤ av ∧ s < ls.length ∧ 1 ≤ n ∧ ln ls s = (n : Int) ∧ cd ls s = vl b n) ∨ (s = 0 ∧ n = 0 ∧ (∀ m, m ≤ av → ¬ Hit ls b m) ∧ ((av < N ∧ err = 42) ∨ (N ≤ av ∧ err = 43)))

theorem NextIs.one {ls : List Int} {b : Nat → Nat} (hb : ∀ i, b i ≤ 1) {av N s n t m : Nat} {e f : Int} (h : NextIs ls b av N s n e) (k : NextIs ls b av N t m f) : s = t ∧ n = m ∧ e = f := by
  rcases h with ⟨h1, h2, h3, h4, h5, h6⟩ | ⟨h1, h2, h3, h4⟩ <;> rcases k with ⟨k1, k2, k3, k4, k5, k6⟩ | ⟨k1, k2, k3, k4⟩
  · have e1 : s = t := sym_one hb h3 k3 (by omega) (by omega) (by rw [h5, Int.toNat_natCast]; exact h6) (by rw [k5, Int.toNat_natCast]; exact k6)
    subst e1
    exact ⟨rfl, by omega, by omega⟩
  · exfalso
    have := sym_hit h3 (b := b) (by omega) (by rw [h5, Int.toNat_natCast]; exact h6)
    rw [h5, Int.toNat_natCast] at this
    exact k3 n h2 this
  · exfalso
    have := sym_hit k3 (b := b) (by omega) (by rw [k5, Int.toNat_natCast]; exact k6)
    rw [k5, Int.toNat_natCast] at this
    exact h3 m k2 this
  · omega

theorem some_iff {ls : List Int} (hg : Good ls) {N : Nat} (hN : Longest ls N) {L : List Int} (hb : Bin L) (p : Nat) (hp : p ≤ L.length) (hno : ∀ m, m ≤ L.length - p → ¬ Hit ls (bn L p) m) :
    (∃ t, t < ls.length ∧ ln ls t ≠ 0 ∧ agB L p (rowL (cd ls t) (ln ls t).toNat) = true) ↔ L.length - p < N := by
  constructor
  · rintro ⟨t, ht, h0, hag⟩
    have hf := ln_fit hg.fit t
    have hc := (cd_lt hg.le hg.fit ht (by omega)).2
    have hu := hN.up t ht
    by_cases hn : (ln ls t).toNat ≤ L.length - p
    · exfalso
      rw [agB_iff hb p _ _ hp hc _ rfl, Nat.min_eq_left hn, Nat.sub_self, Nat.pow_zero, Nat.div_one] at hag
      exact hno _ hn (sym_hit ht (by omega) hag.symm)
    · omega
  · intro hav
    rcases hg.way with hfull | hlone
    · obtain ⟨m, hm, hh⟩ := full_hit ls hfull (cutB (bn L p) (L.length - p)) (cutB_le (bn_le hb p) _) N hN.le (fun k h1 h2 => hN.zero k h1)
      have hgt : L.length - p < m := by
        rcases Nat.lt_or_ge (L.length - p) m with h' | h'
        · exact h'
        · exfalso
          refine hno m h' ?_
          unfold Hit at hh ⊢
          rw [cutB_vl _ _ _ h'] at hh
          exact hh
      obtain ⟨t, ht, hl, hcd⟩ := hit_sym hh
      have hc := (cd_lt hg.le hg.fit ht (by omega)).2
      refine ⟨t, ht, by omega, ?_⟩
      rw [hl, Int.toNat_natCast] at hc ⊢
      rw [agB_iff hb p _ _ hp hc (L.length - p) (by omega), hcd]
      have e : m = (L.length - p) + (m - (L.length - p)) := by omega
      conv => rhs; rw [e]
      rw [show L.length - p + (m - (L.length - p)) - (L.length - p) = m - (L.length - p) by omega, vl_half _ (cutB_le (bn_le hb p) _), cutB_vl _ _ _ (Nat.le_refl _)]
    · rcases hN.at_ with h0 | ⟨t, ht, hl⟩
      · omega
      · have h1 := hlone t ht
        have hc := (cd_lt hg.le hg.fit ht (by omega)).2
        have hN1 : N = 1 := by omega
        subst hN1
        refine ⟨t, ht, by omega, ?_⟩
        rw [hl] at hc ⊢
        rw [agB_iff hb p _ _ hp hc 0 (by simp; omega)]
        simp [vl]
        simp at hc
        omega
end Go.Proofs.YtlakgbckopjelaaGreatDoor

/- The reader's Bits: where so many bits are left, it tells them as a number and stands behind them. -/
namespace Go.Proofs.YtlakgbckopjelaaGreatDoor
set_option maxRecDepth 100000
open Go.RowKit

end Go.Proofs.YtlakgbckopjelaaGreatDoor

/- huff's Next: contract. -/
namespace Go.Proofs.YtlakgbckopjelaaGreatDoor
set_option maxRecDepth 100000
open Go Go.RowKit

/-- The bits of bytes from p on. -/
def bz (zs : List Int) (p i : Nat) : Nat := (bitAt zs (p + i)).toNat
end Go.Proofs.YtlakgbckopjelaaGreatDoor
