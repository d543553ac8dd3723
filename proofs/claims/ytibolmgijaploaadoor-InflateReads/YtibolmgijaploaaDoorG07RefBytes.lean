/- Several texts, laid together: HRef2, RefBytes. -/
import Derived.Test.YtibolmgijaploaaDoorG06HRef1
import Derived.Test.YtibolmgijaploaaDoorG05HNumber
/- The reference's Same, Codes, Row and Match: contracts. -/
namespace Go.Proofs.YtibolmgijaploaaDoor
set_option maxRecDepth 100000
open Go Go.RowKit

/-- What the reference's Codes has in hand ahead of symbol k's turn at length n. -/
def CLast (ls : List Int) (n k : Nat) (C last : Int) : Prop :=
  (last = 0 ∧ C = -1 ∧ fc ls n + (ls.take k).count (n : Int) = 0) ∨ (1 ≤ last ∧ last ≤ n ∧ 0 ≤ C ∧ (C + 1) * 2 ^ ((n : Int) - last).toNat = ((fc ls n + (ls.take k).count (n : Int) : Nat) : Int))

theorem CLast.le {ls : List Int} {n k : Nat} {C last : Int} (h : CLast ls n k C last) (hw : ws ls 15 ≤ 32768) (hn : n ≤ 15) (h1 : 1 ≤ n) : -1 ≤ C ∧ C ≤ 32768 := by
  rcases h with ⟨_, h, _⟩ | ⟨h2, h3, h4, h5⟩
  · omega
  · have u := up_le ls hw n hn
    have p : 2 ^ n ≤ 2 ^ 15 := Nat.pow_le_pow_right (by decide) hn
    have c := take_count_le ls k (n : Int)
    have e := ct_eq ls n h1
    have q := pow_pos' ((n : Int) - last).toNat
    have m : (C + 1) * 1 ≤ (C + 1) * 2 ^ ((n : Int) - last).toNat := Int.mul_le_mul_of_nonneg_left q (by omega)
    omega
theorem CLast.next {ls : List Int} {n : Nat} {C last : Int} (h : CLast ls n ls.length C last) (h1 : 1 ≤ n) : CLast ls (n + 1) 0 C last := by
  have e := ct_eq ls n h1
  unfold CLast at h ⊢
  rw [List.take_length, ← e] at h
  simp only [List.take_zero, List.count_nil, Nat.add_zero, fc]
  rcases h with ⟨a, b, c⟩ | ⟨a, b, c, d⟩
  · exact .inl ⟨a, b, by omega⟩
  · refine .inr ⟨a, by omega, c, ?_⟩
    have q : (((n + 1 : Nat) : Int) - last).toNat = ((n : Int) - last).toNat + 1 := by omega
    rw [q, Int.pow_succ, ← Int.mul_assoc, d]
    push_cast; omega
theorem CLast.skip {ls : List Int} {n k : Nat} {C last : Int} (h : CLast ls n k C last) (hk : k < ls.length) (hl : ¬ ln ls k = (n : Int)) : CLast ls n (k + 1) C last := by
  unfold CLast at h ⊢
  rw [take_count_succ ls k _ hk, if_neg hl]; exact h
theorem CLast.take {ls : List Int} {n k : Nat} (hk : k < ls.length) (hl : ln ls k = (n : Int)) (h1 : 1 ≤ n) (X : Int) (hX : X = ((fc ls n + (ls.take k).count (n : Int) : Nat) : Int)) : CLast ls n (k + 1) X n := by
  unfold CLast
  rw [take_count_succ ls k _ hk, if_pos hl]
  refine .inr ⟨by omega, by omega, by omega, ?_⟩
  rw [hX]; simp; omega

set_option maxHeartbeats 1000000 in
set_option maxRecDepth 100000 in
theorem refCodes_c (B : Nat) (a : Option Addr) (cap : Nat) (ls : List Int) (w : World) (hn : ls.length ≤ 320) (hf : Fit ls) (hw : ws ls 15 ≤ 32768) (hi : Ints 0 B w a ls) :
    Calls Tryd.prog 42 #[.slice a ls.length cap] w fun e w' => e = .returned (.slice (some ⟨w.heap.size, 0, none⟩) ls.length ls.length) ∧ w' = w.alloc (.cells (valA (codesL ls)) 3) := by
  obtain ⟨i0, hi0, hz0, hz1', hz2'⟩ := info_parts Tryd.info3
  have hmk := made_ints ls.length i0 hi0 hz0 hz1' hz2' (by omega)
  rw [← cds_first ls] at hmk
  have HF : Hid (Fit ls) := hf
  clear hf
  go_enter Tryd.func42, Tryd.ntmps42
  go_wp2
  clear hmk
  go_loopw [4, 5, 6] (fun s4 s5 s6 wr => ∃ (n : Nat) (C last : Int), n ≤ 15 ∧ s6 = .int .i64 ((n : Int) + 1) ∧ s4 = .int .i64 C ∧ s5 = .int .i64 last ∧ CLast ls (n + 1) 0 C last ∧ wr = w.alloc (.cells (valA (cds ls (n + 1) 0)) 3)) (fun _ _ s6 _ => 16 - (intOf s6).toNat)
  case atStart => exact ⟨0, -1, 0, by omega, rfl, rfl, rfl, .inl ⟨rfl, rfl, by simp [fc, ct]⟩, rfl⟩
  case round =>
    obtain ⟨n, C0, last0, hn15, rfl, rfl, rfl, hC0, rfl⟩ := hrel
    by_cases hlt : n < 15
    · have hlt' : (n : Int) + 1 ≤ 15 := by omega
      have HC0 : Hid (CLast ls (n + 1) 0 C0 last0) := hC0
      clear hC0
      go_wp2
      go_loopw [4, 5, 7] (fun s4 s5 s7 wr => ∃ (k : Nat) (C last : Int), k ≤ ls.length ∧ s7 = .int .i64 k ∧ s4 = .int .i64 C ∧ s5 = .int .i64 last ∧ CLast ls (n + 1) k C last ∧ wr = w.alloc (.cells (valA (cds ls (n + 1) k)) 3)) (fun _ _ s7 _ => ls.length - (intOf s7).toNat)
      case atStart => exact ⟨0, C0, last0, by omega, rfl, rfl, rfl, HC0.out, rfl⟩
      case round =>
        obtain ⟨k, C, last, hk, rfl, rfl, rfl, hC, rfl⟩ := hrel
        clear HC0
        by_cases hlk : k < ls.length
        · obtain ⟨b, off, _, _, hb, rfl, hcell⟩ := hi.resolve_left (by omega)
          have hc := hcell k hlk
          have HI : Hid _ := hi
          have HC : Hid (CLast ls (n + 1) k C last) := hC
          have hCb := hC.le hw (by omega) (by omega)
          clear hcell hi
          by_cases hm : ln ls k = ((n + 1 : Nat) : Int)
          · obtain ⟨X, hX⟩ : ∃ X : Nat, X = fc ls (n + 1) + (ls.take k).count ((n + 1 : Nat) : Int) := ⟨_, rfl⟩
            have HX : Hid (X = fc ls (n + 1) + (ls.take k).count ((n + 1 : Nat) : Int)) := hX
            have hXb : X ≤ 32768 := by
              have u := up_le ls hw (n + 1) (by omega)
              have p : 2 ^ (n + 1) ≤ 2 ^ 15 := Nat.pow_le_pow_right (by decide) (by omega)
              have c := take_count_le ls k ((n + 1 : Nat) : Int)
              have e := ct_eq ls (n + 1) (by omega)
              omega
            have HS : Hid ((valA (cds ls (n + 1) k)).setIfInBounds k (.int .i64 (X : Int)) = valA (cds ls (n + 1) (k + 1))) := cds_set ls (n + 1) k hlk (by omega) hm X (by rw [hX])
            have hsz : (valA (cds ls (n + 1) k)).size = ls.length := by rw [valA_size, cds_length]
            have HT : Hid (CLast ls (n + 1) (k + 1) X ((n + 1 : Nat) : Int)) := CLast.take hlk hm (by omega) X (by rw [hX])
            rw [hm] at hc
            have hc' : w.cell? ⟨b, off + k, none⟩ = some (.int .i64 ((n : Int) + 1)) := by rw [hc]; simp
            clear hX hm hc
            rcases hC with ⟨rfl, rfl, h0⟩ | ⟨l1, l2, l3, l4⟩
            · have hX0 : X = 0 := by rw [HX.out]; exact h0
              subst hX0
              clear h0
              generalize valA (cds ls (n + 1) k) = VA at HS hsz ⊢
              go_wp2
              go_roundw
              case rel => exact ⟨k + 1, 0, ((n + 1 : Nat) : Int), by omega, by go_num, rfl, by go_num, HT.out, by rw [← HS.out]; rfl⟩
              case measure => simp [intOf]; omega
            · have l4' : (C + 1) * 2 ^ ((n : Int) + 1 - last).toNat = (X : Int) := by
                rw [← HX.out] at l4
                rw [← l4]; push_cast; rfl
              have l0 : ¬ last = 0 := by omega
              have l2' : last ≤ (n : Int) + 1 := by omega
              clear l4 l2
              generalize valA (cds ls (n + 1) k) = VA at HS hsz ⊢
              go_wp2
              go_roundw
              case rel => exact ⟨k + 1, (X : Int), ((n + 1 : Nat) : Int), by omega, by go_num, rfl, by go_num, HT.out, by rw [← HS.out]⟩
              case measure => simp [intOf]; omega
          · have HM : Hid (¬ ln ls k = ((n + 1 : Nat) : Int)) := hm
            have hm' : ¬ ln ls k = (n : Int) + 1 := by push_cast at hm; exact hm
            generalize ln ls k = Y at hc hm'
            clear hm hC
            go_wp2
            go_roundw
            case rel => exact ⟨k + 1, C, last, by omega, by go_num, rfl, rfl, HC.out.skip hlk HM.out, by rw [← cds_skip ls (n + 1) k HM.out]⟩
            case measure => simp [intOf]; omega
        · obtain rfl : k = ls.length := by omega
          have HC : Hid (CLast ls (n + 1) ls.length C last) := hC
          clear hC
          go_wp2
          go_roundw
          case rel => exact ⟨n + 1, C, last, by omega, by go_num, rfl, rfl, HC.out.next (by omega), by rw [← cds_next]⟩
          case measure => simp [intOf]; omega
    · obtain rfl : n = 15 := by omega
      go_wp2
      go_ret
      exact ⟨rfl, by rw [← cds_end ls HF.out]⟩

/-- A code's bits, the highest first; the first ones of them not yet laid, if fewer than n are. -/
def rowP (c n j : Nat) : List Int := (List.range n).map fun (k : Nat) => if n - j ≤ k then (bitC c n k : Int) else 0
def rowL (c n : Nat) : List Int := (List.range n).map fun (k : Nat) => (bitC c n k : Int)
theorem rowL_length (c n : Nat) : (rowL c n).length = n := by simp [rowL]
theorem rowL_at (c n : Nat) {k : Nat} (h : k < n) : ln (rowL c n) k = (bitC c n k : Int) := by simp [ln, rowL, List.getD, h]
theorem rowP_zero (c n : Nat) : rowP c n 0 = List.replicate n 0 := by
  have e : List.replicate n (0 : Int) = (List.range n).map fun _ => 0 := by rw [List.map_const', List.length_range]
  rw [e]
  unfold rowP
  apply List.map_congr_left
  intro s hs
  have : s < n := by simpa using hs
  rw [if_neg (by omega)]
theorem rowP_end (c n : Nat) : rowP c n n = rowL c n := by
  unfold rowP rowL
  apply List.map_congr_left
  intro s _
  rw [if_pos (by omega)]
theorem rowP_size (c n j : Nat) : (valA (rowP c n j)).size = n := by simp [valA, rowP]
theorem rowP_set (c n j : Nat) (hj : j < n) : (valA (rowP c n j)).setIfInBounds (n - 1 - j) (.int .i64 ((c / 2 ^ j % 2 : Nat) : Int)) = valA (rowP c n (j + 1)) := by
  apply Array.ext_getElem?
  intro s
  rw [Array.getElem?_setIfInBounds]
  by_cases hs : s < n
  · by_cases e : n - 1 - j = s
    · subst e
      have hb : bitC c n (n - 1 - j) = c / 2 ^ j % 2 := by unfold bitC; rw [show n - 1 - (n - 1 - j) = j by omega]
      simp [valA, rowP, hs, hb]
      intro h; omega
    · have : (n ≤ s + j) ↔ (n ≤ s + (j + 1)) := by omega
      simp [valA, rowP, hs, e, this]
  · have e : ¬ n - 1 - j = s := by omega
    simp [valA, rowP, hs, e]

set_option maxHeartbeats 1000000 in
theorem refRow_c (c n : Nat) (w : World) (hn : n ≤ 15) (hc : c ≤ 1000000) :
    Calls Tryd.prog 43 #[.int .i64 (c : Int), .int .i64 (n : Int)] w fun e w' => e = .returned (.slice (some ⟨w.heap.size, 0, none⟩) n n) ∧ w' = w.alloc (.cells (valA (rowL c n)) 3) := by
  obtain ⟨i0, hi0, hz0, hz1', hz2'⟩ := info_parts Tryd.info3
  have hmk := made_ints n i0 hi0 hz0 hz1' hz2' (by omega)
  rw [← rowP_zero c n] at hmk
  go_enter Tryd.func43, Tryd.ntmps43
  go_wp2
  clear hmk
  go_loopw [0, 6] (fun s0 s6 wr => ∃ j : Nat, j ≤ n ∧ s6 = .int .i64 ((n : Int) - 1 - j) ∧ s0 = .int .i64 ((c / 2 ^ j : Nat) : Int) ∧ wr = w.alloc (.cells (valA (rowP c n j)) 3)) (fun _ s6 _ => (intOf s6 + 1).toNat)
  case atStart => exact ⟨0, by omega, by simp, by simp, rfl⟩
  case round =>
    obtain ⟨j, hj, rfl, rfl, rfl⟩ := hrel
    have hy : c / 2 ^ j ≤ 1000000 := Nat.le_trans (Nat.div_le_self _ _) hc
    by_cases hlt : j < n
    · have HS : Hid ((valA (rowP c n j)).setIfInBounds (n - 1 - j) (.int .i64 ((c / 2 ^ j % 2 : Nat) : Int)) = valA (rowP c n (j + 1))) := rowP_set c n j hlt
      have HD : Hid (c / 2 ^ j / 2 = c / 2 ^ (j + 1)) := by show _ = _; rw [Nat.div_div_eq_div_mul, Nat.pow_succ]
      have hsz := rowP_size c n j
      generalize valA (rowP c n j) = VA at HS hsz ⊢
      generalize c / 2 ^ j = Y at HS HD hy ⊢
      obtain ⟨k, hk⟩ : ∃ k : Nat, k = n - 1 - j := ⟨_, rfl⟩
      have hki : (n : Int) - 1 - j = (k : Int) := by omega
      rw [← hk] at HS
      rw [hki]
      have hkn : k < n := by omega
      have HK : Hid ((n : Int) - 1 - j = (k : Int)) := hki
      clear hk hki
      go_wp2
      go_roundw
      case rel => exact ⟨j + 1, by omega, by have := HK.out; rw [← this]; go_num, by rw [← HD.out]; push_cast; rfl, by rw [← HS.out]; push_cast; rfl⟩
      case measure => simp [intOf]
    · obtain rfl : j = n := by omega
      go_wp2
      go_ret
      exact ⟨rfl, by rw [← rowP_end]⟩
end Go.Proofs.YtibolmgijaploaaDoor

/- The reference's Bytes: bits become bytes. -/
namespace Go.Proofs.YtibolmgijaploaaDoor
set_option maxRecDepth 100000
open Go.RowKit

/-- A slice value that owns the bytes D. -/
def OwnsB (w : World) (base : Nat) (v : Value) (D : List Int) : Prop := w.ownsRow base 5 1 v D.length (D.map (Value.int .u8))
theorem OwnsB.nil (w : World) (base : Nat) : OwnsB w base (.slice none 0 0) [] := World.ownsRow_nil _ _ _ _
theorem OwnsB.push {w : World} {base : Nat} {v : Value} {L : List Int} {x : Int} (h : w.ownsRow base 5 1 v (L.length + 1) (L.map (Value.int .u8) ++ [.int .u8 x])) : OwnsB w base v (L ++ [x]) := by
  unfold OwnsB
  simpa using h
theorem one_byte (w : World) (x : Value) : ∀ j u, [x][j]? = some u → (w.alloc (.cells #[x] 5)).cell? ((⟨w.heap.size, 0, none⟩ : Addr).add j) = some u := World.news_of_block (heap_new w (.cells #[x] 5))

/-- The numbers L lie in memory, where a slice leads. -/
def Nums (w : World) (a : Option Addr) (L : List Int) : Prop := L.length = 0 ∨ ∃ b off, b < w.heap.size ∧ a = some ⟨b, off, none⟩ ∧ ∀ i, i < L.length → w.cell? ⟨b, off + i, none⟩ = some (.int .i64 (L.getD i 0))

def Bin (L : List Int) : Prop := ∀ i, 0 ≤ L.getD i 0 ∧ L.getD i 0 ≤ 1

/-- The first j bits from place i on, as a number (0 where there are none). -/
def packB (L : List Int) (i : Nat) : Nat → Int
  | 0 => 0
  | j + 1 => packB L i j + 2 ^ j * L.getD (i + j) 0

def bytesL (L : List Int) (q : Nat) : List Int := (List.range q).map fun r => packB L (8 * r) 8

theorem packB_bd (L : List Int) (h : Bin L) (i j : Nat) : 0 ≤ packB L i j ∧ packB L i j < 2 ^ j := by
  induction j with
  | zero => simp [packB]
  | succ j ih =>
    have hb := h (i + j)
    have hp := pow_pos' j
    rw [packB, Int.pow_succ]
    have : L.getD (i + j) 0 = 0 ∨ L.getD (i + j) 0 = 1 := by omega
    rcases this with e | e <;> rw [e] <;> omega

theorem pack_step (P X l : Int) (h0 : 0 ≤ l) (h1 : l ≤ 1) (hp0 : 0 ≤ P) (hp1 : P ≤ 256) (hx0 : 0 ≤ X) (hx1 : X ≤ 256) : wrap64 (X + wrap64 (P * l)) = X + P * l := by
  have : l = 0 ∨ l = 1 := by omega
  rcases this with e | e
  · subst e
    rw [Int.mul_zero, IntWalk.wrap64_in 0 (by omega), IntWalk.wrap64_in _ (by omega)]
  · subst e
    rw [Int.mul_one, IntWalk.wrap64_in P (by omega), IntWalk.wrap64_in _ (by omega)]

theorem pow_le_8 {k : Nat} (h : k ≤ 8) : (2 : Int) ^ k ≤ 256 := by
  have : (2 : Nat) ^ k ≤ 2 ^ 8 := Nat.pow_le_pow_right (by decide) h
  have h2 : ((2 ^ k : Nat) : Int) ≤ ((2 ^ 8 : Nat) : Int) := by exact_mod_cast this
  simpa using h2

end Go.Proofs.YtibolmgijaploaaDoor
