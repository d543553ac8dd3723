/- The reference's Bytes: bits become bytes. -/
import Derived.Test.YtoeebdjmedkldaaRefRow
namespace Go.Proofs.Ytoeebdjmedkldaa
open Go.RowKit

/-- A slice value that owns the bytes D. -/
def OwnsB (w : World) (base : Nat) (v : Value) (D : List Int) : Prop := w.ownsRow base 5 1 v D.length (D.map (Value.int .u8))
theorem OwnsB.nil (w : World) (base : Nat) : OwnsB w base (.slice none 0 0) [] := World.ownsRow_nil _ _ _ _
theorem OwnsB.push {w : World} {base : Nat} {v : Value} {L : List Int} {x : Int} (h : w.ownsRow base 5 1 v (L.length + 1) (L.map (Value.int .u8) ++ [.int .u8 x])) : OwnsB w base v (L ++ [x]) := by
  unfold OwnsB
  simpa using h
theorem one_byte (w : World) (x : Value) : ∀ j u, [x][j]? = some u → (w.alloc (.cells #[x] 5)).cell? ((⟨w.heap.size, 0, none⟩ : Addr).add j) = some u := World.news_of_block (heap_new w (.cells #[x] 5))

/-- The numbers L lie in memory, where a slice leads. -/
def Nums (w : World) (a : Option Addr) (L : List Int) : Prop := L.length = 0 ∨ ∃ b off, b < w.heap.size ∧ a = some ⟨b, off, none⟩ ∧ ∀ i, i < L.length → w.cell? ⟨b, off + i, none⟩ = some (.int .i64 (L.getD i 0))

def Bin (L : List Int) : Prop := ∀ i, 0 ≤ L.getD i 0 ∧ L.getD i 0 ≤ 1

/-- The first j bits from place i on, as a number (0 where there are none). -/
def packB (L : List Int) (i : Nat) : Nat → Int
  | 0 => 0
  | j + 1 => packB L i j + 2 ^ j * L.getD (i + j) 0

def bytesL (L : List Int) (q : Nat) : List Int := (List.range q).map fun r => packB L (8 * r) 8

theorem packB_bd (L : List Int) (h : Bin L) (i j : Nat) : 0 ≤ packB L i j ∧ packB L i j < 2 ^ j := by
  induction j with
  | zero => simp [packB]
  | succ j ih =>
    have hb := h (i + j)
    have hp := pow_pos' j
    rw [packB, Int.pow_succ]
    have : L.getD (i + j) 0 = 0 ∨ L.getD (i + j) 0 = 1 := by omega
    rcases this with e | e <;> rw [e] <;> omega

theorem pack_step (P X l : Int) (h0 : 0 ≤ l) (h1 : l ≤ 1) (hp0 : 0 ≤ P) (hp1 : P ≤ 256) (hx0 : 0 ≤ X) (hx1 : X ≤ 256) : wrap64 (X + wrap64 (P * l)) = X + P * l := by
  have : l = 0 ∨ l = 1 := by omega
  rcases this with e | e
  · subst e
    rw [Int.mul_zero, IntWalk.wrap64_in 0 (by omega), IntWalk.wrap64_in _ (by omega)]
  · subst e
    rw [Int.mul_one, IntWalk.wrap64_in P (by omega), IntWalk.wrap64_in _ (by omega)]

theorem pow_le_8 {k : Nat} (h : k ≤ 8) : (2 : Int) ^ k ≤ 256 := by
  have : (2 : Nat) ^ k ≤ 2 ^ 8 := Nat.pow_le_pow_right (by decide) h
  have h2 : ((2 ^ k : Nat) : Int) ≤ ((2 ^ 8 : Nat) : Int) := by exact_mod_cast this
  simpa using h2

set_option maxHeartbeats 1000000 in
theorem bytes_any (a : Option Addr) (cap : Nat) (L : List Int) (w : World) (hn : Nums w a L) (hb : Bin L) (hl : L.length ≤ 1000000000000) :
    Calls Try.prog 24 #[.slice a L.length cap] w fun e w' => ∃ v, e = .returned v ∧ OwnsB w' w.heap.size v (bytesL L ((L.length + 7) / 8)) ∧ Below w.heap.size w w' := by
  obtain ⟨i0, hi, hz0, hz1, hz2⟩ := info_parts Try.info5
  go_enter Try.func24, Try.ntmps24
  go_wp2
  go_loopw [3, 4] (fun v i wr => ∃ q : Nat, q ≤ (L.length + 7) / 8 ∧ i = .int .i64 ((8 * q : Nat) : Int) ∧ OwnsB wr w.heap.size v (bytesL L q) ∧ Below w.heap.size w wr) (fun _ i _ => (L.length + 7) / 8 - (intOf i).toNat / 8)
  case atStart => exact ⟨0, Nat.zero_le _, rfl, OwnsB.nil _ _, Below.refl _ _⟩
  case round =>
    obtain ⟨q, hq, rfl, hown, hbel⟩ := hrel
    have HO : Hid (OwnsB wr w.heap.size u3 (bytesL L q)) := hown
    have HB : Hid (Below w.heap.size w wr) := hbel
    have hsz := hbel.size
    clear hown
    by_cases hlt : 8 * q < L.length
    · obtain ⟨b, off, hbB, rfl, hcell⟩ := hn.resolve_left (by omega)
      have HC : Hid (∀ i, i < L.length → wr.cell? ⟨b, off + i, none⟩ = some (.int .i64 (L.getD i 0))) := fun i hi => (hbel.cell (by exact hbB)).trans (hcell i hi)
      have HN : Hid (Bin L) := hb
      clear hn hcell hbel hb
      go_wp2
      go_loop [5, 6, 7] (fun x p k => ∃ j : Nat, j ≤ 8 ∧ k = .int .i64 ((8 * q + j : Nat) : Int) ∧ p = .int .i64 (2 ^ j) ∧ x = .int .i64 (packB L (8 * q) j)) (fun _ _ k => 8 * q + 8 - (intOf k).toNat)
      case atStart => exact ⟨0, by omega, by simp, rfl, rfl⟩
      case round =>
        obtain ⟨j, hj, rfl, rfl, rfl⟩ := hrel
        have hpb := packB_bd L HN.out (8 * q) j
        have hp8 := @pow_le_8 j hj
        have hp0 := pow_pos' j
        obtain ⟨P, hP⟩ : ∃ P : Int, P = 2 ^ j := ⟨_, rfl⟩
        obtain ⟨X, hX⟩ : ∃ X, X = packB L (8 * q) j := ⟨_, rfl⟩
        rw [← hP, ← hX] at hpb
        rw [← hP] at hp8 hp0
        rw [← hP, ← hX]
        have HP : Hid (P = 2 ^ j) := hP
        have HX : Hid (X = packB L (8 * q) j) := hX
        clear hP hX
        by_cases hj8 : j < 8
        · by_cases hin : 8 * q + j < L.length
          · have hc := HC.out (8 * q + j) hin
            have hbit := HN.out (8 * q + j)
            obtain ⟨l, hl'⟩ : ∃ l, l = L.getD (8 * q + j) 0 := ⟨_, rfl⟩
            rw [← hl'] at hc hbit
            have HL : Hid (l = L.getD (8 * q + j) 0) := hl'
            clear hl'
            go_wp2
            go_round
            case rel =>
              refine ⟨j + 1, by omega, by go_num, ?_, ?_⟩
              · rw [Int.pow_succ', ← HP.out]
              · rw [packB, ← HX.out, ← HP.out, ← HL.out, pack_step P X l hbit.1 hbit.2 (by omega) (by omega) hpb.1 (by omega)]
            case measure => simp [intOf]; omega
          · have hz : L.getD (8 * q + j) 0 = 0 := by simp [List.getD, List.getElem?_eq_none (show L.length ≤ 8 * q + j by omega)]
            have HZ : Hid (L.getD (8 * q + j) 0 = 0) := hz
            clear hz
            go_wp2
            go_round
            case rel =>
              refine ⟨j + 1, by omega, by go_num, ?_, ?_⟩
              · rw [Int.pow_succ', ← HP.out]
              · rw [packB, ← HX.out, HZ.out, Int.mul_zero, Int.add_zero]
            case measure => simp [intOf]; omega
        · have h8 : j = 8 := by omega
          subst h8
          have hX8 : X ≤ 255 := by omega
          have hdl : (bytesL L q).length = q := by simp [bytesL]
          obtain ⟨D, hD⟩ : ∃ D, D = bytesL L q := ⟨_, rfl⟩
          rw [← hD] at hdl HO
          have HD : Hid (D = bytesL L q) := hD
          have HDL : Hid (D.length = q) := hdl
          have hdl' : D.length ≤ 1000000000000 := by omega
          clear hD hdl
          go_wp2_with (at_builtin; refine wpList_append_own _ rfl _ _ 33 rfl w.heap.size 5 i0 (.int .u8 0) 1 1 Try.underlying33 hi hz0 hz1 hz2 rfl (by decide) _ _ _ rfl (World.ownsRow.alloc HO.out _) ⟨_, 0, none⟩ 1 1 [.int .u8 X] rfl rfl (one_byte _ _) (by intro u hu; simp at hu; subst hu; rfl) (by unfold maxLen; omega) (by omega) (by simp; omega) ?_; intro v' w1 hown' hgrow hnil)
          go_roundw
          case rel =>
            refine ⟨q + 1, by omega, by go_num, ?_, ?_⟩
            · have h1 := OwnsB.push hown'
              rw [HD.out, HX.out] at h1
              have e : bytesL L (q + 1) = bytesL L q ++ [packB L (8 * q) 8] := by simp [bytesL, List.range_succ]
              rw [e]
              exact h1
            · exact (HB.out.alloc hsz _).grown hgrow (by simp; omega) (fun g e => (ownsRow_lt HO.out e).1)
          case measure => simp [intOf]; omega
    · have hqq : q = (L.length + 7) / 8 := by omega
      go_wp2
      go_ret
      exact ⟨_, rfl, by rw [← hqq]; exact HO.out, hbel⟩
#print axioms bytes_any
end Go.Proofs.Ytoeebdjmedkldaa
