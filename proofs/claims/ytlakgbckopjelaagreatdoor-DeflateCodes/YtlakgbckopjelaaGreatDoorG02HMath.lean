/- Several texts, laid together: RefRow, RefLay, RefBytes, HMath. -/
import Derived.Test.YtlakgbckopjelaaGreatDoorG01Open
import Derived.Laws.AppendOwnNone
import Derived.Test.YtlakgbckopjelaaGreatDoorG00Read
/- The reference's lists of bits: Row, Lay, Fill: contracts. -/
namespace Go.Proofs.YtlakgbckopjelaaGreatDoor
set_option maxRecDepth 100000
open Go.RowKit

/-- A slice value that owns the numbers L. -/
def Owns (w : World) (base : Nat) (v : Value) (L : List Int) : Prop := w.ownsRow base 3 1 v L.length (L.map (Value.int .i64))

theorem Owns.nil (w : World) (base : Nat) : Owns w base (.slice none 0 0) [] := World.ownsRow_nil _ _ _ _
theorem Owns.kept {M : Nat → Prop} {w w' : World} {base : Nat} {v : Value} {L : List Int} (h : Owns w base v L) (k : Kept M w w') (hn : ∀ g, v.ownBlock = some g → ¬ M g) : Owns w' base v L := ownsRow_kept h k hn
theorem Owns.low {w : World} {base base' : Nat} {v : Value} {L : List Int} (h : Owns w base v L) (hb : base' ≤ base) : Owns w base' v L := by
  obtain ⟨h1, h2⟩ := h
  refine ⟨h1, ?_⟩
  rcases h2 with h2 | ⟨g, cap, cur, hv, hg, r⟩
  · exact .inl h2
  · exact .inr ⟨g, cap, cur, hv, by omega, r⟩
theorem Owns.form {w : World} {base : Nat} {v : Value} {L : List Int} (h : Owns w base v L) : ∃ a cap, v = .slice a L.length cap ∧ (0 < L.length → ∃ g, v.ownBlock = some g ∧ base ≤ g ∧ g < w.heap.size ∧ a = some ⟨g, 0, none⟩ ∧ ∀ j, j < L.length → w.cell? ⟨g, j, none⟩ = some (.int .i64 (L.getD j 0))) := by
  rcases h.2 with ⟨rfl, h2⟩ | ⟨g, cap, cur, rfl, hg, hh, hr⟩
  · exact ⟨none, 0, by rw [h2], fun h => by omega⟩
  · refine ⟨_, _, rfl, fun _ => ⟨g, rfl, hg, lt_of_block hh, rfl, fun j hj => ?_⟩⟩
    have := World.ownsRow.cellAt h j (by omega)
    rw [this]
    simp [List.getD, hj]
theorem Owns.push {w : World} {base : Nat} {v : Value} {L : List Int} {x : Int} (h : w.ownsRow base 3 1 v (L.length + 1) (L.map (Value.int .i64) ++ [.int .i64 x])) : Owns w base v (L ++ [x]) := by
  unfold Owns
  simpa using h

theorem one_int (w : World) (x : Value) : ∀ j u, [x][j]? = some u → (w.alloc (.cells #[x] 3)).cell? ((⟨w.heap.size, 0, none⟩ : Addr).add j) = some u := World.news_of_block (heap_new w (.cells #[x] 3))

set_option maxRecDepth 100000 in
set_option maxHeartbeats 1000000 in
theorem row_any (B : Nat) (a : Option Addr) (len cap : Nat) (zs : List Int) (w : World) (ht : Text B w a len zs) (hl : len ≤ 1000000000000) (hB : B ≤ w.heap.size) :
    Calls Tryz.prog 40 #[.slice a len cap] w fun e w' => ∃ v, e = .returned v ∧ Owns w' w.heap.size v (rowOf zs) ∧ Below w.heap.size w w' := by
  obtain ⟨hz1, hz2, hz3⟩ := ht
  obtain ⟨i0, hi, hz0, hz1', hz2'⟩ := info_parts Tryz.info3
  go_enter Tryz.func40, Tryz.ntmps40
  go_wp2
  go_loopw [3, 4] (fun v i wr => ∃ k : Nat, k ≤ len ∧ i = .int .i64 k ∧ Owns wr w.heap.size v (rowOf (zs.take k)) ∧ Below w.heap.size w wr) (fun _ i _ => len - (intOf i).toNat)
  case atStart => exact ⟨0, Nat.zero_le _, rfl, Owns.nil _ _, Below.refl _ _⟩
  case round =>
    obtain ⟨k, hk, rfl, hown, hbel⟩ := hrel
    by_cases hlt : k < len
    · obtain ⟨b, off, hbB, rfl, hcell⟩ := hz3.resolve_left (by omega)
      have hc : wr.cell? ⟨b, off + k, none⟩ = some (.int .u8 (zs.getD k 0)) := (hbel.cell (by show b < w.heap.size; omega)).trans (hcell k hlt)
      have hx := hz2 k
      obtain ⟨X, hX⟩ : ∃ X, X = zs.getD k 0 := ⟨_, rfl⟩
      rw [← hX] at hc hx
      have HX : Hid (X = zs.getD k 0) := hX
      have HO : Hid (Owns wr w.heap.size u3 (rowOf (zs.take k))) := hown
      have HB : Hid (Below w.heap.size w wr) := hbel
      clear hX hown hbel hz3 hcell hz2
      go_wp2
      go_loopw [3, 5, 6] (fun v x i wi => ∃ j : Nat, j ≤ 8 ∧ i = .int .i64 j ∧ x = .int .i64 (X / 2 ^ j) ∧ Owns wi w.heap.size v (rowOf (zs.take k) ++ bitsN X j) ∧ Below w.heap.size w wi) (fun _ _ i _ => 8 - (intOf i).toNat)
      case atStart => exact ⟨0, by omega, rfl, by simp, by simpa [bitsN] using HO.out, HB.out⟩
      case round =>
        obtain ⟨j, hj, rfl, rfl, hown, hbel⟩ := hrel
        obtain ⟨Y, hY⟩ : ∃ Y, Y = X / 2 ^ j := ⟨_, rfl⟩
        have hY0 : 0 ≤ Y := by rw [hY]; exact Int.ediv_nonneg hx.1 (by have := pow_pos' j; omega)
        have hY1 : Y ≤ 255 := by rw [hY]; have := Int.ediv_le_self (2 ^ j) hx.1; omega
        rw [← hY]
        have HY : Hid (Y = X / 2 ^ j) := hY
        obtain ⟨L, hL⟩ : ∃ L, L = rowOf (zs.take k) ++ bitsN X j := ⟨_, rfl⟩
        rw [← hL] at hown
        have hLl : L.length ≤ 10000000000000 := by rw [hL]; simp [rowOf_length, bitsN_length]; omega
        have HL : Hid (L = rowOf (zs.take k) ++ bitsN X j) := hL
        have HR : Hid (Owns wr w.heap.size u3 L) := hown
        have hsz := hbel.size
        clear hY hL hown
        by_cases hj8 : j < 8
        · go_wp2_with (at_builtin; refine wpList_append_own _ rfl _ _ 32 rfl w.heap.size 3 i0 (.int .i64 0) 1 8 Tryz.underlying32 hi hz0 hz1' hz2' rfl (by decide) _ _ _ rfl (World.ownsRow.alloc HR.out _) ⟨wr.heap.size, 0, none⟩ 1 1 [.int .i64 (Y % 2)] rfl rfl (one_int wr _) (by intro u hu; simp at hu; subst hu; rfl) (by unfold maxLen; omega) (by omega) (by simp; omega) ?_; intro v' w1 hown' hgrow hnil)
          go_roundw
          case rel =>
            refine ⟨j + 1, by omega, by go_num, by rw [HY.out, div_pow_succ], ?_, ?_⟩
            · have h1 := Owns.push hown'
              rw [HY.out, HL.out, List.append_assoc] at h1
              exact h1
            · exact (hbel.alloc hsz _).grown hgrow (by simp; omega) (fun g e => (ownsRow_lt HR.out e).1)
          case measure => simp [intOf]; omega
        · have : j = 8 := by omega
          subst this
          go_wp2
          go_roundw
          case rel =>
            refine ⟨k + 1, by omega, by go_num, ?_, hbel⟩
            have h1 := HR.out
            rw [HL.out, HX.out, ← rowOf_take_succ zs k (by omega)] at h1
            exact h1
          case measure => simp [intOf]; omega
    · have : k = len := by omega
      subst this
      go_wp2
      go_ret
      rw [List.take_of_length_le (by omega)] at hown
      exact ⟨_, rfl, hown, hbel⟩
end Go.Proofs.YtlakgbckopjelaaGreatDoor

/- The reference's Lay and Fill: contracts. -/
namespace Go.Proofs.YtlakgbckopjelaaGreatDoor
set_option maxRecDepth 100000
open Go.RowKit

theorem lay_no (v : Value) (x n : Int) (w : World) (h : n < 0 ∨ 24 < n) :
    Calls Tryz.prog 36 #[v, .int .i64 x, .int .i64 n] w fun e w' => e = .returned v ∧ w' = w := by
  by_cases hn : n < 0
  · go_enter Tryz.func36, Tryz.ntmps36
    go_wp2
    go_ret
    exact ⟨rfl, rfl⟩
  · have h2 : 24 < n := by omega
    go_enter Tryz.func36, Tryz.ntmps36
    go_wp2
    go_ret
    exact ⟨rfl, rfl⟩

theorem own_empty (w : World) (base : Nat) (hb : base ≤ w.heap.size) : (w.alloc (.cells #[] 3)).ownsRow base 3 1 (.slice (some ⟨w.heap.size, 0, none⟩) 0 0) 0 [] := by
  have := World.ownsRow_lit (e := 3) (size := 1) (base := base) w #[] 0 hb (by unfold maxLen; omega) rfl
  simpa using this

/-- What stands in a row that is owned, as an append's source. -/
theorem src_of {w w' : World} {base g n cap : Nat} {L : List Int} (h : Owns w base (.slice (some ⟨g, 0, none⟩) n cap) L) (k : Kept (fun _ => False) w w') : ∀ j u, (L.map (Value.int .i64))[j]? = some u → w'.cell? ((⟨g, 0, none⟩ : Addr).add j) = some u := by
  intro j u hu
  obtain ⟨a, cp, hv, hc⟩ := h.form
  have hj : j < L.length := by
    rcases Nat.lt_or_ge j L.length with h' | h'
    · exact h'
    · simp [List.getElem?_eq_none (show (L.map (Value.int .i64)).length ≤ j by simpa using h')] at hu
  obtain ⟨g', hg', _, hlt, ha, hcell⟩ := hc (by omega)
  simp [Value.ownBlock] at hg'
  subst hg'
  have e : ((⟨g, 0, none⟩ : Addr).add j) = ⟨g, j, none⟩ := by unfold Addr.add; split <;> simp_all
  rw [e, k.cell (p := ⟨g, j, none⟩) hlt (fun h => h), hcell j hj]
  simp [hj] at hu
  rw [← hu]
  simp [List.getD, hj]

theorem ints_one (L : List Int) : ∀ u ∈ L.map (Value.int .i64), u.oneCell' = true := by
  intro u hu; simp at hu; obtain ⟨x, _, rfl⟩ := hu; rfl

set_option maxHeartbeats 1000000 in
theorem lay_yes (base : Nat) (v : Value) (L : List Int) (x : Int) (n : Nat) (w : World) (h : Owns w base v L) (hn : n ≤ 24) (hl : L.length ≤ 1000000000000) :
    Calls Tryz.prog 36 #[v, .int .i64 x, .int .i64 (n : Int)] w fun e w' => ∃ v', e = .returned v' ∧ Owns w' w.heap.size v' (L ++ bitsN x n) ∧ Below w.heap.size w w' := by
  obtain ⟨i0, hi, hz0, hz1', hz2'⟩ := info_parts Tryz.info3
  have HE : Hid ((w.alloc (.cells #[] 3)).ownsRow w.heap.size 3 1 (.slice (some ⟨w.heap.size, 0, none⟩) 0 0) 0 []) := own_empty w _ (Nat.le_refl _)
  have hform : ∃ a cap, v = .slice a L.length cap := by obtain ⟨a, cap, hv, _⟩ := h.form; exact ⟨a, cap, hv⟩
  obtain ⟨a, cap, rfl⟩ := hform
  have HV : Hid (∀ g, (Value.slice a L.length cap).ownBlock = some g → g < w.heap.size) := fun g hg => (ownsRow_lt h hg).2
  cases a
  case' none =>
    have hL : L = [] := by
      rcases h.2 with ⟨_, h2⟩ | ⟨g, _, _, hv, _⟩
      · exact List.eq_nil_of_length_eq_zero h2
      · simp at hv
    have hl0 : L.length = 0 := by rw [hL]; rfl
    have HN : Hid (L = []) := hL
    clear hL
    go_enter Tryz.func36, Tryz.ntmps36
    go_wp2_with fail
    have HO : Hid (Owns (w.alloc (.cells #[] 3)) w.heap.size (.slice (some ⟨w.heap.size, 0, none⟩) 0 0) L) := by rw [HN.out]; exact HE.out
    have HB : Hid (Below w.heap.size w (w.alloc (.cells #[] 3))) := (Below.refl _ _).alloc (Nat.le_refl _) _
    clear h HE HV hl0
  case' some ad =>
    obtain ⟨g, rfl⟩ : ∃ g, ad = ⟨g, 0, none⟩ := by
      rcases h.2 with ⟨hv, _⟩ | ⟨g, _, _, hv, _⟩
      · simp at hv
      · simp at hv; exact ⟨g, hv.1⟩
    have HS : Hid (∀ j u, (L.map (Value.int .i64))[j]? = some u → (w.alloc (.cells #[] 3)).cell? ((⟨g, 0, none⟩ : Addr).add j) = some u) := src_of h (Kept.alloc _ (Kept.refl _ w) _)
    have HI : Hid (∀ u ∈ L.map (Value.int .i64), u.oneCell' = true) := ints_one L
    obtain ⟨LL, hLL⟩ : ∃ LL, LL = L.map (Value.int .i64) := ⟨_, rfl⟩
    rw [← hLL] at HS HI
    have hll : LL.length = L.length * 1 := by rw [hLL]; simp
    have HL : Hid (LL = L.map (Value.int .i64)) := hLL
    clear h hLL
    go_enter Tryz.func36, Tryz.ntmps36
    go_wp2_with (at_builtin; refine wpList_append_own _ rfl (.tmp 16) (.tmp 17) 32 rfl w.heap.size 3 i0 (.int .i64 0) 1 8 Tryz.underlying32 hi hz0 hz1' hz2' rfl (by decide) _ 0 [] rfl HE.out ⟨g, 0, none⟩ L.length cap LL rfl hll HS.out HI.out (by unfold maxLen; omega) (by omega) (by simp) ?_; intro v1 w1 hown1 hgrow1 hnil1)
    have HO : Hid (Owns w1 w.heap.size v1 L) := by
      rw [HL.out] at hown1
      simpa [Owns, Hid] using hown1
    have HB : Hid (Below w.heap.size w w1) := ((Below.refl _ _).alloc (Nat.le_refl _) _).grown hgrow1 (by simp) (fun k e => by simp [Act.eval, Value.ownBlock] at e; omega)
    clear hown1 hgrow1 hnil1 HS HI HL HE HV hll
  all_goals
    go_loopw [7, 8] (fun v i wr => ∃ k : Nat, k ≤ n ∧ i = .int .i64 k ∧ Owns wr w.heap.size v (L ++ bitsN x k) ∧ Below w.heap.size w wr) (fun _ i _ => n - (intOf i).toNat)
    case atStart => exact ⟨0, Nat.zero_le _, rfl, by simpa [bitsN] using HO.out, HB.out⟩
    case round =>
      obtain ⟨k, hk, rfl, hown, hbel⟩ := hrel
      obtain ⟨M, hM⟩ : ∃ M, M = L ++ bitsN x k := ⟨_, rfl⟩
      rw [← hM] at hown
      have hMl : M.length ≤ 2000000000000 := by rw [hM]; simp [bitsN_length]; omega
      have HM : Hid (M = L ++ bitsN x k) := hM
      have HR : Hid (Owns wr w.heap.size u7 M) := hown
      have hsz := hbel.size
      clear hM hown
      by_cases hlt : k < n
      · go_wp2_with (first
          | (go_at_call 67; refine (bit_any _ _ _ (by omega) (by omega)).mono ?_; rintro e w' ⟨rfl, rfl⟩)
          | (at_builtin; refine wpList_append_own _ rfl _ _ 32 rfl w.heap.size 3 i0 (.int .i64 0) 1 8 Tryz.underlying32 hi hz0 hz1' hz2' rfl (by decide) _ _ _ rfl (World.ownsRow.alloc HR.out _) ⟨_, 0, none⟩ 1 1 [.int .i64 (x / 2 ^ k % 2)] rfl rfl (one_int _ _) (by intro u hu; simp at hu; subst hu; rfl) (by unfold maxLen; omega) (by omega) (by simp; omega) ?_; intro v' w1 hown' hgrow hnil))
        go_roundw
        case rel =>
          refine ⟨k + 1, by omega, by go_num, ?_, ?_⟩
          · have h1 := Owns.push hown'
            rw [HM.out, List.append_assoc] at h1
            exact h1
          · exact (hbel.alloc hsz _).grown hgrow (by simp; omega) (fun g e => (ownsRow_lt HR.out e).1)
        case measure => simp [intOf]; omega
      · have : k = n := by omega
        subst this
        go_wp2
        go_ret
        exact ⟨_, rfl, by rw [← HM.out]; exact HR.out, hbel⟩

/-- How many bits are missing up to a byte's end. -/
def pad (n : Nat) : Nat := (8 - n % 8) % 8

end Go.Proofs.YtlakgbckopjelaaGreatDoor

/- The reference's Bytes: bits become bytes. -/
namespace Go.Proofs.YtlakgbckopjelaaGreatDoor
set_option maxRecDepth 100000
open Go.RowKit

/-- A slice value that owns the bytes D. -/
def OwnsB (w : World) (base : Nat) (v : Value) (D : List Int) : Prop := w.ownsRow base 5 1 v D.length (D.map (Value.int .u8))
theorem OwnsB.nil (w : World) (base : Nat) : OwnsB w base (.slice none 0 0) [] := World.ownsRow_nil _ _ _ _
theorem OwnsB.push {w : World} {base : Nat} {v : Value} {L : List Int} {x : Int} (h : w.ownsRow base 5 1 v (L.length + 1) (L.map (Value.int .u8) ++ [.int .u8 x])) : OwnsB w base v (L ++ [x]) := by
  unfold OwnsB
  simpa using h
theorem one_byte (w : World) (x : Value) : ∀ j u, [x][j]? = some u → (w.alloc (.cells #[x] 5)).cell? ((⟨w.heap.size, 0, none⟩ : Addr).add j) = some u := World.news_of_block (heap_new w (.cells #[x] 5))

/-- The numbers L lie in memory, where a slice leads. -/
def Nums (w : World) (a : Option Addr) (L : List Int) : Prop := L.length = 0 ∨ ∃ b off, b < w.heap.size ∧ a = some ⟨b, off, none⟩ ∧ ∀ i, i < L.length → w.cell? ⟨b, off + i, none⟩ = some (.int .i64 (L.getD i 0))

def Bin (L : List Int) : Prop := ∀ i, 0 ≤ L.getD i 0 ∧ L.getD i 0 ≤ 1

/-- The first j bits from place i on, as a number (0 where there are none). -/
def packB (L : List Int) (i : Nat) : Nat → Int
  | 0 => 0
  | j + 1 => packB L i j + 2 ^ j * L.getD (i + j) 0

def bytesL (L : List Int) (q : Nat) : List Int := (List.range q).map fun r => packB L (8 * r) 8

theorem packB_bd (L : List Int) (h : Bin L) (i j : Nat) : 0 ≤ packB L i j ∧ packB L i j < 2 ^ j := by
  induction j with
  | zero => simp [packB]
  | succ j ih =>
    have hb := h (i + j)
    have hp := pow_pos' j
    rw [packB, Int.pow_succ]
    have : L.getD (i + j) 0 = 0 ∨ L.getD (i + j) 0 = 1 := by omega
    rcases this with e | e <;> rw [e] <;> omega

theorem pack_step (P X l : Int) (h0 : 0 ≤ l) (h1 : l ≤ 1) (hp0 : 0 ≤ P) (hp1 : P ≤ 256) (hx0 : 0 ≤ X) (hx1 : X ≤ 256) : wrap64 (X + wrap64 (P * l)) = X + P * l := by
  have : l = 0 ∨ l = 1 := by omega
  rcases this with e | e
  · subst e
    rw [Int.mul_zero, IntWalk.wrap64_in 0 (by omega), IntWalk.wrap64_in _ (by omega)]
  · subst e
    rw [Int.mul_one, IntWalk.wrap64_in P (by omega), IntWalk.wrap64_in _ (by omega)]

theorem pow_le_8 {k : Nat} (h : k ≤ 8) : (2 : Int) ^ k ≤ 256 := by
  have : (2 : Nat) ^ k ≤ 2 ^ 8 := Nat.pow_le_pow_right (by decide) h
  have h2 : ((2 ^ k : Nat) : Int) ≤ ((2 ^ 8 : Nat) : Int) := by exact_mod_cast this
  simpa using h2

set_option maxHeartbeats 1000000 in
theorem bytes_any (a : Option Addr) (cap : Nat) (L : List Int) (w : World) (hn : Nums w a L) (hb : Bin L) (hl : L.length ≤ 1000000000000) :
    Calls Tryz.prog 38 #[.slice a L.length cap] w fun e w' => ∃ v, e = .returned v ∧ OwnsB w' w.heap.size v (bytesL L ((L.length + 7) / 8)) ∧ Below w.heap.size w w' := by
  obtain ⟨i0, hi, hz0, hz1, hz2⟩ := info_parts Tryz.info5
  go_enter Tryz.func38, Tryz.ntmps38
  go_wp2
  go_loopw [3, 4] (fun v i wr => ∃ q : Nat, q ≤ (L.length + 7) / 8 ∧ i = .int .i64 ((8 * q : Nat) : Int) ∧ OwnsB wr w.heap.size v (bytesL L q) ∧ Below w.heap.size w wr) (fun _ i _ => (L.length + 7) / 8 - (intOf i).toNat / 8)
  case atStart => exact ⟨0, Nat.zero_le _, rfl, OwnsB.nil _ _, Below.refl _ _⟩
  case round =>
    obtain ⟨q, hq, rfl, hown, hbel⟩ := hrel
    have HO : Hid (OwnsB wr w.heap.size u3 (bytesL L q)) := hown
    have HB : Hid (Below w.heap.size w wr) := hbel
    have hsz := hbel.size
    clear hown
    by_cases hlt : 8 * q < L.length
    · obtain ⟨b, off, hbB, rfl, hcell⟩ := hn.resolve_left (by omega)
      have HC : Hid (∀ i, i < L.length → wr.cell? ⟨b, off + i, none⟩ = some (.int .i64 (L.getD i 0))) := fun i hi => (hbel.cell (by exact hbB)).trans (hcell i hi)
      have HN : Hid (Bin L) := hb
      clear hn hcell hbel hb
      go_wp2
      go_loop [5, 6, 7] (fun x p k => ∃ j : Nat, j ≤ 8 ∧ k = .int .i64 ((8 * q + j : Nat) : Int) ∧ p = .int .i64 (2 ^ j) ∧ x = .int .i64 (packB L (8 * q) j)) (fun _ _ k => 8 * q + 8 - (intOf k).toNat)
      case atStart => exact ⟨0, by omega, by simp, rfl, rfl⟩
      case round =>
        obtain ⟨j, hj, rfl, rfl, rfl⟩ := hrel
        have hpb := packB_bd L HN.out (8 * q) j
        have hp8 := @pow_le_8 j hj
        have hp0 := pow_pos' j
        obtain ⟨P, hP⟩ : ∃ P : Int, P = 2 ^ j := ⟨_, rfl⟩
        obtain ⟨X, hX⟩ : ∃ X, X = packB L (8 * q) j := ⟨_, rfl⟩
        rw [← hP, ← hX] at hpb
        rw [← hP] at hp8 hp0
        rw [← hP, ← hX]
        have HP : Hid (P = 2 ^ j) := hP
        have HX : Hid (X = packB L (8 * q) j) := hX
        clear hP hX
        by_cases hj8 : j < 8
        · by_cases hin : 8 * q + j < L.length
          · have hc := HC.out (8 * q + j) hin
            have hbit := HN.out (8 * q + j)
            obtain ⟨l, hl'⟩ : ∃ l, l = L.getD (8 * q + j) 0 := ⟨_, rfl⟩
            rw [← hl'] at hc hbit
            have HL : Hid (l = L.getD (8 * q + j) 0) := hl'
            clear hl'
            go_wp2
            go_round
            case rel =>
              refine ⟨j + 1, by omega, by go_num, ?_, ?_⟩
              · rw [Int.pow_succ', ← HP.out]
              · rw [packB, ← HX.out, ← HP.out, ← HL.out, pack_step P X l hbit.1 hbit.2 (by omega) (by omega) hpb.1 (by omega)]
            case measure => simp [intOf]; omega
          · have hz : L.getD (8 * q + j) 0 = 0 := by simp [List.getD, List.getElem?_eq_none (show L.length ≤ 8 * q + j by omega)]
            have HZ : Hid (L.getD (8 * q + j) 0 = 0) := hz
            clear hz
            go_wp2
            go_round
            case rel =>
              refine ⟨j + 1, by omega, by go_num, ?_, ?_⟩
              · rw [Int.pow_succ', ← HP.out]
              · rw [packB, ← HX.out, HZ.out, Int.mul_zero, Int.add_zero]
            case measure => simp [intOf]; omega
        · have h8 : j = 8 := by omega
          subst h8
          have hX8 : X ≤ 255 := by omega
          have hdl : (bytesL L q).length = q := by simp [bytesL]
          obtain ⟨D, hD⟩ : ∃ D, D = bytesL L q := ⟨_, rfl⟩
          rw [← hD] at hdl HO
          have HD : Hid (D = bytesL L q) := hD
          have HDL : Hid (D.length = q) := hdl
          have hdl' : D.length ≤ 1000000000000 := by omega
          clear hD hdl
          go_wp2_with (at_builtin; refine wpList_append_own _ rfl _ _ 22 rfl w.heap.size 5 i0 (.int .u8 0) 1 1 Tryz.underlying22 hi hz0 hz1 hz2 rfl (by decide) _ _ _ rfl (World.ownsRow.alloc HO.out _) ⟨_, 0, none⟩ 1 1 [.int .u8 X] rfl rfl (one_byte _ _) (by intro u hu; simp at hu; subst hu; rfl) (by unfold maxLen; omega) (by omega) (by simp; omega) ?_; intro v' w1 hown' hgrow hnil)
          go_roundw
          case rel =>
            refine ⟨q + 1, by omega, by go_num, ?_, ?_⟩
            · have h1 := OwnsB.push hown'
              rw [HD.out, HX.out] at h1
              have e : bytesL L (q + 1) = bytesL L q ++ [packB L (8 * q) 8] := by simp [bytesL, List.range_succ]
              rw [e]
              exact h1
            · exact (HB.out.alloc hsz _).grown hgrow (by simp; omega) (fun g e => (ownsRow_lt HO.out e).1)
          case measure => simp [intOf]; omega
    · have hqq : q = (L.length + 7) / 8 := by omega
      go_wp2
      go_ret
      exact ⟨_, rfl, by rw [← hqq]; exact HO.out, hbel⟩
#print axioms bytes_any
end Go.Proofs.YtlakgbckopjelaaGreatDoor

/- Codes of unlike lengths as plain arithmetic: how many codes a length has, the first code of a length, each symbol's code, the symbols as their codes rise, which row of bits begins with which code. No Go text in sight. -/
namespace Go.Proofs.YtlakgbckopjelaaGreatDoor
set_option maxRecDepth 100000

/-- How many symbols have a code of n bits; none of 0 bits. -/
def ct (ls : List Int) : Nat → Nat
  | 0 => 0
  | n + 1 => ls.count ((n + 1 : Nat) : Int)
/-- The first code of n bits. -/
def fc (ls : List Int) : Nat → Nat
  | 0 => 0
  | n + 1 => 2 * (fc ls n + ct ls n)
/-- How many codes have at most n bits. -/
def sh (ls : List Int) : Nat → Nat
  | 0 => 0
  | n + 1 => sh ls n + ct ls (n + 1)
/-- The weight of the codes of at most n bits. -/
def ws (ls : List Int) : Nat → Nat
  | 0 => 0
  | n + 1 => ws ls n + ct ls (n + 1) * 2 ^ (15 - (n + 1))
/-- The weight, symbol by symbol. -/
def wt : List Int → Nat
  | [] => 0
  | x :: r => (if x = 0 then 0 else 2 ^ (15 - x.toNat)) + wt r
/-- A symbol's length. -/
def ln (ls : List Int) (s : Nat) : Int := ls.getD s 0
/-- How many symbols ahead of s have its length. -/
def rk (ls : List Int) (s : Nat) : Nat := (ls.take s).count (ln ls s)
/-- A symbol's code. -/
def cd (ls : List Int) (s : Nat) : Nat := fc ls (ln ls s).toNat + rk ls s
/-- Lengths such as may be. -/
def Fit (ls : List Int) : Prop := ∀ x ∈ ls, 0 ≤ x ∧ x ≤ 15
/-- The symbols of length n among the first k. -/
def idx (ls : List Int) (n : Nat) : Nat → List Nat
  | 0 => []
  | k + 1 => if ln ls k = (n : Int) then idx ls n k ++ [k] else idx ls n k
/-- The symbols that have a code of at most n bits, as the codes rise. -/
def od (ls : List Int) : Nat → List Nat
  | 0 => []
  | n + 1 => od ls n ++ idx ls (n + 1) ls.length

theorem ln_fit {ls : List Int} (h : Fit ls) (s : Nat) : 0 ≤ ln ls s ∧ ln ls s ≤ 15 := by
  unfold ln
  by_cases hs : s < ls.length
  · have := h _ (List.getElem_mem hs)
    simpa [List.getD, hs] using this
  · simp [List.getD, List.getElem?_eq_none (show ls.length ≤ s by omega)]

theorem take_count_succ (ls : List Int) (k : Nat) (n : Int) (h : k < ls.length) : (ls.take (k + 1)).count n = (ls.take k).count n + if ln ls k = n then 1 else 0 := by
  rw [List.take_succ_eq_append_getElem h, List.count_append]
  have e : ln ls k = ls[k] := by simp [ln, List.getD, h]
  rw [e]
  by_cases hx : ls[k] = n <;> simp [hx]

theorem ct_eq (ls : List Int) (n : Nat) (h : 1 ≤ n) : ct ls n = ls.count (n : Int) := by
  obtain ⟨m, rfl⟩ : ∃ m, n = m + 1 := ⟨n - 1, by omega⟩
  rfl

theorem take_count_le (ls : List Int) (k : Nat) (n : Int) : (ls.take k).count n ≤ ls.count n := by
  conv => rhs; rw [← List.take_append_drop k ls, List.count_append]
  omega

theorem rk_lt {ls : List Int} {s : Nat} (hs : s < ls.length) (h1 : 1 ≤ ln ls s) : rk ls s < ct ls (ln ls s).toNat := by
  have e : ((ln ls s).toNat : Int) = ln ls s := Int.toNat_of_nonneg (by omega)
  rw [ct_eq _ _ (by omega), e]
  have := take_count_succ ls s (ln ls s) hs
  have h2 := take_count_le ls (s + 1) (ln ls s)
  simp at this
  unfold rk; omega

theorem ws_cons (x : Int) (r : List Int) (hx : 0 ≤ x ∧ x ≤ 15) : ws (x :: r) 15 = (if x = 0 then 0 else 2 ^ (15 - x.toNat)) + ws r 15 := by
  obtain ⟨n, rfl⟩ := Int.eq_ofNat_of_zero_le hx.1
  have hn : n ≤ 15 := by omega
  have e : ∀ m : Nat, ct ((n : Int) :: r) (m + 1) = ct r (m + 1) + if n = m + 1 then 1 else 0 := by
    intro m
    simp only [ct, List.count_cons]
    by_cases h : n = m + 1
    · subst h; simp
    · have : ¬ (n : Int) = (m : Int) + 1 := by omega
      simp [h, this]
  simp only [ws, e]
  rcases (show n = 0 ∨ n = 1 ∨ n = 2 ∨ n = 3 ∨ n = 4 ∨ n = 5 ∨ n = 6 ∨ n = 7 ∨ n = 8 ∨ n = 9 ∨ n = 10 ∨ n = 11 ∨ n = 12 ∨ n = 13 ∨ n = 14 ∨ n = 15 by omega) with h | h | h | h | h | h | h | h | h | h | h | h | h | h | h | h <;> subst h <;> simp <;> omega

theorem ws_wt (ls : List Int) (h : Fit ls) : ws ls 15 = wt ls := by
  induction ls with
  | nil => rfl
  | cons x r ih =>
    rw [ws_cons x r (h x (by simp)), wt, ih (fun y hy => h y (by simp [hy]))]

theorem ws_mono (ls : List Int) {m n : Nat} (h : m ≤ n) : ws ls m ≤ ws ls n := by
  induction n with
  | zero => have : m = 0 := by omega
            subst this; omega
  | succ n ih =>
    by_cases hm : m = n + 1
    · subst hm; omega
    · have := ih (by omega); rw [ws]; omega

theorem up_ws (ls : List Int) (n : Nat) (h : n ≤ 15) : (fc ls n + ct ls n) * 2 ^ (15 - n) = ws ls n := by
  induction n with
  | zero => simp [fc, ct, ws]
  | succ n ih =>
    have i := ih (by omega)
    have e : 15 - n = (15 - (n + 1)) + 1 := by omega
    rw [e, Nat.pow_succ] at i
    have i2 : (2 * (fc ls n + ct ls n)) * 2 ^ (15 - (n + 1)) = ws ls n := by
      rw [← i, Nat.mul_comm 2, Nat.mul_assoc, Nat.mul_comm 2]
    rw [fc, ws, Nat.add_mul, i2]

/-- Codes of n bits end at 2^n at the latest. -/
theorem up_le (ls : List Int) (hw : ws ls 15 ≤ 32768) (n : Nat) (h : n ≤ 15) : fc ls n + ct ls n ≤ 2 ^ n := by
  have e := up_ws ls n h
  have m := ws_mono ls h
  have p : (2 : Nat) ^ n * 2 ^ (15 - n) = 32768 := by rw [← Nat.pow_add, show n + (15 - n) = 15 by omega]
  apply Nat.le_of_mul_le_mul_right (c := 2 ^ (15 - n)) _ (Nat.two_pow_pos _)
  omega

theorem up_full (ls : List Int) (hw : ws ls 15 = 32768) (n : Nat) (h : n ≤ 15) (hz : ∀ k, n < k → k ≤ 15 → ct ls k = 0) : fc ls n + ct ls n = 2 ^ n := by
  have e := up_ws ls n h
  have m : ∀ k, n + k ≤ 15 → ws ls (n + k) = ws ls n := by
    intro k hk
    induction k with
    | zero => rfl
    | succ k ih => rw [← Nat.add_assoc, ws, hz (n + k + 1) (by omega) (by omega), ih (by omega)]; simp
  have m15 := m (15 - n) (by omega)
  rw [show n + (15 - n) = 15 by omega, hw] at m15
  have p : (2 : Nat) ^ n * 2 ^ (15 - n) = 32768 := by rw [← Nat.pow_add, show n + (15 - n) = 15 by omega]
  refine Nat.eq_of_mul_eq_mul_right (Nat.two_pow_pos (15 - n)) ?_
  omega

theorem cd_lt {ls : List Int} (hw : ws ls 15 ≤ 32768) (hf : Fit ls) {s : Nat} (hs : s < ls.length) (h1 : 1 ≤ ln ls s) : cd ls s < fc ls (ln ls s).toNat + ct ls (ln ls s).toNat ∧ cd ls s < 2 ^ (ln ls s).toNat := by
  have := rk_lt hs h1
  have b := ln_fit hf s
  have u := up_le ls hw (ln ls s).toNat (by omega)
  unfold cd; omega

/-! The symbols as their codes rise. -/
theorem idx_length (ls : List Int) (n k : Nat) (hk : k ≤ ls.length) : (idx ls n k).length = (ls.take k).count (n : Int) := by
  induction k with
  | zero => simp [idx]
  | succ k ih =>
    rw [idx, take_count_succ ls k _ (by omega), ← ih (by omega)]
    by_cases h : ln ls k = (n : Int) <;> simp [h]

theorem idx_at (ls : List Int) (n k s : Nat) (hk : k ≤ ls.length) (hs : s < k) (h : ln ls s = (n : Int)) : (idx ls n k)[rk ls s]? = some s := by
  induction k with
  | zero => omega
  | succ k ih =>
    have hl := idx_length ls n k (by omega)
    rw [idx]
    by_cases e : s = k
    · subst e
      have : rk ls s = (idx ls n s).length := by rw [hl, rk, h]
      simp [h, this]
    · have i := ih (by omega) (by omega)
      have hlt : rk ls s < (idx ls n k).length := by
        rcases Nat.lt_or_ge (rk ls s) (idx ls n k).length with h' | h'
        · exact h'
        · rw [List.getElem?_eq_none h'] at i; simp at i
      split
      · rw [List.getElem?_append_left hlt]; exact i
      · exact i

theorem idx_has (ls : List Int) (n k r : Nat) (hk : k ≤ ls.length) (hr : r < (ls.take k).count (n : Int)) : ∃ s, s < k ∧ ln ls s = (n : Int) ∧ rk ls s = r := by
  induction k with
  | zero => simp at hr
  | succ k ih =>
    rw [take_count_succ ls k _ (by omega)] at hr
    by_cases h : r < (ls.take k).count (n : Int)
    · obtain ⟨s, h1, h2⟩ := ih (by omega) h
      exact ⟨s, by omega, h2⟩
    · by_cases e : ln ls k = (n : Int)
      · simp [e] at hr
        exact ⟨k, by omega, e, by rw [rk, e]; omega⟩
      · simp [e] at hr; omega

theorem od_length (ls : List Int) (n : Nat) : (od ls n).length = sh ls n := by
  induction n with
  | zero => rfl
  | succ n ih => rw [od, sh, List.length_append, ih, idx_length _ _ _ (Nat.le_refl _), List.take_length]; rfl

theorem sh_mono (ls : List Int) {m n : Nat} (h : m ≤ n) : sh ls m ≤ sh ls n := by
  induction n with
  | zero => have : m = 0 := by omega
            subst this; omega
  | succ n ih =>
    by_cases hm : m = n + 1
    · subst hm; omega
    · have := ih (by omega); rw [sh]; omega

theorem rk_inj {ls : List Int} {s t : Nat} (hs : s < ls.length) (ht : t < ls.length) (hl : ln ls s = ln ls t) (h0 : 0 ≤ ln ls s) (hr : rk ls s = rk ls t) : s = t := by
  have e : ((ln ls s).toNat : Int) = ln ls s := Int.toNat_of_nonneg h0
  have a := idx_at ls (ln ls s).toNat ls.length s (Nat.le_refl _) hs e.symm
  have b := idx_at ls (ln ls s).toNat ls.length t (Nat.le_refl _) ht (by rw [← hl]; exact e.symm)
  rw [hr, b] at a
  simpa using a.symm

/-! Rows of bits. -/
/-- The first n bits as a number, the first one the highest. -/
def vl (b : Nat → Nat) : Nat → Nat
  | 0 => 0
  | n + 1 => 2 * vl b n + b n
/-- The first n bits are a code of n bits. -/
def Hit (ls : List Int) (b : Nat → Nat) (n : Nat) : Prop := fc ls n ≤ vl b n ∧ vl b n < fc ls n + ct ls n

theorem vl_lt (b : Nat → Nat) (hb : ∀ i, b i ≤ 1) (n : Nat) : vl b n < 2 ^ n := by
  induction n with
  | zero => simp [vl]
  | succ n ih => rw [vl, Nat.pow_succ]; have := hb n; omega

theorem vl_congr {b c : Nat → Nat} (n : Nat) (h : ∀ i, i < n → b i = c i) : vl b n = vl c n := by
  induction n with
  | zero => rfl
  | succ n ih => rw [vl, vl, ih (fun i hi => h i (by omega)), h n (by omega)]

/-- Where no code of fewer bits was met, the bits are not below the first code. -/
theorem not_below (ls : List Int) (b : Nat → Nat) (n : Nat) (h : ∀ k, k < n → ¬ Hit ls b k) : fc ls n ≤ vl b n := by
  induction n with
  | zero => simp [fc]
  | succ n ih =>
    have i := ih (fun k hk => h k (by omega))
    have g := h n (by omega)
    unfold Hit at g
    rw [fc, vl]; omega

/-- Behind a code the bits are below all longer codes. -/
theorem hit_below (ls : List Int) (b : Nat → Nat) (hb : ∀ i, b i ≤ 1) (n m : Nat) (h : Hit ls b n) (hm : n < m) : vl b m < fc ls m := by
  induction m with
  | zero => omega
  | succ m ih =>
    have hbm := hb m
    rw [fc, vl]
    by_cases e : n = m
    · subst e; unfold Hit at h; omega
    · have := ih (by omega); omega

theorem hit_one (ls : List Int) (b : Nat → Nat) (hb : ∀ i, b i ≤ 1) (n m : Nat) (h : Hit ls b n) (k : Hit ls b m) : n = m := by
  rcases Nat.lt_trichotomy n m with l | l | l
  · have := hit_below ls b hb n m h l; unfold Hit at k; omega
  · exact l
  · have := hit_below ls b hb m n k l; unfold Hit at h; omega

theorem hit_pos {ls : List Int} {b : Nat → Nat} {n : Nat} (h : Hit ls b n) : 1 ≤ n := by
  rcases n with _ | n
  · simp [Hit, fc, ct] at h
  · omega

/-- A code that is met is a symbol's. -/
theorem hit_sym {ls : List Int} {b : Nat → Nat} {n : Nat} (h : Hit ls b n) : ∃ s, s < ls.length ∧ ln ls s = (n : Int) ∧ cd ls s = vl b n := by
  have h1 := hit_pos h
  unfold Hit at h
  have c := ct_eq ls n h1
  obtain ⟨s, hs, hl, hr⟩ := idx_has ls n ls.length (vl b n - fc ls n) (Nat.le_refl _) (by rw [List.take_length, ← c]; omega)
  exact ⟨s, hs, hl, by rw [cd, hl, hr]; simp; omega⟩

theorem sym_hit {ls : List Int} {b : Nat → Nat} {s : Nat} (hs : s < ls.length) (h1 : 1 ≤ ln ls s) (h : cd ls s = vl b (ln ls s).toNat) : Hit ls b (ln ls s).toNat := by
  have := rk_lt hs h1
  unfold cd at h
  unfold Hit; omega

theorem sym_one {ls : List Int} {b : Nat → Nat} (hb : ∀ i, b i ≤ 1) {s t : Nat} (hs : s < ls.length) (ht : t < ls.length) (h1 : 1 ≤ ln ls s) (k1 : 1 ≤ ln ls t) (h : cd ls s = vl b (ln ls s).toNat) (k : cd ls t = vl b (ln ls t).toNat) : s = t := by
  have e := hit_one ls b hb _ _ (sym_hit hs h1 h) (sym_hit ht k1 k)
  have el : ln ls s = ln ls t := by omega
  refine rk_inj hs ht el (by omega) ?_
  rw [el] at h
  unfold cd at h k
  rw [el] at h
  omega

/-- Bits that are cut off behind j. -/
def cutB (b : Nat → Nat) (j : Nat) (i : Nat) : Nat := if i < j then b i else 0
theorem cutB_le {b : Nat → Nat} (hb : ∀ i, b i ≤ 1) (j i : Nat) : cutB b j i ≤ 1 := by
  unfold cutB; split
  · exact hb i
  · omega
theorem cutB_vl (b : Nat → Nat) (j n : Nat) (h : n ≤ j) : vl (cutB b j) n = vl b n := vl_congr n (fun i hi => by unfold cutB; rw [if_pos (by omega)])

/-- Where the lengths are full, bits as many as the longest code has begin with a code. -/
theorem full_hit (ls : List Int) (hw : ws ls 15 = 32768) (b : Nat → Nat) (hb : ∀ i, b i ≤ 1) (N : Nat) (hN : N ≤ 15) (hz : ∀ k, N < k → k ≤ 15 → ct ls k = 0) : ∃ n, n ≤ N ∧ Hit ls b n := by
  by_cases h : ∃ n, n < N ∧ Hit ls b n
  · obtain ⟨n, h1, h2⟩ := h; exact ⟨n, by omega, h2⟩
  · have nb := not_below ls b N (fun k hk hh => h ⟨k, hk, hh⟩)
    have u := up_full ls hw N hN hz
    have v := vl_lt b hb N
    exact ⟨N, Nat.le_refl _, nb, by omega⟩

theorem vl_half (b : Nat → Nat) (hb : ∀ i, b i ≤ 1) (j d : Nat) : vl b (j + d) / 2 ^ d = vl b j := by
  induction d with
  | zero => simp
  | succ d ih =>
    have h := hb (j + d)
    rw [← Nat.add_assoc, vl, Nat.pow_succ, Nat.mul_comm (2 ^ d) 2, ← Nat.div_div_eq_div_mul, show (2 * vl b (j + d) + b (j + d)) / 2 = vl b (j + d) by omega]
    exact ih

/-- The bits of a code, the highest first. -/
def bitC (c n k : Nat) : Nat := c / 2 ^ (n - 1 - k) % 2
theorem vl_code (b : Nat → Nat) (c n : Nat) (hc : c < 2 ^ n) (j : Nat) (hj : j ≤ n) : (∀ k, k < j → b k = bitC c n k) ↔ vl b j = c / 2 ^ (n - j) ∧ ∀ k, k < j → b k ≤ 1 := by
  induction j with
  | zero => simp [vl, Nat.div_eq_of_lt hc]
  | succ j ih =>
    have i := ih (by omega)
    have e : c / 2 ^ (n - j) = c / 2 ^ (n - (j + 1)) / 2 := by
      have e2 : 2 ^ (n - j) = 2 ^ (n - (j + 1)) * 2 := by rw [← Nat.pow_succ]; congr 1; omega
      rw [Nat.div_div_eq_div_mul, e2]
    have eb : bitC c n j = c / 2 ^ (n - (j + 1)) % 2 := by unfold bitC; rw [show n - 1 - j = n - (j + 1) by omega]
    rw [e] at i
    constructor
    · intro h
      obtain ⟨i1, i2⟩ := i.1 (fun k hk => h k (by omega))
      have hj' := h j (by omega)
      rw [eb] at hj'
      refine ⟨by rw [vl, i1, hj']; omega, fun k hk => ?_⟩
      by_cases ek : k = j
      · subst ek; omega
      · exact i2 k (by omega)
    · rintro ⟨h1, h2⟩
      rw [vl] at h1
      have hj' := h2 j (by omega)
      have i1 := i.2 ⟨by omega, fun k hk => h2 k (by omega)⟩
      intro k hk
      by_cases ek : k = j
      · subst ek; rw [eb]; omega
      · exact i1 k (by omega)

/-! The longest code. -/
structure Longest (ls : List Int) (N : Nat) : Prop where
  le : N ≤ 15
  up : ∀ s, s < ls.length → ln ls s ≤ (N : Int)
  at_ : N = 0 ∨ ∃ s, s < ls.length ∧ ln ls s = (N : Int)

theorem Longest.zero {ls : List Int} {N : Nat} (h : Longest ls N) (k : Nat) (hk : N < k) : ct ls k = 0 := by
  rw [ct_eq _ _ (by omega)]
  rw [List.count_eq_zero]
  intro hm
  obtain ⟨i, hi, he⟩ := List.getElem_of_mem hm
  have := h.up i hi
  simp [ln, List.getD, hi, he] at this
  omega

/-- What may be: full lengths, or a lone code of one bit, or none. -/
structure Good (ls : List Int) : Prop where
  fit : Fit ls
  le : ws ls 15 ≤ 32768
  way : ws ls 15 = 32768 ∨ (∀ s, s < ls.length → ln ls s ≤ 1)
end Go.Proofs.YtlakgbckopjelaaGreatDoor
