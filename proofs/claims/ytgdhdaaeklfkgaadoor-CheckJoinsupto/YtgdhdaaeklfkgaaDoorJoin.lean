/- PROVED: what Join and the reference's Join answer: eight steps of the first number for each byte, xored with the second one. -/
import Derived.Test.YtgdhdaaeklfkgaaDoorSquare
namespace Go.Proofs.YtgdhdaaeklfkgaaDoor
open Go Go.RowKit

/-- What is joined. -/
def jn (a b L : Nat) : Nat := stN (8 * L) a ^^^ b
theorem jn_lt {a b : Nat} (ha : a < 4294967296) (hb : b < 4294967296) (L : Nat) : jn a b L < 4294967296 := xor_lt (stN_lt _ ha) hb
theorem jn_bits {a b : Nat} (ha : a < 4294967296) (hb : b < 4294967296) (L : Nat) : bits .xor .u32 ((stN (8 * L) a : Nat) : Int) (b : Int) = (jn a b L : Nat) := xor32 _ _ (stN_lt _ ha) hb

theorem refJoin_c (a b : Nat) (ha : a < 4294967296) (hb : b < 4294967296) (long : Int) (hl : long ≤ 9223372036854775807) (w : World) :
    Calls Tryd.prog 10 #[.int .u32 (a : Int), .int .u32 (b : Int), .int .i64 long] w fun e w' => e = .returned (.int .u32 (jn a b long.toNat : Nat)) ∧ w' = w := by
  obtain ⟨L, hL⟩ : ∃ L, L = long.toNat := ⟨_, rfl⟩
  have h3 := jn_bits ha hb L
  rw [← hL]
  have HL : Hid (L = long.toNat) := hL
  clear hL
  go_enter Tryd.func10, Tryd.ntmps10
  go_wp2_with fail
  go_loop [0, 7] (fun x i => ∃ k : Nat, k ≤ L ∧ i = .int .i64 k ∧ x = .int .u32 (stN (8 * k) a : Nat)) (fun _ i => L - (intOf i).toNat)
  case atStart => exact ⟨0, by omega, rfl, rfl⟩
  case round =>
    obtain ⟨k, hk, rfl, rfl⟩ := hrel
    by_cases hlt : (k : Int) < long
    · go_wp2_with (go_at_call 16; refine (refEight_c _ (stN_lt (8 * k) ha) _).mono ?_; rintro e w' ⟨rfl, rfl⟩)
      go_round
      case rel => exact ⟨k + 1, by have := HL.out; omega, by go_num, by rw [Nat.mul_add, Nat.mul_one, stN_add]; rfl⟩
      case measure => have := HL.out; simp [intOf]; omega
    · obtain rfl : L = k := by have := HL.out; omega
      go_wp2
      go_ret
      exact ⟨rfl, rfl⟩

theorem and64_one (a : Nat) (ha : a < 9223372036854775808) : bits .and .i64 (a : Int) 1 = (a : Int) % 2 := by
  have h1 : (BitVec.ofInt 64 (a : Int)).toNat = a := by
    rw [BitVec.ofInt_natCast, BitVec.toNat_ofNat]; exact Nat.mod_eq_of_lt (by omega)
  have h2 : (BitVec.ofInt 64 (1 : Int)).toNat = 1 := by decide
  show IntKind.i64.wrap (((BitVec.ofInt 64 (a : Int) &&& BitVec.ofInt 64 1).toNat : Nat) : Int) = _
  rw [BitVec.toNat_and, h1, h2, Nat.and_one_is_mod, IntKind.wrap_i64]
  omega
theorem bitLenAux_lt : ∀ (f x : Nat), x < 2 ^ f → x < 2 ^ Lib.bitLenAux f x
  | 0, x, h => by simpa [Lib.bitLenAux] using h
  | f + 1, x, h => by
    rw [Lib.bitLenAux]
    split
    · omega
    · have ih := bitLenAux_lt f (x / 2) (by rw [Nat.pow_succ] at h; omega)
      rw [Nat.add_comm, Nat.pow_succ]
      omega
theorem bitLen_lt (L : Nat) (h : L < 9223372036854775808) : L < 2 ^ Lib.bitLen L := bitLenAux_lt 64 L (by omega)
theorem mod_pow_succ (L n : Nat) : L % 2 ^ (n + 1) = L % 2 ^ n + 2 ^ n * (L / 2 ^ n % 2) := by
  rw [Nat.pow_succ, Nat.mod_mul]

set_option maxHeartbeats 1000000 in
set_option maxRecDepth 100000 in
theorem join_c (a b : Nat) (ha : a < 4294967296) (hb : b < 4294967296) (long : Int) (hl : long ≤ 9223372036854775807) (w : World) (hT : DeB w) :
    Calls Tryd.prog 9 #[.int .u32 (a : Int), .int .u32 (b : Int), .int .i64 long] w fun e w' => e = .returned (.int .u32 (jn a b long.toNat : Nat)) ∧ Below w.heap.size w w' := by
  have hz := zeroR (rf 8)
  obtain ⟨L, hL⟩ : ∃ L, L = long.toNat := ⟨_, rfl⟩
  have hLl : L ≤ 9223372036854775807 := by omega
  have hmax : ∀ w, (Builtin.max_ #[3, 3] 3 #[.int .i64 long, .int .i64 0]).run Tryd.prog w = .ok (.int .i64 (L : Int)) w := fun w => by
    simp only [Builtin.max_, List.foldlM, Builtin.max2, Sem.run_bind, Sem.run_pure, Result.andThen]
    congr 2
    split <;> omega
  rw [← hL]
  have hwr : IntKind.u64.wrap (L : Int) = (L : Int) := by rw [IntKind.wrap_u64]; omega
  have hln := fun w => len_c (L : Int) w (by omega) (by omega)
  rw [Int.toNat_natCast] at hln
  have hNL := bitLen_lt L (by omega)
  have hN64 := Lib.bitLen_le L 63 (by omega) (by omega)
  generalize Lib.bitLen L = N at hln hNL hN64
  have HNL : Hid (L < 2 ^ N) := hNL
  have HT : Hid (DeB w) := hT
  clear hT hL hl hNL
  go_enter Tryd.func9, Tryd.ntmps9
  go_wp2_with (first
    | (go_at_call 12; refine (rowOfByte_c _).mono ?_; rintro e w1 ⟨rfl, b1⟩; have B1 : Hid (Below w.heap.size w w1) := b1; clear b1)
    | (refine wpList_store_row rfl 37 (.tmp 7) (.tmp 11) rfl _ (rwA (rf 8) 32) (by rfl) (by rfl) (rwA (rf 8) 0) 37 (heap_new _ _) (infoR _ _) (by rw [rwA_size, rwA_size]) (rwA_one _ _) _ (World.setRow_alloc_new _ _ _ _) ?_)
    | (go_at_call 13; refine (hln _).mono ?_; rintro e w2 ⟨rfl, rfl⟩))
  obtain ⟨R, hR⟩ : ∃ R, R = w1.heap.size := ⟨_, rfl⟩
  obtain ⟨V, hV⟩ : ∃ V, V = w1.alloc (.cells (rwA (rf 8) 32) 37) := ⟨_, rfl⟩
  have hrow0 : V.heap[R]? = some (.cells (rwA (rf (8 * 2 ^ 0)) 32) 37 (0, 0)) := by rw [hV, hR]; exact heap_new _ _
  have hbel0 : Below w.heap.size w V := by rw [hV]; exact B1.out.alloc B1.out.size _
  have hwR : w.heap.size ≤ R := by rw [hR]; exact B1.out.size
  rw [← hV, ← hR]
  have RO0 : Hid (V.heap[R]? = some (.cells (rwA (rf (8 * 2 ^ 0)) 32) 37 (0, 0))) := hrow0
  have BE0 : Hid (Below w.heap.size w V) := hbel0
  have HWR : Hid (w.heap.size ≤ R) := hwR
  clear hV hR hrow0 hbel0 hz hmax hln B1 hwR
  generalize rwA (rf 8) 32 = TA
  go_loopg [0, 15] N (fun g s0 s15 wx => ∃ n : Nat, n + g = N ∧ s15 = .int .i64 n ∧ s0 = .int .u32 (stN (8 * (L % 2 ^ n)) a : Nat) ∧ wx.heap[R]? = some (.cells (rwA (rf (8 * 2 ^ n)) 32) 37 (0, 0)) ∧ Below w.heap.size w wx)
  case atStart => exact ⟨0, by omega, rfl, by rw [Nat.pow_zero, Nat.mod_one]; rfl, RO0.out, BE0.out⟩
  case round =>
    obtain ⟨n, hng, rfl, rfl, hrow, hbel⟩ := hrel
    have RO : Hid (wr.heap[R]? = some (.cells (rwA (rf (8 * 2 ^ n)) 32) 37 (0, 0))) := hrow
    have BE : Hid (Below w.heap.size w wr) := hbel
    clear hrow hbel
    cases gk with
    | zero =>
      obtain rfl : n = N := by omega
      rw [Nat.mod_eq_of_lt HNL.out]
      have h3 := jn_bits ha hb L
      generalize stN (8 * L) a = A at h3
      go_wp2
      go_ret
      exact ⟨rfl, BE.out⟩
    | succ g =>
      have hnN : (n : Int) < (N : Int) := by omega
      have hrl := lt_of_block' RO.out
      have hrowin := rowIn_of RO.out
      have hdeb : DeB wr := deB_keep BE.out HT.out
      have hAl := stN_lt (8 * (L % 2 ^ n)) ha
      have hsucc := mod_pow_succ L n
      obtain ⟨B, hBd⟩ : ∃ B, B = L / 2 ^ n % 2 := ⟨_, rfl⟩
      have hBb : bits .and .i64 ((L : Int) / 2 ^ n) 1 = (B : Int) := by
        have hlt : L / 2 ^ n < 9223372036854775808 := Nat.lt_of_le_of_lt (Nat.div_le_self _ _) (by omega)
        have := and64_one (L / 2 ^ n) hlt
        rw [hBd]
        push_cast at this ⊢
        exact this
      have hB01 : B = 0 ∨ B = 1 := by rw [hBd]; omega
      rw [← hBd] at hsucc
      clear hBd
      have hm2 : 8 * 2 ^ n + 8 * 2 ^ n = 8 * 2 ^ (n + 1) := by rw [Nat.pow_succ]; omega
      have SQ : Hid (∀ q, Calls Tryd.prog 15 #[.pointer (some ⟨R, 0, none⟩)] (wr.drewN q) fun e w' => e = .returned (.agg (rwA (rf (8 * 2 ^ (n + 1))) 32)) ∧ Below wr.heap.size wr w') := fun q => by
        rw [← hm2]
        exact (square_c R (8 * 2 ^ n) (wr.drewN q) hrowin hdeb).mono fun e w' ⟨h1, h2⟩ => ⟨h1, (below_drewN' (Below.refl _ wr) q).trans h2⟩
      have AP : Hid (Calls Tryd.prog 14 #[.pointer (some ⟨R, 0, none⟩), .int .u32 ((stN (8 * (L % 2 ^ n)) a : Nat) : Int)] wr fun e w' => e = .returned (.int .u32 (stN (8 * (L % 2 ^ n + 2 ^ n)) a : Nat)) ∧ ∃ q, w' = wr.drewN q) := by
        rw [Nat.mul_add, stN_add]
        exact apply_c R (8 * 2 ^ n) _ hAl wr hrowin hdeb
      have HSU : Hid (L % 2 ^ (n + 1) = L % 2 ^ n + 2 ^ n * B) := hsucc
      have HRL : Hid (R < wr.heap.size) := hrl
      clear hrowin hdeb hAl hsucc hm2 hrl
      generalize hS1 : rf (8 * 2 ^ (n + 1)) = S1 at SQ
      have HS1 : Hid (rf (8 * 2 ^ (n + 1)) = S1) := hS1
      clear hS1
      rcases hB01 with rfl | rfl
      · generalize hA0 : stN (8 * (L % 2 ^ n)) a = A0
        have HA0 : Hid (stN (8 * (L % 2 ^ n)) a = A0) := hA0
        clear AP hA0
        go_wp2_with (first
          | (go_at_call 15; refine (SQ.out 0).mono ?_; rintro e w2 ⟨rfl, b2⟩; have B2 : Hid (Below wr.heap.size wr w2) := b2; clear b2)
          | (refine wpList_store_row rfl 37 (.tmp 7) (.tmp 25) rfl R (rwA S1 32) (by rfl) (by rfl) (rwA (rf (8 * 2 ^ n)) 32) 37 ((B2.out.block R HRL.out).trans RO.out) (infoR _ _) (by rw [rwA_size, rwA_size]) (rwA_one _ _) _ rfl ?_))
        go_roundg g
        case measure => omega
        case rel =>
          refine ⟨n + 1, by omega, by go_num, ?_, ?_, ?_⟩
          · rw [HSU.out, Nat.mul_zero, Nat.add_zero, HA0.out]
          · rw [HS1.out]; exact setRow_self ((B2.out.block R HRL.out).trans RO.out)
          · exact below_setRow' (BE.out.trans (B2.out.mono BE.out.size)) HWR.out _
      · generalize hA1 : stN (8 * (L % 2 ^ n + 2 ^ n)) a = A1 at AP
        generalize stN (8 * (L % 2 ^ n)) a = A0 at AP
        have HA1 : Hid (stN (8 * (L % 2 ^ n + 2 ^ n)) a = A1) := hA1
        clear hA1
        go_wp2_with (first
          | (go_at_call 14; refine AP.out.mono ?_; rintro e w3 ⟨rfl, q3, rfl⟩)
          | (go_at_call 15; refine (SQ.out q3).mono ?_; rintro e w2 ⟨rfl, b2⟩; have B2 : Hid (Below wr.heap.size wr w2) := b2; clear b2)
          | (refine wpList_store_row rfl 37 (.tmp 7) (.tmp 25) rfl R (rwA S1 32) (by rfl) (by rfl) (rwA (rf (8 * 2 ^ n)) 32) 37 ((B2.out.block R HRL.out).trans RO.out) (infoR _ _) (by rw [rwA_size, rwA_size]) (rwA_one _ _) _ rfl ?_))
        go_roundg g
        case measure => omega
        case rel =>
          refine ⟨n + 1, by omega, by go_num, ?_, ?_, ?_⟩
          · rw [HSU.out, Nat.mul_one, HA1.out]
          · rw [HS1.out]; exact setRow_self ((B2.out.block R HRL.out).trans RO.out)
          · exact below_setRow' (BE.out.trans (B2.out.mono BE.out.size)) HWR.out _
end Go.Proofs.YtgdhdaaeklfkgaaDoor
