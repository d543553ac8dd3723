/- PROVED: More goes on with a sum as the document says, whatever the bytes, where the table lies in memory; so does Sum. -/
import Derived.Test.YtgdhdaaeklfkgaaDoorMake
namespace Go.Proofs.YtgdhdaaeklfkgaaDoor
open Go Go.RowKit

theorem ofInt8 (a : Nat) (ha : a < 256) : (BitVec.ofInt 8 (a : Int)).toNat = a := by
  rw [BitVec.ofInt_natCast, BitVec.toNat_ofNat]; exact Nat.mod_eq_of_lt (by omega)
theorem wrap8 (n : Int) : IntKind.u8.wrap n = n % 256 := by simp [IntKind.wrap, IntKind.signed, IntKind.bits]
theorem xor8_lt {a b : Nat} (ha : a < 256) (hb : b < 256) : a ^^^ b < 256 := by
  have := @Nat.xor_lt_two_pow a b 8 (by omega) (by omega)
  omega
theorem xor8 (a b : Nat) (ha : a < 256) (hb : b < 256) : bits .xor .u8 (a : Int) (b : Int) = ((a ^^^ b : Nat) : Int) := by
  have hx := xor8_lt ha hb
  show IntKind.u8.wrap ((BitVec.ofInt 8 (a : Int) ^^^ BitVec.ofInt 8 (b : Int)).toNat : Int) = _
  rw [BitVec.toNat_xor, ofInt8 a ha, ofInt8 b hb, wrap8]
  omega

/-- The table lies at block b. -/
def TabIn (w : World) (b : Nat) : Prop := ∀ i, i < 256 → w.cell? ⟨b, i, none⟩ = some (.int .u32 (e8 i : Nat))
theorem tabIn_of {w : World} {b : Nat} {t : TypeId} {fr : Nat × Nat} (h : w.heap[b]? = some (.cells (tabA 256) t fr)) : TabIn w b := fun i hi => by
  rw [cells_of h, tabA_at hi hi]

/-- The bytes xs lie where the slice says. -/
def BytesAt (w : World) (v : Value) (xs : List Nat) : Prop :=
  (xs = [] ∧ ∃ a c, v = .slice a 0 c) ∨ ∃ b o c, v = .slice (some ⟨b, o, none⟩) xs.length c ∧ ∀ i, i < xs.length → w.cell? ⟨b, o + i, none⟩ = some (.int .u8 (xs.getD i 0 : Nat))

/-- The index that More takes. -/
def ix (c x : Nat) : Nat := (c % 256) ^^^ x
theorem ix_lt (c : Nat) {x : Nat} (hx : x < 256) : ix c x < 256 := xor8_lt (by omega) hx
theorem ix_bits (c x : Nat) (hx : x < 256) : bits .xor .u8 ((c : Int) % 256) (x : Int) = (ix c x : Nat) := by
  have := xor8 (c % 256) x (by omega) hx
  unfold ix
  rw [← this]
  rfl
theorem nx_bits (c x : Nat) (hc : c < 4294967296) (hx : x < 256) : bits .xor .u32 ((e8 (ix c x) : Nat) : Int) ((c : Int) / 256) = (nx c x : Nat) := by
  have h1 := e8_lt (c := ix c x) (by have := ix_lt c hx; omega)
  have := xor32 (e8 (ix c x)) (c / 256) h1 (by omega)
  rw [← tab_step c x]
  unfold ix at this ⊢
  rw [← this]
  rfl

theorem tn_bits (c : Nat) (hc : c < 4294967296) : bits .xor .u32 IntKind.u32.max (c : Int) = (tn c : Nat) := by
  have h1 : IntKind.u32.max = ((4294967295 : Nat) : Int) := by decide
  rw [h1, xor32 _ _ (by omega) hc, Nat.xor_comm, ← tn_xor hc]
theorem go_take {c : Nat} {xs : List Nat} {k : Nat} (h : k < xs.length) : go c (xs.take (k + 1)) = nx (go c (xs.take k)) (xs.getD k 0) := by
  rw [List.take_add_one, go_append, List.getD_eq_getElem?_getD, List.getElem?_eq_getElem h]
  rfl
theorem getD_mem_lt {xs : List Nat} (hx : ∀ x ∈ xs, x < 256) {k : Nat} (h : k < xs.length) : xs.getD k 0 < 256 := by
  rw [List.getD_eq_getElem?_getD, List.getElem?_eq_getElem h]
  exact hx _ (List.getElem_mem h)
theorem take_mem_lt {xs : List Nat} (hx : ∀ x ∈ xs, x < 256) (k : Nat) : ∀ x ∈ xs.take k, x < 256 := fun x h => hx x (List.mem_of_mem_take h)

theorem more_none (b : Nat) (c : Nat) (hc : c < 4294967296) (a : Option Addr) (c2 : Nat) (w : World) :
    Calls Tryd.prog 8 #[.pointer (some ⟨b, 0, none⟩), .int .u32 (c : Int), .slice a 0 c2] w fun e w' => e = .returned (.int .u32 (mr c [] : Nat)) ∧ w' = w := by
  have h1 := tn_bits c hc
  have h2 := tn_bits (tn c) (tn_lt c)
  go_enter Tryd.func8, Tryd.ntmps8
  go_wp2_with fail
  go_loop [1, 13] (fun x i => i = .int .i64 0 ∧ x = .int .u32 (tn c : Nat)) (fun _ i => (intOf i).toNat)
  case atStart => exact ⟨rfl, rfl⟩
  case round =>
    obtain ⟨rfl, rfl⟩ := hrel
    go_wp2
    go_ret
    exact ⟨rfl, rfl⟩

theorem more_some (b : Nat) (c : Nat) (hc : c < 4294967296) (bb o c2 : Nat) (xs : List Nat) (w : World) (ht : TabIn w b) (hcell : ∀ i, i < xs.length → w.cell? ⟨bb, o + i, none⟩ = some (.int .u8 (xs.getD i 0 : Nat))) (hx : ∀ x ∈ xs, x < 256) (hl : xs.length ≤ 9223372036854775807) :
    Calls Tryd.prog 8 #[.pointer (some ⟨b, 0, none⟩), .int .u32 (c : Int), .slice (some ⟨bb, o, none⟩) xs.length c2] w fun e w' => e = .returned (.int .u32 (mr c xs : Nat)) ∧ w' = w := by
  have h1 := tn_bits c hc
  have HT : Hid (TabIn w b) := ht
  have HC : Hid (∀ i, i < xs.length → w.cell? ⟨bb, o + i, none⟩ = some (.int .u8 (xs.getD i 0 : Nat))) := hcell
  have HX : Hid (∀ x ∈ xs, x < 256) := hx
  clear ht hcell hx
  obtain ⟨n, hn⟩ : ∃ n, n = xs.length := ⟨_, rfl⟩
  rw [← hn] at hl ⊢
  have HN : Hid (n = xs.length) := hn
  clear hn
  go_enter Tryd.func8, Tryd.ntmps8
  go_wp2_with fail
  go_loop [1, 13] (fun x i => ∃ k : Nat, k ≤ n ∧ i = .int .i64 k ∧ x = .int .u32 (go (tn c) (xs.take k) : Nat)) (fun _ i => n - (intOf i).toNat)
  case atStart => exact ⟨0, by omega, rfl, rfl⟩
  case round =>
    obtain ⟨k, hk, rfl, rfl⟩ := hrel
    have hd : go (tn c) (xs.take k) < 4294967296 := go_lt _ (tn_lt c) (take_mem_lt HX.out k)
    obtain ⟨d, hd'⟩ : ∃ d, d = go (tn c) (xs.take k) := ⟨_, rfl⟩
    rw [← hd'] at hd ⊢
    have HD : Hid (d = go (tn c) (xs.take k)) := hd'
    clear hd'
    by_cases hlt : (k : Int) < (n : Int)
    · have hk2 : k < xs.length := by have := HN.out; omega
      obtain ⟨x, hxe⟩ : ∃ x, x = xs.getD k 0 := ⟨_, rfl⟩
      have hx256 : x < 256 := by rw [hxe]; exact getD_mem_lt HX.out hk2
      have hc1 := HC.out k hk2
      rw [← hxe] at hc1
      have HXE : Hid (x = xs.getD k 0) := hxe
      clear hxe
      have hc2 := HT.out (ix d x) (ix_lt d hx256)
      have hi1 := ix_bits d x hx256
      have hi2 : ((ix d x : Nat) : Int) < 256 := by have := ix_lt d hx256; omega
      have hn1 := nx_bits d x hd hx256
      have HK : Hid (k < xs.length) := hk2
      clear hk2
      go_wp2
      go_round
      case rel => exact ⟨k + 1, by omega, by go_num, by rw [go_take HK.out, ← HD.out, ← HXE.out]⟩
      case measure => simp [intOf]; omega
    · have h2 := tn_bits d hd
      go_wp2
      go_ret
      refine ⟨ret_int ?_, rfl⟩
      have hkn : k = xs.length := by have := HN.out; omega
      rw [HD.out, hkn, List.take_length]
      rfl

theorem more_c (b : Nat) (c : Nat) (hc : c < 4294967296) (v : Value) (xs : List Nat) (w : World) (ht : TabIn w b) (hv : BytesAt w v xs) (hx : ∀ x ∈ xs, x < 256) (hl : xs.length ≤ 9223372036854775807) :
    Calls Tryd.prog 8 #[.pointer (some ⟨b, 0, none⟩), .int .u32 (c : Int), v] w fun e w' => e = .returned (.int .u32 (mr c xs : Nat)) ∧ w' = w := by
  rcases hv with ⟨rfl, a, c2, rfl⟩ | ⟨bb, o, c2, rfl, hcell⟩
  · exact more_none b c hc a c2 w
  · exact more_some b c hc bb o c2 xs w ht hcell hx hl

theorem sum_c (b : Nat) (v : Value) (xs : List Nat) (w : World) (ht : TabIn w b) (hv : BytesAt w v xs) (hx : ∀ x ∈ xs, x < 256) (hl : xs.length ≤ 9223372036854775807) :
    Calls Tryd.prog 6 #[.pointer (some ⟨b, 0, none⟩), v] w fun e w' => e = .returned (.int .u32 (mr 0 xs : Nat)) ∧ w' = w := by
  have hm := more_c b 0 (by omega) v xs w ht hv hx hl
  go_enter Tryd.func6, Tryd.ntmps6
  go_wp2_with (go_at_call 8; refine hm.mono ?_; rintro e w' ⟨rfl, rfl⟩)
  go_ret
  exact ⟨rfl, rfl⟩
end Go.Proofs.YtgdhdaaeklfkgaaDoor
