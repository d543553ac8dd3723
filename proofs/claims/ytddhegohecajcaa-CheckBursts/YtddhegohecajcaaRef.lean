/- PROVED: the reference's More and Sum answer what More and Sum answer; the world is as it was. -/
import Derived.Test.YtddhegohecajcaaMore
namespace Go.Proofs.Ytddhegohecajcaa
open Go Go.RowKit

theorem tn_sub (c : Nat) (hc : c < 4294967296) : 4294967295 - (c : Int) = (tn c : Nat) := by unfold tn; omega
def xr (a b : Nat) : Nat := a ^^^ b
theorem xr_bits (a b : Nat) (ha : a < 4294967296) (hb : b < 256) : bits .xor .u32 (a : Int) (b : Int) = (xr a b : Nat) := xor32 a b ha (by omega)

theorem refMore_none (c : Nat) (hc : c < 4294967296) (a : Option Addr) (c2 : Nat) (w : World) :
    Calls Try.prog 14 #[.int .u32 (c : Int), .slice a 0 c2] w fun e w' => e = .returned (.int .u32 (mr c [] : Nat)) ∧ w' = w := by
  have h1 := tn_sub c hc
  have h2 := tn_sub (tn c) (tn_lt c)
  go_enter Try.func14, Try.ntmps14
  go_wp2_with fail
  go_loop [0, 5] (fun x i => i = .int .i64 0 ∧ x = .int .u32 (tn c : Nat)) (fun _ i => (intOf i).toNat)
  case atStart => exact ⟨rfl, rfl⟩
  case round =>
    obtain ⟨rfl, rfl⟩ := hrel
    go_wp2
    go_ret
    exact ⟨rfl, rfl⟩

theorem refMore_some (c : Nat) (hc : c < 4294967296) (bb o c2 : Nat) (xs : List Nat) (w : World) (hcell : ∀ i, i < xs.length → w.cell? ⟨bb, o + i, none⟩ = some (.int .u8 (xs.getD i 0 : Nat))) (hx : ∀ x ∈ xs, x < 256) (hl : xs.length ≤ 9223372036854775807) :
    Calls Try.prog 14 #[.int .u32 (c : Int), .slice (some ⟨bb, o, none⟩) xs.length c2] w fun e w' => e = .returned (.int .u32 (mr c xs : Nat)) ∧ w' = w := by
  have h1 := tn_sub c hc
  have HC : Hid (∀ i, i < xs.length → w.cell? ⟨bb, o + i, none⟩ = some (.int .u8 (xs.getD i 0 : Nat))) := hcell
  have HX : Hid (∀ x ∈ xs, x < 256) := hx
  clear hcell hx
  obtain ⟨n, hn⟩ : ∃ n, n = xs.length := ⟨_, rfl⟩
  rw [← hn] at hl ⊢
  have HN : Hid (n = xs.length) := hn
  clear hn
  go_enter Try.func14, Try.ntmps14
  go_wp2_with fail
  go_loop [0, 5] (fun x i => ∃ k : Nat, k ≤ n ∧ i = .int .i64 k ∧ x = .int .u32 (go (tn c) (xs.take k) : Nat)) (fun _ i => n - (intOf i).toNat)
  case atStart => exact ⟨0, by omega, rfl, rfl⟩
  case round =>
    obtain ⟨k, hk, rfl, rfl⟩ := hrel
    have hd : go (tn c) (xs.take k) < 4294967296 := go_lt _ (tn_lt c) (take_mem_lt HX.out k)
    obtain ⟨d, hd'⟩ : ∃ d, d = go (tn c) (xs.take k) := ⟨_, rfl⟩
    rw [← hd'] at hd ⊢
    have HD : Hid (d = go (tn c) (xs.take k)) := hd'
    clear hd'
    by_cases hlt : (k : Int) < (n : Int)
    · have hk2 : k < xs.length := by have := HN.out; omega
      obtain ⟨x, hxe⟩ : ∃ x, x = xs.getD k 0 := ⟨_, rfl⟩
      have hx256 : x < 256 := by rw [hxe]; exact getD_mem_lt HX.out hk2
      have hc1 := HC.out k hk2
      rw [← hxe] at hc1
      have HXE : Hid (x = xs.getD k 0) := hxe
      clear hxe
      have hw1 : (x : Int) % 4294967296 = (x : Int) := by omega
      have hn1 := xr_bits d x hd hx256
      have HK : Hid (k < xs.length) := hk2
      clear hk2
      go_wp2_with (go_at_call 10; refine (refEight_c (xr d x) (xor_lt hd (by omega)) _).mono ?_; rintro e w' ⟨rfl, rfl⟩)
      go_round
      case rel => exact ⟨k + 1, by omega, by go_num, by rw [go_take HK.out, ← HD.out, ← HXE.out]; rfl⟩
      case measure => simp [intOf]; omega
    · have h2 := tn_sub d hd
      go_wp2
      go_ret
      refine ⟨ret_int ?_, rfl⟩
      have hkn : k = xs.length := by have := HN.out; omega
      rw [HD.out, hkn, List.take_length]
      rfl

theorem refMore_c (c : Nat) (hc : c < 4294967296) (v : Value) (xs : List Nat) (w : World) (hv : BytesAt w v xs) (hx : ∀ x ∈ xs, x < 256) (hl : xs.length ≤ 9223372036854775807) :
    Calls Try.prog 14 #[.int .u32 (c : Int), v] w fun e w' => e = .returned (.int .u32 (mr c xs : Nat)) ∧ w' = w := by
  rcases hv with ⟨rfl, a, c2, rfl⟩ | ⟨bb, o, c2, rfl, hcell⟩
  · exact refMore_none c hc a c2 w
  · exact refMore_some c hc bb o c2 xs w hcell hx hl

theorem refSum_c (v : Value) (xs : List Nat) (w : World) (hv : BytesAt w v xs) (hx : ∀ x ∈ xs, x < 256) (hl : xs.length ≤ 9223372036854775807) :
    Calls Try.prog 12 #[v] w fun e w' => e = .returned (.int .u32 (mr 0 xs : Nat)) ∧ w' = w := by
  have hm := refMore_c 0 (by omega) v xs w hv hx hl
  go_enter Try.func12, Try.ntmps12
  go_wp2_with (go_at_call 14; refine hm.mono ?_; rintro e w' ⟨rfl, rfl⟩)
  go_ret
  exact ⟨rfl, rfl⟩
end Go.Proofs.Ytddhegohecajcaa
