/- sort.Search, of a closure that lays blocks of its own: contract. -/
import Derived.Test.YtlfffpgokemjbabUWq
import Derived.Shelf.Abstract
namespace Go.Proofs.Ytlfffpgokemjbab.U
set_option maxRecDepth 100000
open Go Go.RowKit
set_option linter.unusedVariables false
/-- The place that is told: the one ahead does not hold, its own does. -/
def SeOk (n : Nat) (p : Nat → Bool) (w : World) (e : Ending) (w' : World) : Prop := ∃ c : Nat, e = .returned (.int .i64 (c : Int)) ∧ c ≤ n ∧ (c = 0 ∨ p (c - 1) = false) ∧ (c = n ∨ p c = true) ∧ Below w.heap.size w w'
/-- A closure that says p. -/
def SayS (P : Program) (g : Nat) (cb : Array Value) (n : Nat) (p : Nat → Bool) (w : World) : Prop := ∀ W, Below w.heap.size w W → ∀ i, i < n → Calls P g (#[.int .i64 (i : Int)] ++ cb) W fun e w' => e = .returned (.bool (p i)) ∧ Below W.heap.size W w'
set_option maxHeartbeats 4000000 in
theorem search_any {P : Program} (fn : P.funcs[23]? = some Try.f23)
    (t3 : P.underlying 3 = some (TypeDesc.int IntKind.i64)) (a3 : ∀ w, (isAgg 3).run P w = .ok false w) (z3 : ∀ w, (Go.sizeOf 3).run P w = .ok 1 w) (v3 : ∀ w, (zeroValue 3).run P w = .ok (Value.int IntKind.i64 0) w)
    (t4 : P.underlying 4 = some (TypeDesc.bool)) (a4 : ∀ w, (isAgg 4).run P w = .ok false w) (z4 : ∀ w, (Go.sizeOf 4).run P w = .ok 1 w) (v4 : ∀ w, (zeroValue 4).run P w = .ok (Value.bool false) w)
    (t35 : P.underlying 47 = some (TypeDesc.func #[3] #[4] false)) (a35 : ∀ w, (isAgg 47).run P w = .ok false w) (z35 : ∀ w, (Go.sizeOf 47).run P w = .ok 1 w) (v35 : ∀ w, (zeroValue 47).run P w = .ok (Value.nilFunc) w)
    (t38 : P.underlying 57 = some (TypeDesc.int IntKind.u64)) (a38 : ∀ w, (isAgg 57).run P w = .ok false w) (z38 : ∀ w, (Go.sizeOf 57).run P w = .ok 1 w) (v38 : ∀ w, (zeroValue 57).run P w = .ok (Value.int IntKind.u64 0) w)
    (g : Nat) (cb : Array Value) (n : Nat) (p : Nat → Bool) (w : World) (eg : ∀ args w, (callFunc g args).run P w = .ok (.enter g args) w) (hn : n ≤ 100000) (hs : SayS P g cb n p w) :
    Calls P 23 #[.int .i64 (n : Int), .func (.func g) #[] cb] w (SeOk n p w) := by
  have u3 := run_underlying t3; have u4 := run_underlying t4; have u35 := run_underlying t35; have u38 := run_underlying t38
  have HS := hide hs
  clear hs
  have HP : Hid (∀ c w', c ≤ n → (c = 0 ∨ p (c - 1) = false) → (c = n ∨ p c = true) → Below w.heap.size w w' → SeOk n p w (.returned (.int .i64 (c : Int))) w') := hide fun c w' a b d f => ⟨c, rfl, a, b, d, f⟩
  go_enter fn, Try.ntmps23
  go_wp2_with fail
  go_loopg [5, 6] n (fun gk u5 u6 wx => ∃ lo hi : Nat, u5 = .int .i64 (lo : Int) ∧ u6 = .int .i64 (hi : Int) ∧ lo ≤ hi ∧ hi ≤ n ∧ hi - lo ≤ gk ∧ Hid ((lo = 0 ∨ p (lo - 1) = false) ∧ (hi = n ∨ p hi = true)) ∧ Hid (Below w.heap.size w wx))
  case atStart => exact ⟨0, n, rfl, rfl, Nat.zero_le _, Nat.le_refl _, by omega, hide ⟨.inl rfl, .inl rfl⟩, hide (Below.refl _ _)⟩
  case round =>
    obtain ⟨lo, hi, rfl, rfl, hlh, hin, hg, I, BX⟩ := hrel
    by_cases hlt : lo < hi
    · have hlt' : (lo : Int) < (hi : Int) := by omega
      have hc := HS.out _ BX.out ((lo + hi) / 2) (by omega)
      rw [show (((lo + hi) / 2 : Nat) : Int) = ((lo : Int) + (hi : Int)) / 2 by omega] at hc
      cases hp : p ((lo + hi) / 2) <;> rw [hp] at hc
      · have HQ := hide hp
        have HC := hide hc
        clear hp hc
        go_wp2_with (go_at_fn g; refine HC.out.mono ?_; rintro e w1 ⟨rfl, hw⟩; have B1 := hide hw; clear hw HC)
        go_roundg (hi - ((lo + hi) / 2 + 1))
        case measure => omega
        case rel => exact ⟨(lo + hi) / 2 + 1, hi, by rw [show ((lo : Int) + (hi : Int)) / 2 + 1 = (((lo + hi) / 2 + 1 : Nat) : Int) by omega], rfl, by omega, hin, Nat.le_refl _, hide ⟨.inr (by simpa using HQ.out), I.out.2⟩, hide (BX.out.trans (B1.out.mono BX.out.size))⟩
      · have HQ := hide hp
        have HC := hide hc
        clear hp hc
        go_wp2_with (go_at_fn g; refine HC.out.mono ?_; rintro e w1 ⟨rfl, hw⟩; have B1 := hide hw; clear hw HC)
        go_roundg ((lo + hi) / 2 - lo)
        case measure => omega
        case rel => exact ⟨lo, (lo + hi) / 2, rfl, by rw [show ((lo : Int) + (hi : Int)) / 2 = (((lo + hi) / 2 : Nat) : Int) by omega], by omega, by omega, Nat.le_refl _, hide ⟨I.out.1, .inr HQ.out⟩, hide (BX.out.trans (B1.out.mono BX.out.size))⟩
    · obtain rfl : hi = lo := by omega
      have hge : ¬ (hi : Int) < (hi : Int) := by omega
      go_wp2_with fail
      go_ret
      exact HP.out hi _ hin I.out.1 I.out.2 BX.out
theorem search_c (g : Nat) (cb : Array Value) (n : Nat) (p : Nat → Bool) (w : World) (eg : ∀ args w, (callFunc g args).run Try.prog w = .ok (.enter g args) w) (hn : n ≤ 100000) (hs : SayS Try.prog g cb n p w) :
    Calls Try.prog 23 #[.int .i64 (n : Int), .func (.func g) #[] cb] w (SeOk n p w) :=
  search_any Try.func23 Try.underlying3 (fun _ => by kernel_rfl) (fun _ => by kernel_rfl) (fun _ => by kernel_rfl) Try.underlying4 (fun _ => by kernel_rfl) (fun _ => by kernel_rfl) (fun _ => by kernel_rfl)
    Try.underlying47 (fun _ => by kernel_rfl) (fun _ => by kernel_rfl) (fun _ => by kernel_rfl) Try.underlying57 (fun _ => by kernel_rfl) (fun _ => by kernel_rfl) (fun _ => by kernel_rfl) g cb n p w eg hn hs
end Go.Proofs.Ytlfffpgokemjbab.U
