/- Cost: what it tells, for whatever numbers. -/
import Derived.Test.YtdeigchkpakdaaaLOwn
import Derived.Deep.DeepCutAuto
import Derived.Deep.RegionWith
namespace Go.Proofs.Ytdeigchkpakdaaa
open Go Go.RowKit

/-- The sum, as int reckons it. -/
def cw (A B : List Int) : Nat → Int
  | 0 => 0
  | n + 1 => wrap64 (cw A B n + wrap64 (ln A n * ln B n))
theorem wrap_bd (x : Int) : -9223372036854775808 ≤ wrap64 x ∧ wrap64 x ≤ 9223372036854775807 := by
  unfold wrap64; omega
theorem cw_bd (A B : List Int) (n : Nat) : -9223372036854775808 ≤ cw A B n ∧ cw A B n ≤ 9223372036854775807 := by
  cases n with
  | zero => simp [cw]
  | succ n => rw [cw]; exact wrap_bd _

set_option maxHeartbeats 1000000 in
set_option maxRecDepth 100000 in
theorem cost_c (lo hi lo' hi' : Nat) (a b : Option Addr) (cap cap' : Nat) (A B : List Int) (w : World) (hA : Ints lo hi w a A) (hB : Ints lo' hi' w b B) (hla : A.length ≤ 17592186043904) :
    Calls Try.prog 14 #[.slice a A.length cap, .slice b B.length cap'] w fun e w' => e = .returned (.int .i64 (cw A B (min A.length B.length))) ∧ ∃ q, w' = w.drewN q := by
  have HA := hide hA
  have HB := hide hB
  clear hA hB
  obtain ⟨N, hN⟩ : ∃ N, min A.length B.length = N := ⟨_, rfl⟩
  have hN' : min (A.length : Int) (B.length : Int) = (N : Int) := by omega
  have hNA : N ≤ A.length := by omega
  have hNB : N ≤ B.length := by omega
  rw [hN]
  clear hN
  go_enter Try.func14, Try.ntmps14
  go_upto_region 2 with fail
  go_cut [11, 12] (fun v11 v12 wx => v11 = .int .i64 N ∧ v12 = .int .i64 0 ∧ w = wx)
  case first =>
    go_wp2_with fail
    all_goals go_meet
    all_goals exact ⟨congrArg (Value.int .i64) (by omega), rfl, rfl⟩
  case rest =>
    obtain ⟨rfl, rfl, rfl⟩ := hcut
    go_wp2_with fail
    go_loopg [5, 12] N (fun gk v5 v12 wx => ∃ i q : Nat, i + gk = N ∧ v12 = .int .i64 i ∧ v5 = .int .i64 (cw A B i) ∧ wx = w.drewN q)
    case atStart => exact ⟨0, 0, by omega, rfl, rfl, rfl⟩
    case round =>
      obtain ⟨i, q, hig, rfl, rfl, rfl⟩ := hrel
      cases gk with
      | zero =>
        obtain rfl : i = N := by omega
        go_wp2_with fail
        go_ret
        exact ⟨rfl, q, rfl⟩
      | succ g1 =>
        have hlt : (i : Int) < (N : Int) := by omega
        obtain ⟨ba, oa, _, _, hba, rfl, hca⟩ := HA.out.resolve_left (by omega)
        obtain ⟨bb, ob, _, _, hbb, rfl, hcb⟩ := HB.out.resolve_left (by omega)
        have ca : (w.drewN q).cell? ⟨ba, oa + i, none⟩ = some (.int .i64 (ln A i)) := hca i (by omega)
        have cb : (w.drewN q).cell? ⟨bb, ob + i, none⟩ = some (.int .i64 (ln B i)) := hcb i (by omega)
        have hla1 : (i : Int) < (A.length : Int) := by omega
        have hlb1 : (i : Int) < (B.length : Int) := by omega
        have hcw : cw A B (i + 1) = wrap64 (cw A B i + wrap64 (ln A i * ln B i)) := rfl
        have HCW := hide hcw
        have bd := cw_bd A B i
        clear hca hcb hcw
        generalize ln A i = X at ca HCW
        generalize ln B i = Y at cb HCW
        generalize cw A B i = C at HCW bd ⊢
        generalize hwq : w.drewN q = wq at ca cb ⊢
        have HWQ := hide hwq
        clear hwq
        go_wp2_with fail
        go_region
        go_wp2_with fail
        go_roundg g1
        case measure => omega
        case rel => exact ⟨i + 1, q + 1, by omega, by go_num, by rw [HCW.out], by rw [← HWQ.out]; rfl⟩
end Go.Proofs.Ytdeigchkpakdaaa
