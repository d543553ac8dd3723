/- The program's Sort: its closure, what its swaps do, contract. -/
import Derived.Test.YtlfffpgokemjbaaSStb
import Derived.Test.YtlfffpgokemjbaaSPth
import Derived.Test.YtlfffpgokemjbaaVCop
namespace Go.Proofs.Ytlfffpgokemjbaa.U
set_option maxRecDepth 100000
open Go Go.RowKit
open Go.Proofs.Ytlfffpgokemjbaa.O
set_option linter.unusedVariables false
theorem wp_region_drew {P : Program} {id : Nat} {Q : Exit → Act → World → Prop} {a : Act} {w : World} {l : List Oper} (hm : P.follows .mixedOrders = true) (hB : Region.lexB .any l.toArray = true)
    (h : WQ P l.toArray (fun w' => ∃ n : Nat, w' = w.drewN n) (fun a' => ∀ w', (∃ n : Nat, w' = w.drewN n) → Q .normal a' w') l a) : (Code.region id l.toArray true).wp P Q a w :=
  wp_region_quiet (C := fun w' => ∃ n : Nat, w' = w.drewN n) hm hB ⟨1, rfl⟩ (by simpa using h.out)
theorem lss_c (t : TypeId) (a b : ByteArray) : binOp .lss t (.string a) (.string b) = pure (.bool (Op.bytesLess a.toList b.toList)) := by simp [binOp, Op.stringOp]
set_option maxHeartbeats 4000000 in
set_option maxRecDepth 100000 in
theorem sort1_c (B g n : Nat) (ms : List En) (i j : Nat) (mi mj : En) (w : World) (hB : w.cell? ⟨B, 0, none⟩ = some (.slice (some ⟨g, 0, none⟩) n n)) (hE : Er g ms w) (hi : ms[i]? = some mi) (hj : ms[j]? = some mj) (hn : ms.length = n) (hl : n ≤ 1000000000) :
    Calls Try.prog 30 #[.int .i64 i, .int .i64 j, .pointer (some ⟨B, 0, none⟩)] w fun e w' => e = .returned (.bool (gtB mj.path mi.path)) ∧ ∃ q, w' = w.drewN q := by
  have ci : w.cell? ⟨g, i * 6 + 1, none⟩ = some (.string mi.path) := hE.cell hi (j := 1) rfl
  have cj : w.cell? ⟨g, j * 6 + 1, none⟩ = some (.string mj.path) := hE.cell hj (j := 1) rfl
  have hi1 := (List.getElem?_eq_some_iff.1 hi).1
  have hj1 := (List.getElem?_eq_some_iff.1 hj).1
  have hi2 : (i : Int) < (n : Int) := by omega
  have hj2 : (j : Int) < (n : Int) := by omega
  have hlI : (n : Int) ≤ 1000000000 := by omega
  obtain ⟨b, hb⟩ : ∃ b, gtB mj.path mi.path = b := ⟨_, rfl⟩
  have hb2 : Op.bytesLess mi.path.toList mj.path.toList = b := by
    rw [← hb]
    have := gt_iff (a := mj.path) (b := mi.path)
    cases h : gtB mj.path mi.path <;> cases h2 : Op.bytesLess mi.path.toList mj.path.toList <;> simp_all
  have hls := lss_c 9 mi.path mj.path
  rw [hb2] at hls
  rw [hb]
  clear hb hb2 hE hi hj hn hl hi1 hj1
  generalize mi.path = pi at *
  generalize mj.path = pj at *
  go_enter Try.func30, Try.ntmps30
  go_upto_region 1 with fail
  refine wp_region_drew (by kernel_rfl) (by kernel_rfl) ?_
  repeat (refine WQ.step (fun K hK => ?_); go_simp; first | (refine hK _ ?_; clear hK K))
  refine WQ.nil ?_
  rintro w3 ⟨q, rfl⟩
  go_wp2_with fail
  go_ret
  exact ⟨rfl, q, rfl⟩
end Go.Proofs.Ytlfffpgokemjbaa.U
