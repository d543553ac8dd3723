/- What is found, whatever the level. -/
import Derived.Test.YtlakgbckopjelabDoorG27MOpen
namespace Go.Proofs.YtlakgbckopjelabDoor.M
set_option maxRecDepth 100000
open Go Go.RowKit

/-- What is found, whatever the level. -/
theorem FindOk.all {zs : List Int} {lv : Int} {w : World} {e : Ending} {w' : World} (h : FindOk zs lv w e w') (hz : ∀ i, 0 ≤ ln zs i ∧ ln zs i ≤ 255) : ∃ a cap xs, e = .returned (.slice a xs.length cap) ∧ Toks w' a xs ∧ Below w.heap.size w w' ∧ Rt xs ∧ Bt xs ∧ tel xs = zs ∧ xs.length ≤ zs.length ∧ (1 ≤ lv → FdTo zs zs.length xs ∧ FndAll zs lv xs) ∧ OwnsT w' w.heap.size (.slice a xs.length cap) xs := by
  obtain ⟨a, cap, xs, he, ho, hb, h0, h1⟩ := h
  obtain ⟨_, _, hv, htk, _, _, _⟩ := ho.form
  simp only [Value.slice.injEq] at hv
  obtain ⟨rfl, _, rfl⟩ := hv
  by_cases hlv : lv < 1
  · obtain rfl := h0 hlv
    exact ⟨_, _, _, he, htk, hb, alT_rt zs, alT_bt hz, alT_tell zs, by rw [alT_length]; exact Nat.le_refl _, h1, ho⟩
  · have hf := (h1 (by omega)).1
    exact ⟨_, _, _, he, htk, hb, hf.rt, hf.bt, by rw [hf.tell, List.take_length], hf.many, h1, ho⟩

end Go.Proofs.YtlakgbckopjelabDoor.M
