/- What both tell alike; the laws' short: contracts. -/
import Derived.Test.YtgamfpgejkhbcaaDoorNG3
import Derived.Test.YtgamfpgejkhbcaaDoorQOpen
namespace Go.Proofs.YtgamfpgejkhbcaaDoor.S
set_option maxRecDepth 100000
open Go Go.RowKit

/-- An answer: bytes, and an error. -/
def TelRes (zs : List Nat) (er : Int) (w : World) (e : Ending) (w' : World) : Prop := ∃ a c, e = .returned (.tuple #[.slice a zs.length c, .int .i64 er]) ∧ TextAt w' a zs ∧ Below w.heap.size w w'
theorem TelRes.own {zs : List Nat} {w w' : World} {base : Nat} {v : Value} (ho : OwnsB w' base v zs) (hb : Below w.heap.size w w') : TelRes zs 0 w (.returned (.tuple #[v, .int .i64 0])) w' := by
  obtain ⟨x, c, rfl, _⟩ := OwnsB.form ho
  exact ⟨x, c, rfl, OwnsB.text ho, hb⟩
theorem TelRes.none {er : Int} {w w' : World} (hb : Below w.heap.size w w') : TelRes [] er w (.returned (.tuple #[.slice none 0 0, .int .i64 er])) w' := ⟨Option.none, 0, rfl, .inl rfl, hb⟩
theorem short_yes (a b : Option Addr) (la ca lb cb : Nat) (w : World) (h1 : la ≤ 2000) (h2 : lb ≤ 2000) : Calls Tryd.prog 9 #[.slice a la ca, .slice b lb cb] w fun e w' => e = .returned (.bool true) ∧ w' = w := by
  have h3 : decide ((la : Int) ≤ 2000) = true := decide_eq_true (by omega)
  have h4 : decide ((lb : Int) ≤ 2000) = true := decide_eq_true (by omega)
  go_enter Tryd.func9, Tryd.ntmps9
  go_wp2_with fail
  go_ret
  exact ⟨by simp, rfl⟩
theorem short_no (a b : Option Addr) (la ca lb cb : Nat) (w : World) (h : ¬ (la ≤ 2000 ∧ lb ≤ 2000)) : Calls Tryd.prog 9 #[.slice a la ca, .slice b lb cb] w fun e w' => e = .returned (.bool false) ∧ w' = w := by
  by_cases h1 : la ≤ 2000
  · have h2 : ¬ lb ≤ 2000 := fun q => h ⟨h1, q⟩
    have h3 : decide ((lb : Int) ≤ 2000) = false := decide_eq_false (by omega)
    clear h
    go_enter Tryd.func9, Tryd.ntmps9
    go_wp2_with fail
    go_ret
    exact ⟨by simp, rfl⟩
  · have h3 : decide ((la : Int) ≤ 2000) = false := decide_eq_false (by omega)
    clear h
    go_enter Tryd.func9, Tryd.ntmps9
    go_wp2_with fail
    go_ret
    exact ⟨by simp, rfl⟩
end Go.Proofs.YtgamfpgejkhbcaaDoor.S
