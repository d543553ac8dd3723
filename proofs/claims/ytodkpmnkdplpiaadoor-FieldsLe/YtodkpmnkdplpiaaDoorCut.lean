/- PROVED: strings.Cut at a point. -/
import Derived.Test.YtodkpmnkdplpiaaDoorFmt
import Derived.Test.YtodkpmnkdplpiaaDoorStr
import Derived.Deep.RegionHeld3
import Derived.Deep.DeepFit
namespace Go.Proofs.YtodkpmnkdplpiaaDoor
open Go Go.RowKit
set_option linter.unusedVariables false

set_option maxRecDepth 100000 in
theorem slCut_yes (s : ByteArray) (hs : s.size ≤ 9223372036854775807) (i : Nat) (hi : Lib.indexByte s.data.toList 46 = (i : Int)) (hlt : i < s.size) (w : World) :
    Calls Tryd.prog 57 #[.string s, .string ⟨#[46]⟩] w fun e w' => e = .returned (.tuple #[.string (s.extract 0 i), .string (s.extract (i + 1) s.size), .bool true]) ∧ Below w.heap.size w w' := by
  have hX := sh_stringslite_Index_one s 46
  have c1 : (0 : Int) ≤ ↑i := by omega
  have c2 : (↑i : Int) ≤ ↑s.size := by omega
  have c3 : IntKind.i64.wrap ((i : Int) + 1) = (i : Int) + 1 := by rw [IntKind.wrap_i64]; omega
  have c4 : ((i : Int) + 1) ≤ ↑s.size := by omega
  have c5 : (0 : Int) ≤ ↑i + 1 := by omega
  have c6 : ((i : Int) + 1).toNat = i + 1 := by omega
  rw [hi] at hX
  clear hi
  go_enter Tryd.func57, Tryd.ntmps57
  go_wp2_with (go_at_call 72; refine (hX _).mono ?_; rintro e w2 ⟨rfl, rfl⟩)
  go_region
  go_wp2_with fail
  go_ret3
  exact ⟨rfl, (Below.refl _ _).drew⟩

set_option maxRecDepth 100000 in
theorem slCut_no (s : ByteArray) (hi : Lib.indexByte s.data.toList 46 = -1) (w : World) :
    Calls Tryd.prog 57 #[.string s, .string ⟨#[46]⟩] w fun e w' => e = .returned (.tuple #[.string s, .string ⟨#[]⟩, .bool false]) ∧ Below w.heap.size w w' := by
  have hX := sh_stringslite_Index_one s 46
  rw [hi] at hX
  clear hi
  go_enter Tryd.func57, Tryd.ntmps57
  go_wp2_with (go_at_call 72; refine (hX _).mono ?_; rintro e w2 ⟨rfl, rfl⟩)
  go_ret3
  exact ⟨rfl, Below.refl _ _⟩

theorem cut_yes (s : ByteArray) (hs : s.size ≤ 9223372036854775807) (i : Nat) (hi : Lib.indexByte s.data.toList 46 = (i : Int)) (hlt : i < s.size) (w : World) :
    Calls Tryd.prog 37 #[.string s, .string ⟨#[46]⟩] w fun e w' => e = .returned (.tuple #[.string (s.extract 0 i), .string (s.extract (i + 1) s.size), .bool true]) ∧ Below w.heap.size w w' := by
  have h := slCut_yes s hs i hi hlt w
  generalize s.extract 0 i = A at h
  generalize s.extract (i + 1) s.size = B at h
  clear hi
  go_enter Tryd.func37, Tryd.ntmps37
  go_wp2_with (go_at_call 57; refine h.mono ?_; rintro e w2 ⟨rfl, b2⟩)
  go_ret3
  exact ⟨rfl, b2⟩
theorem cut_no (s : ByteArray) (hi : Lib.indexByte s.data.toList 46 = -1) (w : World) :
    Calls Tryd.prog 37 #[.string s, .string ⟨#[46]⟩] w fun e w' => e = .returned (.tuple #[.string s, .string ⟨#[]⟩, .bool false]) ∧ Below w.heap.size w w' := by
  have h := slCut_no s hi w
  clear hi
  go_enter Tryd.func37, Tryd.ntmps37
  go_wp2_with (go_at_call 57; refine h.mono ?_; rintro e w2 ⟨rfl, b2⟩)
  go_ret3
  exact ⟨rfl, b2⟩
end Go.Proofs.YtodkpmnkdplpiaaDoor
