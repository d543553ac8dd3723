/- Cut at a slash; the program's Clean: contracts. -/
import Derived.Test.YtlfffpgokemjbabEVal
import Derived.Deep.RegionHeld3
namespace Go.Proofs.Ytlfffpgokemjbab.E
set_option maxRecDepth 100000
open Go Go.RowKit
set_option linter.unusedVariables false

theorem ib_none : ∀ {l : List UInt8} {c : UInt8}, c ∉ l → Lib.indexByte l c = -1 := by
  intro l c
  induction l with
  | nil => intro _; rfl
  | cons b l ih =>
    intro h
    simp only [List.mem_cons, not_or] at h
    have hb : (b == c) = false := by simpa using fun e => h.1 e.symm
    rw [Lib.indexByte, hb, ih h.2]
    rfl
theorem ib_part : ∀ {p t : List UInt8} {c : UInt8}, c ∉ p → Lib.indexByte (p ++ c :: t) c = (p.length : Int) := by
  intro p t c
  induction p with
  | nil => intro _; rw [List.nil_append, Lib.indexByte]; simp
  | cons b p ih =>
    intro h
    simp only [List.mem_cons, not_or] at h
    have hb : (b == c) = false := by simpa using fun e => h.1 e.symm
    have hn : ((p.length : Int) == -1) = false := by
      rw [beq_eq_false_iff_ne]
      omega
    rw [List.cons_append, Lib.indexByte, hb, ih h.2, hn]
    simp
theorem ib_has {l : List UInt8} {c : UInt8} (h : c ∈ l) : 0 ≤ Lib.indexByte l c := by
  obtain ⟨p, t, rfl, hp⟩ := List.eq_append_cons_of_mem h
  rw [ib_part hp]
  omega
theorem ib_is (l : List UInt8) (c : UInt8) : decide (0 ≤ Lib.indexByte l c) = decide (c ∈ l) := by
  by_cases h : c ∈ l
  · rw [decide_eq_true h, decide_eq_true (ib_has h)]
  · rw [decide_eq_false h, ib_none h]
    rfl
set_option maxRecDepth 100000 in
theorem slCut_yes (s : ByteArray) (hs : s.size ≤ 9223372036854775806) (i : Nat) (hi : Lib.indexByte s.data.toList 47 = (i : Int)) (hlt : i < s.size) (w : World) :
    Calls Try.prog 35 #[.string s, .string ⟨#[47]⟩] w fun e w' => e = .returned (.tuple #[.string (s.extract 0 i), .string (s.extract (i + 1) s.size), .bool true]) ∧ Below w.heap.size w w' := by
  have hX := sh_stringslite_Index_one s 47
  have c1 : (0 : Int) ≤ ↑i := by omega
  have c2 : (↑i : Int) ≤ ↑s.size := by omega
  have c3 : IntKind.i64.wrap ((i : Int) + 1) = (i : Int) + 1 := by rw [IntKind.wrap_i64]; omega
  have c4 : ((i : Int) + 1) ≤ ↑s.size := by omega
  have c5 : (0 : Int) ≤ ↑i + 1 := by omega
  have c6 : ((i : Int) + 1).toNat = i + 1 := by omega
  rw [hi] at hX
  clear hi
  go_enter Try.func35, Try.ntmps35
  go_wp2_with (go_at_call 36; refine (hX _).mono ?_; rintro e w2 ⟨rfl, rfl⟩)
  go_region
  go_wp2_with fail
  go_ret3
  exact ⟨rfl, (Below.refl _ _).drew⟩
set_option maxRecDepth 100000 in
theorem slCut_no (s : ByteArray) (hi : Lib.indexByte s.data.toList 47 = -1) (w : World) :
    Calls Try.prog 35 #[.string s, .string ⟨#[47]⟩] w fun e w' => e = .returned (.tuple #[.string s, .string ⟨#[]⟩, .bool false]) ∧ Below w.heap.size w w' := by
  have hX := sh_stringslite_Index_one s 47
  rw [hi] at hX
  clear hi
  go_enter Try.func35, Try.ntmps35
  go_wp2_with (go_at_call 36; refine (hX _).mono ?_; rintro e w2 ⟨rfl, rfl⟩)
  go_ret3
  exact ⟨rfl, Below.refl _ _⟩
theorem cut_any (s : ByteArray) (a b : ByteArray) (f : Bool) (w : World) (h : Calls Try.prog 35 #[.string s, .string ⟨#[47]⟩] w fun e w' => e = .returned (.tuple #[.string a, .string b, .bool f]) ∧ Below w.heap.size w w') :
    Calls Try.prog 32 #[.string s, .string ⟨#[47]⟩] w fun e w' => e = .returned (.tuple #[.string a, .string b, .bool f]) ∧ Below w.heap.size w w' := by
  go_enter Try.func32, Try.ntmps32
  go_wp2_with (go_at_call 35; refine h.mono ?_; rintro e w2 ⟨rfl, b2⟩)
  go_ret3
  exact ⟨rfl, b2⟩
/-- A text is cut at its first slash: what of its parts stays to be done. -/
theorem cut_c (t : ByteArray) (ht : t.size ≤ 9223372036854775806) (h0 : t.size ≠ 0) : ∃ (P R : List UInt8) (f : Bool), (∀ w, Calls Try.prog 32 #[.string t, .string ⟨#[47]⟩] w fun e w' => e = .returned (.tuple #[.string (tx P), .string (tx R), .bool f]) ∧ Below w.heap.size w w') ∧
    R.length < t.size ∧ P.length + R.length ≤ t.size ∧ (P.length + 1 + R.length ≤ t.size ∨ R = []) ∧
    (P = [46, 46] → ∀ X, cl (spl t.data.toList) X = none) ∧ ((P = [] ∨ P = [46]) → ∀ X, cl (spl t.data.toList) X = cl (spl R) X) ∧ (P ≠ [] ∧ P ≠ [46] ∧ P ≠ [46, 46] → ∀ X, cl (spl t.data.toList) X = cl (spl R) (if X = [] then P else X ++ 47 :: P)) := by
  rcases part_cases t.data.toList with h | ⟨p, r, h, hp⟩
  · refine ⟨t.data.toList, [], false, fun w => cut_any t t ⟨#[]⟩ false w (slCut_no t (ib_none h) w), by simp; omega, by simp, .inr rfl, ?_, ?_, ?_⟩
    · intro e X
      rw [spl_one _ h, e, cl_out]
    · intro e X
      rw [spl_one _ h, cl_skip _ _ e, show spl [] = [[]] from rfl, cl_skip _ _ (.inl rfl)]
    · intro e X
      rw [spl_one _ h, cl_take _ _ e, show spl [] = [[]] from rfl, cl_skip _ _ (.inl rfl)]
  · have hl : t.size = p.length + (r.length + 1) := by rw [← len_eq, h, List.length_append, List.length_cons]
    refine ⟨p, r, true, fun w => ?_, by omega, by omega, .inl (by omega), ?_, ?_, ?_⟩
    · have := cut_any t _ _ true w (slCut_yes t ht p.length (by rw [h]; exact ib_part hp) (by omega) w)
      have e1 : t.extract 0 p.length = tx p := by
        have := tx_upto t.data.toList p.length
        rw [show tx t.data.toList = t from rfl, h, List.take_left] at this
        exact this
      have e2 : t.extract (p.length + 1) t.size = tx r := by
        have := tx_from t.data.toList (p.length + 1)
        rw [len_eq, show tx t.data.toList = t from rfl] at this
        rw [this, h, List.drop_append, List.drop_of_length_le (by omega), show p.length + 1 - p.length = 1 by omega]
        rfl
      rw [e1, e2] at this
      exact this
    · intro e X
      rw [h, spl_part p r hp, e, cl_out]
    · intro e X
      rw [h, spl_part p r hp, cl_skip _ _ e]
    · intro e X
      rw [h, spl_part p r hp, cl_take _ _ e]
/-- What Clean answers. -/
def ClnOk (l : List UInt8) (w : World) (e : Ending) (w' : World) : Prop := e = .returned (.tuple #[.string (tx ((cln l).getD [])), .int .i64 (if (cln l).isSome then 0 else 140)]) ∧ Below w.heap.size w w'
theorem ClnOk.no {l : List UInt8} (h : cln l = none) {w w' : World} (hb : Below w.heap.size w w') : ClnOk l w (.returned (.tuple #[.string ⟨#[]⟩, .int .i64 140])) w' := by
  unfold ClnOk
  rw [h]
  exact ⟨rfl, hb⟩
theorem ClnOk.yes {l x : List UInt8} (h : cln l = some x) {w w' : World} (hb : Below w.heap.size w w') : ClnOk l w (.returned (.tuple #[.string (tx x), .int .i64 0])) w' := by
  unfold ClnOk
  rw [h]
  exact ⟨rfl, hb⟩
theorem pre_47 (l : List UInt8) : Lib.hasPrefix l [47] = decide (l.head? = some 47) := by
  cases l with
  | nil => rfl
  | cons c t =>
    show List.isPrefixOf [47] (c :: t) = _
    by_cases h : c = 47
    · subst h
      simp [List.isPrefixOf]
    · have : ¬ 47 = c := fun e => h e.symm
      simp [List.isPrefixOf, h, this]
end Go.Proofs.Ytlfffpgokemjbab.E
