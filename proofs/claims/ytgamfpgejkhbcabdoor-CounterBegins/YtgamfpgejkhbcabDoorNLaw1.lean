/- Stream of any key; the law that encrypted twice data is as it was: walked. -/
import Derived.Test.YtgamfpgejkhbcabDoorNG2
namespace Go.Proofs.YtgamfpgejkhbcabDoor.S
set_option maxRecDepth 100000
open Go Go.RowKit

theorem BIn.below {w w' : World} {a : Option Addr} {c : Nat} {ys : List Nat} (h : BIn w a c ys) (k : Below w.heap.size w w') : BIn w' a c ys := ⟨h.text.below k, h.by_, h.cap_, h.most, h.nil⟩
/-- Which error is told of a key, and what of it and of data. -/
def erK (key : List Nat) : Int := if key.length = 16 ∨ key.length = 24 ∨ key.length = 32 then 0 else 120
def strK (key xs : List Nat) : List Nat := if key.length = 16 ∨ key.length = 24 ∨ key.length = 32 then K.strL (K.msk (K.kK key (key.length / 4)) (key.length / 4 + 6)) xs else []
theorem strK_twice (key xs : List Nat) (h : erK key = 0) : strK key (strK key xs) = xs := by
  have hk : key.length = 16 ∨ key.length = 24 ∨ key.length = 32 := by
    unfold erK at h
    split at h
    · assumption
    · cases h
  rw [strK, strK, if_pos hk, if_pos hk, K.strL_twice]
theorem strK_length (key xs : List Nat) (h : erK key = 0) : (strK key xs).length = xs.length := by
  have hk : key.length = 16 ∨ key.length = 24 ∨ key.length = 32 := by
    unfold erK at h
    split at h
    · assumption
    · cases h
  rw [strK, if_pos hk, K.strL_length]
theorem strK_no (key xs : List Nat) (h : ¬ erK key = 0) : strK key xs = [] ∧ erK key = 120 := by
  have hk : ¬ (key.length = 16 ∨ key.length = 24 ∨ key.length = 32) := fun q => h (by rw [erK, if_pos q])
  exact ⟨by rw [strK, if_neg hk], by rw [erK, if_neg hk]⟩
theorem strK_take (key xs : List Nat) (n : Nat) (h : n ≤ xs.length) : strK key (xs.take n) = (strK key xs).take n := by
  by_cases hk : key.length = 16 ∨ key.length = 24 ∨ key.length = 32
  · rw [strK, strK, if_pos hk, if_pos hk, K.strL_take _ _ h]
  · rw [strK, strK, if_neg hk, if_neg hk, List.take_nil]
/-- What Stream answers. -/
def StrRes (key xs : List Nat) (w : World) (e : Ending) (w' : World) : Prop := ∃ a c, e = .returned (.tuple #[.slice a (strK key xs).length c, .int .i64 (erK key)]) ∧ BIn w' a c (strK key xs) ∧ Below w.heap.size w w'
theorem stream_any (a d : Option Addr) (ca dc : Nat) (key xs : List Nat) (w : World) (h0 : BIn w a ca key) (h1 : BIn w d dc xs) (hl1 : xs.length ≤ 140737488355300) (hT : K.Tab w) :
    Calls Tryd.prog 4 #[.slice a key.length ca, .slice d xs.length dc] w (StrRes key xs w) := by
  by_cases hk : key.length = 16 ∨ key.length = 24 ∨ key.length = 32
  · obtain ⟨n, hn, hkl⟩ : ∃ n, (n = 4 ∨ n = 6 ∨ n = 8) ∧ key.length = 4 * n := ⟨key.length / 4, by omega, by omega⟩
    cases a with
    | none => have := h0.nil rfl; omega
    | some ad =>
      have hc := h0.cap_
      rw [hkl] at hc ⊢
      refine (K.stream_c ad ca n key d dc xs w hn hkl h0.by_ h0.text hc hT h1.by_ h1.text hl1).mono ?_
      rintro e w' ⟨v, rfl, ho, hb⟩
      have e1 : strK key xs = K.strL (K.msk (K.kK key n) (n + 6)) xs := by rw [strK, if_pos hk, hkl, Nat.mul_div_cancel_left _ (by omega)]
      have e2 : erK key = 0 := by rw [erK, if_pos hk]
      rw [← e1] at ho
      obtain ⟨a2, c2, rfl, hc2, hm2, hn2⟩ := OwnsB.form (show OwnsB w' w.heap.size v (strK key xs) from ho)
      exact ⟨a2, c2, by rw [e2], ⟨OwnsB.text (show OwnsB w' w.heap.size _ (strK key xs) from ho), by rw [e1]; exact K.strL_by h1.by_ (fun i => K.msk_lt (fun r _ => K.kK_by h0.by_ (by omega) r) i), hc2, by unfold maxLen at hm2; omega, hn2⟩, hb⟩
  · refine (K.stream_no a key.length ca (.slice d xs.length dc) w (by omega)).mono ?_
    rintro e w' ⟨rfl, rfl⟩
    have e1 : strK key xs = [] := by rw [strK, if_neg hk]
    exact ⟨none, 0, by rw [e1, erK, if_neg hk]; rfl, by rw [e1]; exact ⟨.inl rfl, fun x hx => by simp at hx, Nat.zero_le _, by omega, fun _ => ⟨rfl, rfl⟩⟩, Below.refl _ _⟩

/-- What Stream answers, with a key that may be, or with another one. -/
theorem StrRes.yes {key xs : List Nat} {w w' : World} {e : Ending} (her : erK key = 0) (h : StrRes key xs w e w') : ∃ a c, e = .returned (.tuple #[.slice a xs.length c, .int .i64 0]) ∧ BIn w' a c (strK key xs) ∧ Below w.heap.size w w' := by
  obtain ⟨a, c, he, hb, hw⟩ := h
  rw [strK_length key xs her, her] at he
  exact ⟨a, c, he, hb, hw⟩
theorem StrRes.no {key xs : List Nat} {w w' : World} {e : Ending} (her : ¬ erK key = 0) (h : StrRes key xs w e w') : ∃ a c, e = .returned (.tuple #[.slice a 0 c, .int .i64 120]) ∧ BIn w' a c [] ∧ Below w.heap.size w w' := by
  obtain ⟨a, c, he, hb, hw⟩ := h
  rw [(strK_no key xs her).1, (strK_no key xs her).2] at he
  rw [(strK_no key xs her).1] at hb
  exact ⟨a, c, he, hb, hw⟩

end Go.Proofs.YtgamfpgejkhbcabDoor.S
