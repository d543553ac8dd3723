/- PLAIN: what the program's Octal and Decimal compute is what the reference's do. -/
import Derived.Test.YtodkpmnkdplpiaaDoorDecP
namespace Go.Proofs.YtodkpmnkdplpiaaDoor
open Go
set_option linter.unusedVariables false

/-- The program's number and the reference's. -/
def Rel (v : Nat) (o : Option Nat) : Prop := match o with
  | none => 4611686018427387904 < v
  | some n => v = n ∧ n ≤ 4611686018427387904
theorem rel_step {v : Nat} {o : Option Nat} {b d : Nat} (hb : 2 ≤ b) (h : Rel v o) : Rel (lay v b d) (add o b d) := by
  cases o with
  | none =>
    have h' : 4611686018427387904 < v := h
    have hd : 4611686018427387904 / b ≤ 4611686018427387904 := Nat.div_le_self _ _
    rw [lay_yes (by omega)]
    show 4611686018427387904 < _
    omega
  | some n =>
    obtain ⟨rfl, hn⟩ : v = n ∧ n ≤ 4611686018427387904 := h
    by_cases hq : 4611686018427387904 / b < v
    · have hm : 4611686018427387904 < v * b := (Nat.div_lt_iff_lt_mul (by omega)).1 hq
      rw [lay_yes hq, add_no (by omega)]
      show 4611686018427387904 < _
      omega
    · rw [lay_no hq]
      by_cases hs : v * b + d ≤ 4611686018427387904
      · rw [add_yes hs]
        exact ⟨rfl, hs⟩
      · rw [add_no hs]
        show 4611686018427387904 < _
        omega
theorem digs_rel {b : Nat} (hb : 2 ≤ b) : ∀ (l : List UInt8) (v : Nat) (o : Option Nat), Rel v o → (∀ c ∈ l, ¬ (c.toNat < 48 ∨ 48 + b ≤ c.toNat)) → (digs b l v).2 = true ∧ Rel (digs b l v).1 (numF b 48 l o)
  | [], v, o, h, _ => ⟨rfl, h⟩
  | c :: r, v, o, h, hc => by
    unfold digs numF
    rw [if_neg (hc c (by simp))]
    exact digs_rel hb r _ _ (rel_step hb h) (fun x hx => hc x (by simp [hx]))
theorem digs_bad {b : Nat} : ∀ (l : List UInt8) (v : Nat) (c : UInt8), c ∈ l → (c.toNat < 48 ∨ 48 + b ≤ c.toNat) → (digs b l v).2 = false
  | [], v, c, h, _ => absurd h (by simp)
  | x :: r, v, c, h, hc => by
    unfold digs
    split
    · rfl
    · rename_i hx
      rcases List.mem_cons.1 h with rfl | h
      · exact absurd hc hx
      · exact digs_bad r _ c h hc
theorem high_rel : ∀ (l : List UInt8) (v : Nat) (o : Option Nat), Rel v o → Rel (high l v) (numF 256 0 l o)
  | [], v, o, h => h
  | c :: r, v, o, h => by
    unfold high numF
    exact high_rel r _ _ (rel_step (by omega) h)
theorem sgn_rel {v : Nat} {o : Option Nat} (ng : Bool) (h : Rel v o) : sgn ng v = ansS ng (some o) := by
  cases o with
  | none =>
    have h' : 4611686018427387904 < v := h
    unfold sgn
    rw [if_pos h']
    rfl
  | some n =>
    obtain ⟨rfl, hn⟩ : v = n ∧ n ≤ 4611686018427387904 := h
    unfold sgn
    rw [if_neg (by omega)]
    rfl
theorem ans_eq (o : Option Nat) : ansS false (some o) = ans o := by cases o <;> rfl
theorem rel_zero : Rel 0 (some 0) := ⟨rfl, by omega⟩

theorem octT_eq : ∀ (l : List UInt8) (o : Option Nat), octT l o = if l.all isB then ans o else (0, 30)
  | [], o => rfl
  | c :: r, o => by
    unfold octT
    by_cases hc : isB c = true
    · rw [if_pos hc, octT_eq r o]
      simp [hc]
    · rw [if_neg hc]
      simp [hc]
theorem octD_eq : ∀ (l : List UInt8) (o : Option Nat), octD l o = if (l.dropWhile isO).all isB then ans (numF 8 48 (l.takeWhile isO) o) else (0, 30)
  | [], o => rfl
  | c :: r, o => by
    unfold octD
    by_cases hc : isO c = true
    · rw [if_pos hc, octD_eq r _, List.dropWhile_cons_of_pos hc, List.takeWhile_cons_of_pos hc]
      rfl
    · rw [if_neg hc, octT_eq, List.dropWhile_cons_of_neg hc, List.takeWhile_cons_of_neg hc]
      rfl
theorem octB_eq : ∀ (l : List UInt8), octB l = octD (Lib.trimLeftB l 32) (some 0)
  | [] => rfl
  | c :: r => by
    unfold octB
    by_cases hc : c.toNat = 32
    · have h32 : c = 32 := UInt8.toNat_inj.1 hc
      rw [if_pos hc, octB_eq r]
      unfold Lib.trimLeftB
      rw [List.dropWhile_cons_of_pos (by rw [h32]; rfl)]
    · rw [if_neg hc]
      unfold Lib.trimLeftB
      rw [List.dropWhile_cons_of_neg]
      intro h
      apply hc
      have : c = 32 := by simpa using h
      rw [this]
      rfl
theorem isO_of {c : UInt8} (h : isO c = true) : 48 ≤ c.toNat ∧ c.toNat ≤ 55 := of_decide_eq_true h
theorem isO_not {c : UInt8} (h : ¬ isO c = true) : ¬ (48 ≤ c.toNat ∧ c.toNat ≤ 55) := fun e => h (decide_eq_true e)
theorem isO_notB {c : UInt8} (h : isO c = true) : ¬ isB c = true := fun e => by
  have h1 := isO_of h
  have h2 : c.toNat = 32 ∨ c.toNat = 0 := of_decide_eq_true e
  omega
theorem cont_eq (c : UInt8) : ([32, 0] : List UInt8).contains c = isB c := by
  unfold isB
  by_cases h1 : c = 32
  · subst h1; rfl
  · by_cases h2 : c = 0
    · subst h2; rfl
    · have e1 : ¬ (c.toNat = 32 ∨ c.toNat = 0) := by
        rintro (h | h)
        · exact h1 (UInt8.toNat_inj.1 h)
        · exact h2 (UInt8.toNat_inj.1 h)
      rw [decide_eq_false e1]
      simp [h1, h2]
theorem trimR_eq (l : List UInt8) : Lib.trimRightS l [32, 0] = (l.reverse.dropWhile isB).reverse := by
  unfold Lib.trimRightS
  congr 2
  funext c
  exact cont_eq c
theorem dropWhile_all {p : UInt8 → Bool} : ∀ (a b : List UInt8), (∀ c ∈ a, p c = true) → (a ++ b).dropWhile p = b.dropWhile p
  | [], b, _ => rfl
  | x :: a, b, h => by
    rw [List.cons_append, List.dropWhile_cons_of_pos (h x (by simp))]
    exact dropWhile_all a b (fun c hc => h c (by simp [hc]))
theorem dropWhile_none {p : UInt8 → Bool} (b : List UInt8) (h : ∀ c ∈ b, ¬ p c = true) : b.dropWhile p = b := by
  cases b with
  | nil => rfl
  | cons x r => exact List.dropWhile_cons_of_neg (h x (by simp))
theorem takeWhile_mem {p : UInt8 → Bool} : ∀ (l : List UInt8), ∀ c ∈ l.takeWhile p, p c = true
  | [], c, h => absurd h (by simp)
  | x :: r, c, h => by
    by_cases hx : p x = true
    · rw [List.takeWhile_cons_of_pos hx] at h
      rcases List.mem_cons.1 h with rfl | h
      · exact hx
      · exact takeWhile_mem r c h
    · rw [List.takeWhile_cons_of_neg hx] at h
      exact absurd h (by simp)
theorem trim_split (l : List UInt8) : ∃ u, l = Lib.trimRightS l [32, 0] ++ u ∧ ∀ c ∈ u, isB c = true := by
  refine ⟨(l.reverse.takeWhile isB).reverse, ?_, ?_⟩
  · rw [trimR_eq, ← List.reverse_append, List.takeWhile_append_dropWhile, List.reverse_reverse]
  · intro c hc
    exact takeWhile_mem _ c (List.mem_reverse.1 hc)
theorem takeWhile_app {p : UInt8 → Bool} : ∀ (a b : List UInt8), (∀ c ∈ a, p c = true) → (a ++ b).takeWhile p = a ++ b.takeWhile p
  | [], b, _ => rfl
  | x :: a, b, h => by
    rw [List.cons_append, List.takeWhile_cons_of_pos (h x (by simp)), takeWhile_app a b (fun c hc => h c (by simp [hc]))]
    rfl

theorem octQ_eq (l : List UInt8) : octQ (Lib.trimRightS l [32, 0]) = octD l (some 0) := by
  rw [octD_eq]
  by_cases hall : (l.dropWhile isO).all isB = true
  · rw [if_pos hall]
    have ht : Lib.trimRightS l [32, 0] = l.takeWhile isO := by
      have hs : l = l.takeWhile isO ++ l.dropWhile isO := (List.takeWhile_append_dropWhile).symm
      rw [trimR_eq]
      conv => lhs; rw [hs]
      rw [List.reverse_append, dropWhile_all _ _ (fun c hc => List.all_eq_true.1 hall c (List.mem_reverse.1 hc)), dropWhile_none _ (fun c hc => isO_notB (takeWhile_mem _ c (List.mem_reverse.1 hc))), List.reverse_reverse]
    rw [ht]
    obtain ⟨h1, h2⟩ := digs_rel (b := 8) (by omega) (l.takeWhile isO) 0 (some 0) rel_zero (fun c hc => by have := isO_of (takeWhile_mem _ c hc); omega)
    unfold octQ
    rw [if_pos h1, sgn_rel false h2, ans_eq]
  · rw [if_neg hall]
    obtain ⟨u, hu, hub⟩ := trim_split l
    by_cases hO : ∀ c ∈ Lib.trimRightS l [32, 0], isO c = true
    · exfalso
      apply hall
      have htk : l.takeWhile isO = Lib.trimRightS l [32, 0] := by
        conv => lhs; rw [hu]
        rw [takeWhile_app _ _ hO]
        have : u.takeWhile isO = [] := by
          cases u with
          | nil => rfl
          | cons x r => exact List.takeWhile_cons_of_neg (fun e => isO_notB e (hub x (by simp)))
        rw [this, List.append_nil]
      have hs : l.takeWhile isO ++ l.dropWhile isO = l := List.takeWhile_append_dropWhile
      rw [htk] at hs
      have : l.dropWhile isO = u := List.append_cancel_left (hs.trans hu)
      rw [this]
      exact List.all_eq_true.2 hub
    · have ⟨c, hc, hn⟩ : ∃ c ∈ Lib.trimRightS l [32, 0], ¬ isO c = true := by
        simpa using hO
      have hb := digs_bad (b := 8) (Lib.trimRightS l [32, 0]) 0 c hc (by have := isO_not hn; omega)
      unfold octQ
      rw [hb]
      rfl

theorem oct_eq (l : List UInt8) : octP l = octR l := by
  cases l with
  | nil => rfl
  | cons c r =>
    simp only [octP, octR]
    by_cases h : c.toNat = 128
    · rw [if_pos h, if_pos h, sgn_rel false (high_rel r 0 (some 0) rel_zero), ans_eq]
    · rw [if_neg h, if_neg h, octQ_eq, octB_eq]

/- Decimal. -/
theorem pre_eq (l : List UInt8) : (l.head? = some 45 → Lib.hasPrefix l [45] = true ∧ Lib.trimPrefix l [45] = l.tail) ∧ (l.head? ≠ some 45 → Lib.hasPrefix l [45] = false ∧ Lib.trimPrefix l [45] = l) := by
  cases l with
  | nil => exact ⟨fun h => absurd h (by simp), fun _ => ⟨rfl, rfl⟩⟩
  | cons c r =>
    refine ⟨fun h => ?_, fun h => ?_⟩
    · have : c = 45 := by simpa using h
      subst this
      exact ⟨rfl, rfl⟩
    · have hc : ¬ c = 45 := fun e => h (by rw [e]; rfl)
      have h1 : Lib.hasPrefix (c :: r) [45] = false := by
        unfold Lib.hasPrefix
        simp only [List.isPrefixOf]
        have : ((45 : UInt8) == c) = false := by
          have : ¬ (45 : UInt8) = c := fun e => hc e.symm
          simpa using this
        rw [this]
        rfl
      refine ⟨h1, ?_⟩
      unfold Lib.trimPrefix
      rw [h1]
      rfl
theorem isD_not {c : UInt8} (h : ¬ isD c = true) : c.toNat < 48 ∨ 48 + 10 ≤ c.toNat := by
  have : ¬ (48 ≤ c.toNat ∧ c.toNat ≤ 57) := fun e => h (decide_eq_true e)
  omega
theorem rn_all' : ∀ (l : List UInt8), (∀ c ∈ l, isD c = true) → rn l = l.length
  | [], _ => rfl
  | c :: r, h => by
    rw [rn_cons_yes (h c (by simp)), rn_all' r (fun x hx => h x (by simp [hx]))]
    rfl
theorem dec_t (t : List UInt8) (ng : Bool) : (if (digs 10 t 0).2 = false ∨ t = [] then (0, 30) else sgn ng (digs 10 t 0).1) = ansS ng (decT t) := by
  unfold decT
  by_cases h0 : t = []
  · rw [if_pos (.inr h0), if_pos (.inl h0)]
    rfl
  · by_cases hr : rn t < t.length
    · have ⟨c, hc, hn⟩ : ∃ c ∈ t, ¬ isD c = true := by
        apply Classical.byContradiction
        intro h
        have := rn_all' t (fun c hc => Classical.byContradiction fun e => h ⟨c, hc, e⟩)
        omega
      rw [if_pos (.inl (digs_bad t 0 c hc (isD_not hn))), if_pos (.inr hr)]
      rfl
    · have hle := rn_le t
      have hall := rn_all t (by omega)
      obtain ⟨h1, h2⟩ := digs_rel (b := 10) (by omega) t 0 (some 0) rel_zero (fun c hc => by have := isD_of (hall c hc); omega)
      rw [if_neg (by rw [h1]; intro h; rcases h with h | h; cases h; exact h0 h), if_neg (by intro h; rcases h with h | h; exact h0 h; exact hr h)]
      exact sgn_rel ng h2
theorem dec_eq (l : List UInt8) : decP l = decR l := by
  unfold decP decR
  by_cases h : l.head? = some 45
  · obtain ⟨h1, h2⟩ := (pre_eq l).1 h
    rw [h1, h2, if_pos h, dec_t]
  · obtain ⟨h1, h2⟩ := (pre_eq l).2 h
    rw [h1, h2, if_neg h, dec_t]
end Go.Proofs.YtodkpmnkdplpiaaDoor
