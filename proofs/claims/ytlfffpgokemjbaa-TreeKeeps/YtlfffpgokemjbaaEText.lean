/- Texts, paths and letters of old, over lists of bytes. No Go text in sight. -/
import Derived.Test.YtlfffpgokemjbaaEMath
namespace Go.Proofs.Ytlfffpgokemjbaa.E
set_option maxRecDepth 100000
open Go Go.RowKit

def tx (l : List UInt8) : ByteArray := ⟨l.toArray⟩
theorem tx_back (s : ByteArray) : tx s.data.toList = s := rfl
theorem tx_list (l : List UInt8) : (tx l).data.toList = l := rfl
theorem tx_to (l : List UInt8) : (tx l).toList = l := ByteArray.toList_mk l
theorem tx_size (l : List UInt8) : (tx l).size = l.length := rfl
theorem tx_cut (l : List UInt8) (a b : Nat) : (tx l).extract a b = tx ((l.drop a).take (b - a)) := ByteArray.extract_mk l a b
theorem tx_from (l : List UInt8) (a : Nat) : (tx l).extract a l.length = tx (l.drop a) := by rw [tx_cut, List.take_of_length_le (by simp)]
theorem tx_upto (l : List UInt8) (b : Nat) : (tx l).extract 0 b = tx (l.take b) := by rw [tx_cut]; rfl
theorem tx_inj {a b : List UInt8} (h : tx a = tx b) : a = b := by have := congrArg (fun s : ByteArray => s.data.toList) h; exact this

theorem bt_app {a b : List UInt8} {k : Nat} (h : k < a.length) : bt (a ++ b) k = bt a k := by
  unfold bt
  simp only [List.getD, List.getElem?_append_left h]
theorem bt_cons (c : UInt8) (t : List UInt8) : bt (c :: t) 0 = c.toNat := rfl
theorem ltr_1 {l : List UInt8} (h : l ≠ []) (h0 : bt l 0 < 128) : ltr l = (bt l 0, 1) := by rw [ltr, if_neg h, if_pos h0]
theorem ltr_2 {l : List UInt8} (h : l ≠ []) (h0 : is2 l) : ltr l = (v2 l, 2) := by rw [ltr, if_neg h, if_neg (by have := h0.1; omega), if_pos h0]
theorem ltr_3 {l : List UInt8} (h : l ≠ []) (h0 : is3 l) : ltr l = (v3 l, 3) := by rw [ltr, if_neg h, if_neg (by have := h0.1; omega), if_neg (fun q => by have := h0.1; have := q.2.1; omega), if_pos h0]
theorem ltr_4 {l : List UInt8} (h : l ≠ []) (h0 : is4 l) : ltr l = (v4 l, 4) := by
  rw [ltr, if_neg h, if_neg (by have := h0.1; omega), if_neg (fun q => by have := h0.1; have := q.2.1; omega), if_neg (fun q => by have := h0.1; have := q.2.1; omega), if_pos h0]
theorem app_ne {a b : List UInt8} (h : a ≠ []) : a ++ b ≠ [] := by simp [h]
/-- A letter is the same with more behind it. -/
theorem ltr_app {a : List UInt8} (b : List UInt8) (h : (ltr a).2 ≠ 0) : ltr (a ++ b) = ltr a := by
  rcases ltr_cases a with e | ⟨hn, h0, e⟩ | ⟨hn, h0, e⟩ | ⟨hn, h0, e⟩ | ⟨hn, h0, e⟩
  · rw [e] at h; exact absurd rfl h
  · have hl : 0 < a.length := List.length_pos_iff.2 hn
    rw [e, ltr_1 (app_ne hn) (by rw [bt_app hl]; exact h0), bt_app hl]
  · have hl := h0.2.2.1
    have e0 := bt_app (b := b) (Nat.lt_of_lt_of_le (show 0 < _ by decide) hl)
    have e1 := bt_app (b := b) (Nat.lt_of_lt_of_le (show 1 < _ by decide) hl)
    have ev : v2 (a ++ b) = v2 a := by unfold v2; rw [e0, e1]
    rw [e, ltr_2 (app_ne hn) ⟨by rw [e0]; exact h0.1, by rw [e0]; exact h0.2.1, by rw [List.length_append]; omega, by rw [e1]; exact h0.2.2.2.1, by rw [ev]; exact h0.2.2.2.2⟩, ev]
  · have hl := h0.2.2.1
    have e0 := bt_app (b := b) (Nat.lt_of_lt_of_le (show 0 < _ by decide) hl)
    have e1 := bt_app (b := b) (Nat.lt_of_lt_of_le (show 1 < _ by decide) hl)
    have e2 := bt_app (b := b) (Nat.lt_of_lt_of_le (show 2 < _ by decide) hl)
    have ev : v3 (a ++ b) = v3 a := by unfold v3; rw [e0, e1, e2]
    rw [e, ltr_3 (app_ne hn) ⟨by rw [e0]; exact h0.1, by rw [e0]; exact h0.2.1, by rw [List.length_append]; omega, by rw [e1]; exact h0.2.2.2.1, by rw [e2]; exact h0.2.2.2.2.1, by rw [ev]; exact h0.2.2.2.2.2.1, by rw [ev]; exact h0.2.2.2.2.2.2⟩, ev]
  · have hl := h0.2.2.1
    have e0 := bt_app (b := b) (Nat.lt_of_lt_of_le (show 0 < _ by decide) hl)
    have e1 := bt_app (b := b) (Nat.lt_of_lt_of_le (show 1 < _ by decide) hl)
    have e2 := bt_app (b := b) (Nat.lt_of_lt_of_le (show 2 < _ by decide) hl)
    have e3 := bt_app (b := b) (Nat.lt_of_lt_of_le (show 3 < _ by decide) hl)
    have ev : v4 (a ++ b) = v4 a := by unfold v4; rw [e0, e1, e2, e3]
    rw [e, ltr_4 (app_ne hn) ⟨by rw [e0]; exact h0.1, by rw [e0]; exact h0.2.1, by rw [List.length_append]; omega, by rw [e1]; exact h0.2.2.2.1, by rw [e2]; exact h0.2.2.2.2.1, by rw [e3]; exact h0.2.2.2.2.2.1, by rw [ev]; exact h0.2.2.2.2.2.2.1, by rw [ev]; exact h0.2.2.2.2.2.2.2⟩, ev]
/-- A letter that ends within the first part is that part's own. -/
theorem ltr_cut {a b : List UInt8} (hl : (ltr (a ++ b)).2 ≤ a.length) (h : (ltr (a ++ b)).2 ≠ 0) : (ltr a).2 ≠ 0 := by
  rcases ltr_cases (a ++ b) with e | ⟨hn, h0, e⟩ | ⟨hn, h0, e⟩ | ⟨hn, h0, e⟩ | ⟨hn, h0, e⟩
  · rw [e] at h; exact absurd rfl h
  · rw [e] at hl
    simp only at hl
    have hna : a ≠ [] := fun q => by rw [q] at hl; simp at hl
    rw [ltr_1 hna (by rw [bt_app (by omega)] at h0; exact h0)]
    simp
  · rw [e] at hl
    simp only at hl
    have hna : a ≠ [] := fun q => by rw [q] at hl; simp at hl
    have e0 := bt_app (b := b) (Nat.lt_of_lt_of_le (show 0 < _ by decide) hl)
    have e1 := bt_app (b := b) (Nat.lt_of_lt_of_le (show 1 < _ by decide) hl)
    have ev : v2 (a ++ b) = v2 a := by unfold v2; rw [e0, e1]
    rw [is2, e0, e1, ev] at h0
    rw [ltr_2 hna ⟨h0.1, h0.2.1, hl, h0.2.2.2⟩]
    simp
  · rw [e] at hl
    simp only at hl
    have hna : a ≠ [] := fun q => by rw [q] at hl; simp at hl
    have e0 := bt_app (b := b) (Nat.lt_of_lt_of_le (show 0 < _ by decide) hl)
    have e1 := bt_app (b := b) (Nat.lt_of_lt_of_le (show 1 < _ by decide) hl)
    have e2 := bt_app (b := b) (Nat.lt_of_lt_of_le (show 2 < _ by decide) hl)
    have ev : v3 (a ++ b) = v3 a := by unfold v3; rw [e0, e1, e2]
    rw [is3, e0, e1, e2, ev] at h0
    rw [ltr_3 hna ⟨h0.1, h0.2.1, hl, h0.2.2.2⟩]
    simp
  · rw [e] at hl
    simp only at hl
    have hna : a ≠ [] := fun q => by rw [q] at hl; simp at hl
    have e0 := bt_app (b := b) (Nat.lt_of_lt_of_le (show 0 < _ by decide) hl)
    have e1 := bt_app (b := b) (Nat.lt_of_lt_of_le (show 1 < _ by decide) hl)
    have e2 := bt_app (b := b) (Nat.lt_of_lt_of_le (show 2 < _ by decide) hl)
    have e3 := bt_app (b := b) (Nat.lt_of_lt_of_le (show 3 < _ by decide) hl)
    have ev : v4 (a ++ b) = v4 a := by unfold v4; rw [e0, e1, e2, e3]
    rw [is4, e0, e1, e2, e3, ev] at h0
    rw [ltr_4 hna ⟨h0.1, h0.2.1, hl, h0.2.2.2⟩]
    simp
/-- A byte within a letter, behind its first one, goes on with it. -/
theorem ltr_goes {l : List UInt8} {k : Nat} (hk : 0 < k) (h : k < (ltr l).2) : 128 ≤ bt l k := by
  rcases ltr_cases l with e | ⟨hn, h0, e⟩ | ⟨hn, h0, e⟩ | ⟨hn, h0, e⟩ | ⟨hn, h0, e⟩ <;> rw [e] at h <;> simp only at h
  · omega
  · omega
  · obtain rfl : k = 1 := by omega
    exact h0.2.2.2.1.1
  · obtain rfl | rfl : k = 1 ∨ k = 2 := by omega
    · exact h0.2.2.2.1.1
    · exact h0.2.2.2.2.1.1
  · obtain rfl | rfl | rfl : k = 1 ∨ k = 2 ∨ k = 3 := by omega
    · exact h0.2.2.2.1.1
    · exact h0.2.2.2.2.1.1
    · exact h0.2.2.2.2.2.1.1
theorem ltr_small {l : List UInt8} (h : 1 < (ltr l).2) : 128 ≤ bt l 0 := by
  rcases ltr_cases l with e | ⟨hn, h0, e⟩ | ⟨hn, h0, e⟩ | ⟨hn, h0, e⟩ | ⟨hn, h0, e⟩ <;> rw [e] at h <;> simp only at h
  · omega
  · omega
  · have := h0.1; omega
  · have := h0.1; omega
  · have := h0.1; omega
/-- Is this a text? -/
def vld (l : List UInt8) : Bool := if (ltr l).2 = 0 then l.isEmpty else vld (l.drop (ltr l).2)
termination_by l.length
decreasing_by
  have := ltr_le l
  rw [List.length_drop]
  omega
theorem vld_nil : vld [] = true := by rw [vld]; simp [ltr]
theorem vld_no {l : List UInt8} (h : (ltr l).2 = 0) (hn : l ≠ []) : vld l = false := by rw [vld, if_pos h]; simp [hn]
theorem vld_step {l : List UInt8} (h : (ltr l).2 ≠ 0) : vld l = vld (l.drop (ltr l).2) := by rw [vld, if_neg h]
theorem vld_yes {l : List UInt8} (hv : vld l = true) (hn : l ≠ []) : (ltr l).2 ≠ 0 := fun h => by rw [vld_no h hn] at hv; cases hv
theorem vld_app : ∀ (n : Nat) (a b : List UInt8), a.length ≤ n → vld a = true → vld (a ++ b) = vld b := by
  intro n
  induction n with
  | zero =>
    intro a b hl _
    have : a = [] := List.eq_nil_of_length_eq_zero (by omega)
    subst this
    rfl
  | succ n ih =>
    intro a b hl hv
    by_cases hn : a = []
    · subst hn
      rfl
    · have h := vld_yes hv hn
      have hle := ltr_le a
      rw [vld_step h] at hv
      have e := ltr_app b h
      rw [vld_step (by rw [e]; exact h), e, List.drop_append_of_le_length hle]
      exact ih _ _ (by rw [List.length_drop]; omega) hv
theorem vld_append {a b : List UInt8} (h : vld a = true) : vld (a ++ b) = vld b := vld_app a.length a b (Nat.le_refl _) h
theorem vld_cut : ∀ (n : Nat) (a b : List UInt8), a.length ≤ n → vld (a ++ 47 :: b) = true → vld a = true := by
  intro n
  induction n with
  | zero =>
    intro a b hl _
    have : a = [] := List.eq_nil_of_length_eq_zero (by omega)
    subst this
    exact vld_nil
  | succ n ih =>
    intro a b hl hv
    by_cases hn : a = []
    · subst hn
      exact vld_nil
    · have h := vld_yes hv (app_ne hn)
      have hle : (ltr (a ++ 47 :: b)).2 ≤ a.length := by
        rcases Nat.lt_or_ge a.length (ltr (a ++ 47 :: b)).2 with q | q
        · have hp : 0 < a.length := List.length_pos_iff.2 hn
          have := ltr_goes hp q
          have e : bt (a ++ 47 :: b) a.length = 47 := by simp [bt]
          omega
        · exact q
      have ha := ltr_cut hle h
      have e := ltr_app (47 :: b) ha
      rw [vld_step h, e, List.drop_append_of_le_length (ltr_le a)] at hv
      rw [vld_step ha]
      have := ltr_le a
      exact ih _ _ (by rw [List.length_drop]; omega) hv
theorem vld_47 (b : List UInt8) : vld (47 :: b) = vld b := by
  have e : ltr (47 :: b) = (47, 1) := ltr_1 (by simp) (by rw [bt_cons]; decide)
  rw [vld_step (by rw [e]; simp), e]
  rfl
theorem vld_left {a b : List UInt8} (h : vld (a ++ 47 :: b) = true) : vld a = true := vld_cut a.length a b (Nat.le_refl _) h
theorem vld_right {a b : List UInt8} (h : vld (a ++ 47 :: b) = true) : vld b = true := by
  rw [vld_append (vld_left h), vld_47] at h
  exact h
theorem vld_join {a b : List UInt8} (h : vld a = true) (h2 : vld b = true) : vld (a ++ 47 :: b) = true := by rw [vld_append h, vld_47, h2]

/-- The parts of a text between slashes. -/
def spl : List UInt8 → List (List UInt8)
  | [] => [[]]
  | c :: t => if c = 47 then [] :: spl t else match spl t with | [] => [[c]] | p :: ps => (c :: p) :: ps
theorem spl_ne (l : List UInt8) : spl l ≠ [] := by
  cases l with
  | nil => simp [spl]
  | cons c t =>
    unfold spl
    split
    · simp
    · split <;> simp
theorem spl_47 (t : List UInt8) : spl (47 :: t) = [] :: spl t := by rw [spl, if_pos rfl]
theorem spl_part : ∀ (p t : List UInt8), 47 ∉ p → spl (p ++ 47 :: t) = p :: spl t := by
  intro p
  induction p with
  | nil => intro t _; exact spl_47 t
  | cons c p ih =>
    intro t h
    simp only [List.mem_cons, not_or] at h
    rw [List.cons_append, spl, if_neg (fun q => h.1 q.symm), ih t h.2]
theorem spl_one : ∀ (p : List UInt8), 47 ∉ p → spl p = [p] := by
  intro p
  induction p with
  | nil => intro _; rfl
  | cons c p ih =>
    intro h
    simp only [List.mem_cons, not_or] at h
    rw [spl, if_neg (fun q => h.1 q.symm), ih h.2]
theorem spl_len : ∀ (l : List UInt8), (spl l).length = l.count 47 + 1 := by
  intro l
  induction l with
  | nil => rfl
  | cons c t ih =>
    by_cases h : c = 47
    · subst h
      rw [spl_47, List.count_cons_self, List.length_cons, ih]
    · rw [spl, if_neg h, List.count_cons_of_ne h]
      cases hs : spl t with
      | nil => exact absurd hs (spl_ne t)
      | cons p ps =>
        rw [hs] at ih
        simpa using ih
theorem spl_mem : ∀ (l : List UInt8) (p : List UInt8), p ∈ spl l → 47 ∉ p ∧ (∀ c ∈ p, c ∈ l) := by
  intro l
  induction l with
  | nil =>
    intro p hp
    simp only [spl, List.mem_singleton] at hp
    subst hp
    simp
  | cons c t ih =>
    intro p hp
    by_cases h : c = 47
    · subst h
      rw [spl_47] at hp
      rcases List.mem_cons.1 hp with rfl | hp
      · simp
      · exact ⟨(ih p hp).1, fun d hd => List.mem_cons_of_mem _ ((ih p hp).2 d hd)⟩
    · rw [spl, if_neg h] at hp
      cases hs : spl t with
      | nil => exact absurd hs (spl_ne t)
      | cons q qs =>
        rw [hs] at hp ih
        rcases List.mem_cons.1 hp with rfl | hp
        · have := ih q (List.mem_cons_self ..)
          refine ⟨fun m => ?_, fun d hd => ?_⟩
          · rcases List.mem_cons.1 m with m | m
            · exact h m.symm
            · exact this.1 m
          · rcases List.mem_cons.1 hd with rfl | hd
            · exact List.mem_cons_self ..
            · exact List.mem_cons_of_mem _ (this.2 d hd)
        · have := ih p (List.mem_cons_of_mem _ hp)
          exact ⟨this.1, fun d hd => List.mem_cons_of_mem _ (this.2 d hd)⟩
/-- A text is its first part, or that, a slash, and more. -/
theorem part_cases : ∀ (l : List UInt8), (47 ∉ l) ∨ ∃ p t, l = p ++ 47 :: t ∧ 47 ∉ p := by
  intro l
  induction l with
  | nil => left; simp
  | cons c t ih =>
    by_cases h : c = 47
    · subst h
      exact .inr ⟨[], t, rfl, by simp⟩
    · rcases ih with ih | ⟨p, u, rfl, hp⟩
      · left
        intro m
        rcases List.mem_cons.1 m with m | m
        · exact h m.symm
        · exact ih m
      · refine .inr ⟨c :: p, u, rfl, fun m => ?_⟩
        rcases List.mem_cons.1 m with m | m
        · exact h m.symm
        · exact hp m
theorem spl_vld : ∀ (n : Nat) (l : List UInt8), l.length ≤ n → vld l = true → ∀ p ∈ spl l, vld p = true := by
  intro n
  induction n with
  | zero =>
    intro l hl _ p hp
    have : l = [] := List.eq_nil_of_length_eq_zero (by omega)
    subst this
    simp only [spl, List.mem_singleton] at hp
    subst hp
    exact vld_nil
  | succ n ih =>
    intro l hl hv p hp
    rcases part_cases l with h | ⟨q, t, rfl, hq⟩
    · rw [spl_one l h] at hp
      rw [List.mem_singleton.1 hp]
      exact hv
    · rw [spl_part q t hq] at hp
      rw [List.length_append, List.length_cons] at hl
      rcases List.mem_cons.1 hp with rfl | hp
      · exact vld_left hv
      · exact ih t (by omega) (vld_right hv) p hp
/-- Parts, joined by slashes. -/
def jn : List (List UInt8) → List UInt8
  | [] => []
  | [p] => p
  | p :: q :: ps => p ++ 47 :: jn (q :: ps)
theorem jn_cons (p : List UInt8) {ps : List (List UInt8)} (h : ps ≠ []) : jn (p :: ps) = p ++ 47 :: jn ps := by
  cases ps with
  | nil => exact absurd rfl h
  | cons q qs => rfl
theorem jn_app {ps qs : List (List UInt8)} (h : ps ≠ []) (h2 : qs ≠ []) : jn (ps ++ qs) = jn ps ++ 47 :: jn qs := by
  induction ps with
  | nil => exact absurd rfl h
  | cons p ps ih =>
    by_cases hp : ps = []
    · subst hp
      rw [List.cons_append, List.nil_append, jn_cons p h2]
      rfl
    · rw [List.cons_append, jn_cons p (by simp [hp]), ih hp, jn_cons p hp, List.append_assoc, List.cons_append]
theorem spl_jn {ps : List (List UInt8)} (hn : ps ≠ []) (h : ∀ p ∈ ps, 47 ∉ p) : spl (jn ps) = ps := by
  induction ps with
  | nil => exact absurd rfl hn
  | cons p ps ih =>
    by_cases hp : ps = []
    · subst hp
      exact spl_one p (h p (List.mem_cons_self ..))
    · rw [jn_cons p hp, spl_part p _ (h p (List.mem_cons_self ..)), ih hp fun q hq => h q (List.mem_cons_of_mem _ hq)]
/-- What is left of parts, behind what is left already; none: a part leads out. -/
def cl : List (List UInt8) → List UInt8 → Option (List UInt8)
  | [], x => some x
  | p :: ps, x => if p = [46, 46] then none else if p = [] ∨ p = [46] then cl ps x else cl ps (if x = [] then p else x ++ 47 :: p)
theorem cl_out (ps : List (List UInt8)) (x : List UInt8) : cl ([46, 46] :: ps) x = none := by rw [cl, if_pos rfl]
theorem cl_skip {p : List UInt8} (ps : List (List UInt8)) (x : List UInt8) (h : p = [] ∨ p = [46]) : cl (p :: ps) x = cl ps x := by
  rw [cl, if_neg (by rcases h with rfl | rfl <;> simp), if_pos h]
theorem cl_take {p : List UInt8} (ps : List (List UInt8)) (x : List UInt8) (h : p ≠ [] ∧ p ≠ [46] ∧ p ≠ [46, 46]) : cl (p :: ps) x = cl ps (if x = [] then p else x ++ 47 :: p) := by
  rw [cl, if_neg h.2.2, if_neg (fun q => by rcases q with q | q; exact h.1 q; exact h.2.1 q)]
/-- A part that may be: a text without slashes and bytes 0, not empty, no point, not two points. -/
structure Good (p : List UInt8) : Prop where
  ne : p ≠ [] ∧ p ≠ [46] ∧ p ≠ [46, 46]
  sl : 47 ∉ p
  ze : 0 ∉ p
  vl : vld p = true
theorem jn_ne {ps : List (List UInt8)} (hn : ps ≠ []) (h : ∀ p ∈ ps, Good p) : jn ps ≠ [] := by
  cases ps with
  | nil => exact absurd rfl hn
  | cons p ps =>
    have := (h p (List.mem_cons_self ..)).ne.1
    cases ps with
    | nil => exact this
    | cons q qs => exact app_ne this
theorem jn_head {ps : List (List UInt8)} (h : ∀ p ∈ ps, Good p) : (jn ps).head? ≠ some 47 := by
  cases ps with
  | nil => simp [jn]
  | cons p ps =>
    have hp := h p (List.mem_cons_self ..)
    cases p with
    | nil => exact absurd rfl hp.ne.1
    | cons c p =>
      have hc : c ≠ 47 := fun e => hp.sl (by rw [e]; exact List.mem_cons_self ..)
      cases ps with
      | nil => simpa [jn] using hc
      | cons q qs => simpa [jn] using hc
theorem jn_zero {ps : List (List UInt8)} (h : ∀ p ∈ ps, Good p) : 0 ∉ jn ps := by
  induction ps with
  | nil => simp [jn]
  | cons p ps ih =>
    have hp := h p (List.mem_cons_self ..)
    have hi := ih fun q hq => h q (List.mem_cons_of_mem _ hq)
    cases ps with
    | nil => exact hp.ze
    | cons q qs =>
      rw [jn]
      intro m
      rcases List.mem_append.1 m with m | m
      · exact hp.ze m
      · rcases List.mem_cons.1 m with m | m
        · cases m
        · exact hi m
theorem jn_vld {ps : List (List UInt8)} (h : ∀ p ∈ ps, Good p) : vld (jn ps) = true := by
  induction ps with
  | nil => exact vld_nil
  | cons p ps ih =>
    have hp := h p (List.mem_cons_self ..)
    have hi := ih fun q hq => h q (List.mem_cons_of_mem _ hq)
    cases ps with
    | nil => exact hp.vl
    | cons q qs => exact vld_join hp.vl hi
theorem cl_good : ∀ (ps qs : List (List UInt8)) (x : List UInt8), (∀ p ∈ ps, 47 ∉ p ∧ 0 ∉ p ∧ vld p = true) → (∀ q ∈ qs, Good q) → cl ps (jn qs) = some x → ∃ rs, x = jn rs ∧ ∀ r ∈ rs, Good r := by
  intro ps
  induction ps with
  | nil =>
    intro qs x _ hq h
    exact ⟨qs, (Option.some.inj h).symm, hq⟩
  | cons p ps ih =>
    intro qs x hp hq h
    have h1 := hp p (List.mem_cons_self ..)
    have h2 : ∀ q ∈ ps, 47 ∉ q ∧ 0 ∉ q ∧ vld q = true := fun q m => hp q (List.mem_cons_of_mem _ m)
    by_cases e1 : p = [46, 46]
    · rw [e1, cl_out] at h
      cases h
    · by_cases e2 : p = [] ∨ p = [46]
      · rw [cl_skip ps _ e2] at h
        exact ih qs x h2 hq h
      · have hg : Good p := ⟨⟨fun e => e2 (.inl e), fun e => e2 (.inr e), e1⟩, h1.1, h1.2.1, h1.2.2⟩
        rw [cl_take ps _ hg.ne] at h
        by_cases hn : qs = []
        · subst hn
          exact ih [p] x h2 (fun q m => by rw [List.mem_singleton.1 m]; exact hg) h
        · rw [if_neg (jn_ne hn hq), show jn qs ++ 47 :: p = jn (qs ++ [p]) from (jn_app (qs := [p]) hn (by simp)).symm] at h
          exact ih _ x h2 (fun q m => by
            rcases List.mem_append.1 m with m | m
            · exact hq q m
            · rw [List.mem_singleton.1 m]; exact hg) h
theorem cl_jn : ∀ (ps qs : List (List UInt8)), (∀ p ∈ ps, Good p) → (∀ q ∈ qs, Good q) → cl ps (jn qs) = some (jn (qs ++ ps)) := by
  intro ps
  induction ps with
  | nil => intro qs _ _; rw [List.append_nil]; rfl
  | cons p ps ih =>
    intro qs hp hq
    have hg := hp p (List.mem_cons_self ..)
    have h2 : ∀ q ∈ ps, Good q := fun q m => hp q (List.mem_cons_of_mem _ m)
    rw [cl_take ps _ hg.ne]
    by_cases hn : qs = []
    · subst hn
      have := ih [p] h2 (fun q m => by rw [List.mem_singleton.1 m]; exact hg)
      simpa [jn] using this
    · rw [if_neg (jn_ne hn hq), show jn qs ++ 47 :: p = jn (qs ++ [p]) from (jn_app (qs := [p]) hn (by simp)).symm]
      have := ih (qs ++ [p]) h2 (fun q m => by
        rcases List.mem_append.1 m with m | m
        · exact hq q m
        · rw [List.mem_singleton.1 m]; exact hg)
      rw [this, List.append_assoc]
      rfl
/-- A path as it should be. -/
def fin (o : Option (List UInt8)) : Option (List UInt8) := match o with | none => none | some x => if x = [] ∨ 200 < x.length then none else some x
def ok (l : List UInt8) : Prop := vld l = true ∧ 0 ∉ l ∧ l.head? ≠ some 47
instance (l : List UInt8) : Decidable (ok l) := inferInstanceAs (Decidable (_ ∧ _))
def cln (l : List UInt8) : Option (List UInt8) := if ok l then fin (cl (spl l) []) else none
theorem cln_is {l x : List UInt8} (h : cln l = some x) : ∃ rs, rs ≠ [] ∧ x = jn rs ∧ (∀ r ∈ rs, Good r) ∧ x.length ≤ 200 := by
  unfold cln at h
  split at h
  · rename_i hok
    have hs : ∀ p ∈ spl l, 47 ∉ p ∧ 0 ∉ p ∧ vld p = true := fun p hp => ⟨(spl_mem l p hp).1, fun m => hok.2.1 ((spl_mem l p hp).2 0 m), spl_vld l.length l (Nat.le_refl _) hok.1 p hp⟩
    cases hc : cl (spl l) [] with
    | none => rw [hc] at h; cases h
    | some y =>
      rw [hc] at h
      simp only [fin] at h
      split at h
      · cases h
      · rename_i hy
        obtain rfl := Option.some.inj h
        obtain ⟨rs, hr, hg⟩ := cl_good (spl l) [] y hs (fun q m => by simp at m) hc
        refine ⟨rs, fun e => ?_, hr, hg, by omega⟩
        subst e
        exact hy (.inl hr)
  · cases h
theorem cln_jn {rs : List (List UInt8)} (hn : rs ≠ []) (h : ∀ r ∈ rs, Good r) : cln (jn rs) = if 200 < (jn rs).length then none else some (jn rs) := by
  have := cl_jn rs [] h (fun q m => by simp at m)
  rw [List.nil_append] at this
  rw [cln, if_pos ⟨jn_vld h, jn_zero h, jn_head h⟩, spl_jn hn fun p hp => (h p hp).sl, show cl rs [] = cl rs (jn []) from rfl, this, fin]
  by_cases hl : 200 < (jn rs).length
  · rw [if_pos (.inr hl), if_pos hl]
  · rw [if_neg (fun q => by rcases q with q | q; exact jn_ne hn h q; exact hl q), if_neg hl]
/-- What was cleaned is clean. -/
theorem cln_again {l x : List UInt8} (h : cln l = some x) : cln x = some x := by
  obtain ⟨rs, hn, rfl, hg, hl⟩ := cln_is h
  rw [cln_jn hn hg, if_neg (by omega)]
theorem cln_parts {l x : List UInt8} (h : cln l = some x) : ∀ p ∈ spl x, p ≠ [] ∧ p ≠ [46] ∧ p ≠ [46, 46] := by
  obtain ⟨rs, hn, rfl, hg, hl⟩ := cln_is h
  rw [spl_jn hn fun p hp => (hg p hp).sl]
  exact fun p hp => (hg p hp).ne
theorem cln_joins {a b x y : List UInt8} (h : cln a = some x) (h2 : cln b = some y) : cln (x ++ 47 :: y) = if 200 < x.length + y.length + 1 then none else some (x ++ 47 :: y) := by
  obtain ⟨rs, hn, rfl, hg, hl⟩ := cln_is h
  obtain ⟨qs, hn2, rfl, hg2, hl2⟩ := cln_is h2
  rw [← jn_app hn hn2, cln_jn (by simp [hn]) (fun r m => by
    rcases List.mem_append.1 m with m | m
    · exact hg r m
    · exact hg2 r m), jn_app hn hn2]
  simp only [List.length_append, List.length_cons, Nat.add_assoc]
/-- What stands ahead of the slashes among the first k bytes. -/
def prs (l : List UInt8) (k : Nat) : List (List UInt8) := ((List.range k).filter (fun i => l.getD i 0 == 47)).map (fun i => l.take i)
theorem prs_zero (l : List UInt8) : prs l 0 = [] := rfl
theorem prs_yes (l : List UInt8) (k : Nat) (h : bt l k = 47) : prs l (k + 1) = prs l k ++ [l.take k] := by
  have e : (l.getD k 0 == 47) = true := by
    rw [beq_iff_eq]
    exact UInt8.toNat_inj.1 h
  simp only [prs, List.range_succ, List.filter_append, List.map_append, List.filter_cons, e, if_true, List.filter_nil, List.map_cons, List.map_nil]
theorem prs_no (l : List UInt8) (k : Nat) (h : bt l k ≠ 47) : prs l (k + 1) = prs l k := by
  have e : (l.getD k 0 == 47) = false := by
    rw [beq_eq_false_iff_ne]
    intro q
    apply h
    unfold bt
    rw [q]
    rfl
  simp only [prs, List.range_succ, List.filter_append, List.filter_cons, e, Bool.false_eq_true, if_false, List.filter_nil, List.append_nil]
theorem prs_skip (l : List UInt8) (k n : Nat) (h : ∀ i, i < n → bt l (k + i) ≠ 47) : prs l (k + n) = prs l k := by
  induction n with
  | zero => rfl
  | succ n ih => rw [← Nat.add_assoc, prs_no l (k + n) (h n (by omega)), ih fun i hi => h i (by omega)]
theorem prs_len (l : List UInt8) (k : Nat) (hk : k ≤ l.length) : (prs l k).length = (l.take k).count 47 := by
  induction k with
  | zero => rfl
  | succ k ih =>
    have hkl : k < l.length := by omega
    have hb : bt l k = (l[k]).toNat := by simp [bt, List.getD, hkl]
    rw [List.take_succ_eq_append_getElem hkl, List.count_append, ← ih (by omega)]
    by_cases h : l[k] = 47
    · rw [prs_yes l k (by rw [hb, h]; rfl), List.length_append, h]
      rfl
    · rw [prs_no l k (fun q => h (UInt8.toNat_inj.1 (by rw [← hb, q]; rfl)))]
      have : List.count 47 [l[k]] = 0 := by simp [h]
      omega
theorem prs_spl (l : List UInt8) : (spl l).length = (prs l l.length).length + 1 := by rw [spl_len, prs_len l _ (Nat.le_refl _), List.take_length]
end Go.Proofs.Ytlfffpgokemjbaa.E
