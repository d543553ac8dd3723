/- A sort by path as a row of places: where each entry stands, its rank, what comes of it. No Go text in sight. -/
import Derived.Test.YtlfffpgokemjbaaOSort
import Derived.Test.YtlfffpgokemjbaaUThe
import Derived.Test.YtlfffpgokemjbaaUTh2
namespace Go.Proofs.Ytlfffpgokemjbaa.U
set_option maxRecDepth 100000
open Go Go.RowKit
open Go.Proofs.Ytlfffpgokemjbaa.O
set_option linter.unusedVariables false
def En0 : En := ⟨0, .empty, .empty, 0, 0, .empty⟩
/-- The entry that stood at a place. -/
def pk (es : List En) (x : Int) : En := es.getD x.toNat En0
def pm (es : List En) (d : List Int) : List En := d.map (pk es)
/-- How many paths lie below it. -/
def rk (es : List En) (x : Int) : Int := ((es.countP fun m => gtB (pk es x).path m.path : Nat) : Int)
def idx (n : Nat) : List Int := (List.range n).map fun i : Nat => (i : Int)
theorem idx_len (n : Nat) : (idx n).length = n := by simp [idx]
theorem idx_mem {n : Nat} {x : Int} : x ∈ idx n ↔ 0 ≤ x ∧ x < n := by
  unfold idx
  rw [List.mem_map]
  constructor
  · rintro ⟨i, hi, rfl⟩
    have := List.mem_range.1 hi
    omega
  · rintro ⟨h1, h2⟩
    exact ⟨x.toNat, List.mem_range.2 (by omega), by omega⟩
theorem idx_at {n i : Nat} (h : i < n) : ln (idx n) i = i := by
  rw [ln_in (by rw [idx_len]; exact h)]
  simp [idx]
theorem pm_idx (es : List En) : pm es (idx es.length) = es := by
  apply List.ext_getElem?
  intro i
  unfold pm idx
  rw [List.map_map, List.getElem?_map]
  by_cases h : i < es.length
  · rw [List.getElem?_eq_getElem (by simpa using h)]
    simp [pk, h, List.getD]
  · rw [List.getElem?_eq_none (by simpa using h), List.getElem?_eq_none (by omega)]
    rfl
theorem pk_mem {es : List En} {x : Int} (h0 : 0 ≤ x) (h1 : x < es.length) : pk es x ∈ es := by
  have h : x.toNat < es.length := by omega
  unfold pk
  rw [List.getD_eq_getElem?_getD, List.getElem?_eq_getElem h]
  exact List.getElem_mem h
theorem countP_mono' {p q : En → Bool} : ∀ {l : List En}, (∀ m ∈ l, p m = true → q m = true) → l.countP p ≤ l.countP q
  | [], _ => Nat.le_refl _
  | a :: l, h => by
    have ih := countP_mono' (l := l) (fun m hm => h m (List.mem_cons_of_mem _ hm))
    rw [List.countP_cons, List.countP_cons]
    have ha := h a List.mem_cons_self
    cases hp : p a with
    | false => simp; omega
    | true => rw [ha hp]; simp; omega
theorem countP_less {p q : En → Bool} : ∀ {l : List En}, (∀ m ∈ l, p m = true → q m = true) → (∃ m ∈ l, q m = true ∧ p m = false) → l.countP p < l.countP q
  | [], _, h => by obtain ⟨m, hm, _⟩ := h; cases hm
  | a :: l, h, hx => by
    have hl := fun m hm => h m (List.mem_cons_of_mem a hm)
    rw [List.countP_cons, List.countP_cons]
    have ha := h a List.mem_cons_self
    obtain ⟨m, hm, hq, hp⟩ := hx
    rcases List.mem_cons.1 hm with rfl | hm
    · have ih := countP_mono' (l := l) hl
      rw [hq, hp]; simp; omega
    · have ih := countP_less (l := l) hl ⟨m, hm, hq, hp⟩
      cases hpa : p a with
      | false => simp; omega
      | true => rw [ha hpa]; simp; omega
theorem gt_irr (a : ByteArray) : gtB a a = false := by rw [← Bool.not_eq_true, gt_iff, bl_irr]; exact Bool.false_ne_true
theorem rk_lt {es : List En} {x y : Int} (h0 : 0 ≤ x) (h1 : x < es.length) : rk es x < rk es y ↔ gtB (pk es y).path (pk es x).path = true := by
  constructor
  · intro h
    rcases hb : gtB (pk es y).path (pk es x).path with _ | _
    · have : rk es y ≤ rk es x := by
        unfold rk
        exact Int.ofNat_le.2 (countP_mono' fun m _ hm => gt_le hm hb)
      omega
    · rfl
  · intro h
    unfold rk
    refine Int.ofNat_lt.2 (countP_less (fun m _ hm => ?_) ⟨pk es x, pk_mem h0 h1, h, gt_irr _⟩)
    rcases hb : gtB (pk es y).path m.path with _ | _
    · have := gt_le h hb
      rw [gt_asym this] at hm
      cases hm
    · rfl
theorem rk_same {es : List En} {x y : Int} (h : (pk es x).path = (pk es y).path) : rk es x = rk es y := by unfold rk; rw [h]
theorem pm_swp {es : List En} {d : List Int} {i j : Nat} : pm es (swp d i j) = ((pm es d).set i (pk es (ln d j))).set j (pk es (ln d i)) := by
  unfold pm swp
  rw [List.map_set, List.map_set]
theorem pm_at {es : List En} {d : List Int} {i : Nat} (h : i < d.length) : (pm es d)[i]? = some (pk es (ln d i)) := by
  unfold pm
  rw [List.getElem?_map, List.getElem?_eq_getElem h, ln_in h]
  rfl
theorem idx_pair (n : Nat) : (idx n).Pairwise fun x y => x < y := by
  unfold idx
  rw [List.pairwise_map]
  exact List.pairwise_lt_range.imp fun h => Int.ofNat_lt.2 h
theorem idx_st (n : Nat) (k : Int → Int) : St k (idx n) := by
  intro i j h1 h2 _
  rw [idx_len] at h2
  rw [idx_at (by omega), idx_at h2]
  omega
/-- A row of all places that rises by path, and like paths by place, tells what is sorted. -/
theorem pm_srt {es : List En} {d : List Int} (hp : d.Perm (idx es.length)) (hs : Srt (rk es) d 0 es.length) (hk : St (rk es) d) : pm es d = srt es := by
  have hl : d.length = es.length := by rw [hp.length_eq, idx_len]
  have hpair := hk.pair (by rw [hl]; exact hs)
  have hin : ∀ x ∈ d, 0 ≤ x ∧ x < es.length := fun x hx => idx_mem.1 (hp.mem_iff.1 hx)
  refine srt_one ?_ (fun p => ?_)
  · unfold Sorted pm
    rw [List.pairwise_map]
    refine hpair.imp_of_mem fun {x y} hx hy h => ?_
    rcases hb : gtB (pk es x).path (pk es y).path with _ | _
    · rfl
    · have := (rk_lt (y := x) (hin y hy).1 (hin y hy).2).2 hb
      omega
  · have e1 : d.filter (fun x => decide ((pk es x).path = p)) = (idx es.length).filter (fun x => decide ((pk es x).path = p)) := by
      refine pair_one (fun _ => 0) _ _ (hp.filter _) ?_ ?_
      · refine (hpair.filter _).imp_of_mem fun {x y} hx hy h => ?_
        have px := of_decide_eq_true (List.mem_filter.1 hx).2
        have py := of_decide_eq_true (List.mem_filter.1 hy).2
        have := rk_same (es := es) (px.trans py.symm)
        exact .inr ⟨rfl, by omega⟩
      · exact ((idx_pair es.length).filter _).imp fun h => .inr ⟨rfl, h⟩
    have e2 : ∀ d : List Int, (pm es d).filter (fun e => decide (e.path = p)) = (d.filter (fun x => decide ((pk es x).path = p))).map (pk es) := by
      intro d
      unfold pm
      rw [List.filter_map]
      rfl
    rw [e2 d, e1, ← e2 (idx es.length), pm_idx]
end Go.Proofs.Ytlfffpgokemjbaa.U
