/- What is sorted is one alone; what a format keeps; the first entries of a tree. No Go text in sight. -/
import Derived.Test.YtlfffpgokemjbaaUThe
import Derived.Test.YtlfffpgokemjbaaUChk
import Derived.Test.YtlfffpgokemjbaaUPrj
import Derived.Test.YtlfffpgokemjbaaUCan
namespace Go.Proofs.Ytlfffpgokemjbaa.U
set_option maxRecDepth 100000
open Go Go.RowKit
set_option linter.unusedVariables false
theorem path_eq {a b : ByteArray} (h : gtB a b = false) (k : gtB b a = false) : a = b := by
  rw [← Bool.not_eq_true, gt_iff] at h k
  rcases bl_tri a.toList b.toList with q | q | q
  · exact absurd q k
  · exact bytes_ext q
  · exact absurd q h
/-- Rising lists in which the entries of each path are the same, in their order, are the same. -/
theorem sorted_one : ∀ {l k : List En}, Sorted l → Sorted k → (∀ p, l.filter (fun e => decide (e.path = p)) = k.filter (fun e => decide (e.path = p))) → l = k
  | [], [], _, _, _ => rfl
  | [], y :: s, _, _, h => by
    have := h y.path
    rw [List.filter_cons_of_pos (by simp)] at this
    simp at this
  | x :: r, [], _, _, h => by
    have := h x.path
    rw [List.filter_cons_of_pos (by simp)] at this
    simp at this
  | x :: r, y :: s, hl, hk, h => by
    have hl' := List.pairwise_cons.1 hl
    have hk' := List.pairwise_cons.1 hk
    have irr : ∀ a : ByteArray, gtB a a = false := fun a => by rw [← Bool.not_eq_true, gt_iff, bl_irr]; exact Bool.false_ne_true
    have a1 : gtB y.path x.path = false := by
      have hm : x ∈ (y :: s).filter (fun e => decide (e.path = x.path)) := by rw [← h x.path]; simp
      rcases List.mem_cons.1 (List.mem_filter.1 hm).1 with rfl | g
      · exact irr _
      · exact hk'.1 x g
    have a2 : gtB x.path y.path = false := by
      have hm : y ∈ (x :: r).filter (fun e => decide (e.path = y.path)) := by rw [h y.path]; simp
      rcases List.mem_cons.1 (List.mem_filter.1 hm).1 with rfl | g
      · exact irr _
      · exact hl'.1 y g
    have e := path_eq a2 a1
    have hx := h x.path
    rw [List.filter_cons_of_pos (by simp), List.filter_cons_of_pos (by simpa using e.symm)] at hx
    obtain ⟨rfl, hr⟩ := List.cons.inj hx
    congr 1
    refine sorted_one hl'.2 hk'.2 (fun p => ?_)
    by_cases hp : x.path = p
    · subst hp; exact hr
    · have := h p
      rw [List.filter_cons_of_neg (by simpa using hp), List.filter_cons_of_neg (by simpa using hp)] at this
      exact this
theorem srt_one {es k : List En} (hk : Sorted k) (h : ∀ p, k.filter (fun e => decide (e.path = p)) = es.filter (fun e => decide (e.path = p))) : k = srt es :=
  sorted_one hk (srt_sorted es) (fun p => by rw [srt_filter]; exact h p)
theorem flo_flo (t : Int) : T.flo (T.flo t 100) 100 = T.flo t 100 := by
  by_cases h : t / 100 * 100 < -9223372036854775808
  · have e : T.flo t 100 = t := by unfold T.flo; rw [if_neg (by omega), if_pos h]
    rw [e, e]
  · have e : T.flo t 100 = t / 100 * 100 := by unfold T.flo; rw [if_neg (by omega), if_neg h]
    rw [e]
    unfold T.flo
    rw [if_neg (by omega), if_neg (by omega)]
    omega
theorem keep_keep (f : Int) (m : En) : keep1 f (keep1 f m) = keep1 f m := by
  by_cases h : f = 1
  · simp [keep1, h, flo_flo]
  · simp [keep1, h]
theorem prj_prj (f : Int) (es : List En) : prj f (prj f es) = prj f es := by
  simp only [prj, List.map_map]
  apply List.map_congr_left
  intro m _
  exact keep_keep f m
theorem keep_same (f : Int) (m : En) : (keep1 f m).kind = m.kind ∧ (keep1 f m).path = m.path ∧ (keep1 f m).target = m.target ∧ (keep1 f m).mode = m.mode ∧ (keep1 f m).data = m.data := by
  by_cases h : f = 1 <;> simp [keep1, h]
theorem keep_right (f : Int) (m : En) : Right (keep1 f m) ↔ Right m := by
  unfold keep1
  split <;> exact Iff.rfl
theorem prj_at (f : Int) (es : List En) (i : Nat) : (prj f es)[i]? = (es[i]?).map (keep1 f) := by simp [prj]
theorem keep_clean (f : Int) (es : List En) (i : Nat) (m : En) : (Twice (prj f es) i (keep1 f m) ↔ Twice es i m) ∧ (Falls (prj f es) i (keep1 f m) ↔ Falls es i m) ∧ (Under (prj f es) i (keep1 f m) ↔ Under es i m) := by
  obtain ⟨_, hp, _⟩ := keep_same f m
  unfold Twice Falls Under
  rw [hp]
  refine ⟨⟨?_, ?_⟩, ⟨?_, ?_⟩, ⟨?_, ?_⟩⟩
  · rintro ⟨p, h0, h1, h2⟩
    rw [prj_at, Option.map_eq_some_iff] at h1
    obtain ⟨q, h1, rfl⟩ := h1
    exact ⟨q, h0, h1, by rw [(keep_same f q).2.1] at h2; exact h2⟩
  · rintro ⟨p, h0, h1, h2⟩
    exact ⟨keep1 f p, h0, by rw [prj_at, h1]; rfl, by rw [(keep_same f p).2.1]; exact h2⟩
  · rintro ⟨p, h0, h1, h2⟩
    rw [prj_at, Option.map_eq_some_iff] at h1
    obtain ⟨q, h1, rfl⟩ := h1
    exact ⟨q, h0, h1, by rw [(keep_same f q).2.1] at h2; exact h2⟩
  · rintro ⟨p, h0, h1, h2⟩
    exact ⟨keep1 f p, h0, by rw [prj_at, h1]; rfl, by rw [(keep_same f p).2.1]; exact h2⟩
  · rintro ⟨k, p, h0, h1, h2, h3⟩
    rw [prj_at, Option.map_eq_some_iff] at h1
    obtain ⟨q, h1, rfl⟩ := h1
    exact ⟨k, q, h0, h1, by rw [(keep_same f q).2.1] at h2; exact h2, by rw [(keep_same f q).1] at h3; exact h3⟩
  · rintro ⟨k, p, h0, h1, h2, h3⟩
    exact ⟨k, keep1 f p, h0, by rw [prj_at, h1]; rfl, by rw [(keep_same f p).2.1]; exact h2, by rw [(keep_same f p).1]; exact h3⟩
theorem keep_clean1 (f : Int) (es : List En) (i : Nat) (m : En) : Clean1 (prj f es) i (keep1 f m) ↔ Clean1 es i m := by
  obtain ⟨h1, h2, h3⟩ := keep_clean f es i m
  unfold Clean1
  rw [keep_right, h1, h2, h3, (keep_same f m).2.2.2.2]
theorem keep_tells (f : Int) (es : List En) (i : Nat) (m : En) (c : Int) : Tells (prj f es) i (keep1 f m) c ↔ Tells es i m c := by
  obtain ⟨h1, h2, h3⟩ := keep_clean f es i m
  unfold Tells
  rw [keep_right, h1, h2, h3, (keep_same f m).2.2.2.2]
/-- What is told of a tree is told of what a format keeps of it. -/
theorem chk_prj {f : Int} {es : List En} {c : Int} (h : Chk es c) : Chk (prj f es) c := by
  have hl : (prj f es).length = es.length := by simp [prj]
  rcases h with ⟨h0, h⟩ | ⟨h0, h⟩
  · exact .inl ⟨by omega, h⟩
  · refine .inr ⟨by omega, ?_⟩
    rcases h with ⟨h, ha⟩ | ⟨i, m, hm, ha, ht⟩
    · refine .inl ⟨h, fun i m hm => ?_⟩
      rw [prj_at, Option.map_eq_some_iff] at hm
      obtain ⟨q, hm, rfl⟩ := hm
      exact (keep_clean1 f es i q).2 (ha i q hm)
    · refine .inr ⟨i, keep1 f m, by rw [prj_at, hm]; rfl, fun j p hj hp => ?_, (keep_tells f es i m c).2 ht⟩
      rw [prj_at, Option.map_eq_some_iff] at hp
      obtain ⟨q, hp, rfl⟩ := hp
      exact (keep_clean1 f es j q).2 (ha j q hj hp)
theorem keep_can {f : Int} {m : En} (h : CanE f m) : CanE f (keep1 f m) := by
  by_cases hf : f = 1
  · subst hf
    refine ⟨fun q => by omega, fun q => h.2 ⟨rfl, ?_⟩⟩
    have e : (keep1 1 m).time / 100 = m.time / 100 := by
      show (T.flo m.time 100) / 100 = _
      unfold T.flo
      rw [if_neg (by omega)]
      split <;> omega
    rw [← e]
    exact q.2
  · rw [show keep1 f m = m from if_neg hf]
    exact h
/-- The first entries of a tree are a tree. -/
theorem clean_take {es : List En} {n i : Nat} {m : En} (hi : i < n) (h : Clean1 es i m) : Clean1 (es.take n) i m := by
  obtain ⟨h1, h2, h3, h4, h5⟩ := h
  refine ⟨h1, h2, fun q => h3 ?_, fun q => h4 ?_, fun q => h5 ?_⟩
  · obtain ⟨p, a, b, c⟩ := q
    exact ⟨p, a, by rw [List.getElem?_take, if_pos (by omega)] at b; exact b, c⟩
  · obtain ⟨p, a, b, c⟩ := q
    exact ⟨p, a, by rw [List.getElem?_take, if_pos (by omega)] at b; exact b, c⟩
  · obtain ⟨k, p, a, b, c, d⟩ := q
    exact ⟨k, p, a, by rw [List.getElem?_take, if_pos (by omega)] at b; exact b, c, d⟩
theorem chk_take {es : List En} (n : Nat) (h : Chk es 0) : Chk (es.take n) 0 := by
  rcases h with ⟨_, h⟩ | ⟨h0, ⟨_, h⟩ | ⟨i, m, _, _, ht⟩⟩
  · omega
  · refine .inr ⟨by rw [List.length_take]; omega, .inl ⟨rfl, fun i m hm => ?_⟩⟩
    have hi : i < n := by have := (List.getElem?_eq_some_iff.1 hm).1; rw [List.length_take] at this; omega
    rw [List.getElem?_take, if_pos hi] at hm
    exact clean_take hi (h i m hm)
  · exact absurd rfl ht.not.2
end Go.Proofs.Ytlfffpgokemjbaa.U
