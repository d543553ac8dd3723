/- What is sorted: theory of ins and srt. No Go text in sight. -/
import Derived.Test.YtlfffpgokemjbabUSrt
namespace Go.Proofs.Ytlfffpgokemjbab.U
set_option maxRecDepth 100000
open Go Go.RowKit
set_option linter.unusedVariables false
theorem u8_tri (a b : UInt8) : a < b ∨ a = b ∨ b < a := by
  rcases Nat.lt_trichotomy a.toNat b.toNat with h | h | h
  · exact .inl h
  · exact .inr (.inl (UInt8.toNat_inj.1 h))
  · exact .inr (.inr h)
theorem u8_irr (a : UInt8) : ¬ a < a := fun h => Nat.lt_irrefl a.toNat h
theorem u8_trans {a b c : UInt8} (h : a < b) (k : b < c) : a < c := Nat.lt_trans (show a.toNat < b.toNat from h) k
theorem bl_cons (a b : UInt8) (x y : List UInt8) : Op.bytesLess (a :: x) (b :: y) = true ↔ a < b ∨ (a = b ∧ Op.bytesLess x y = true) := by
  simp [Op.bytesLess]
theorem bl_irr : ∀ x : List UInt8, Op.bytesLess x x = false
  | [] => rfl
  | a :: x => by
    rw [← Bool.not_eq_true, bl_cons, bl_irr x]
    rintro (h | ⟨_, h⟩)
    · exact u8_irr a h
    · cases h
theorem bl_tri : ∀ x y : List UInt8, Op.bytesLess x y = true ∨ x = y ∨ Op.bytesLess y x = true
  | [], [] => .inr (.inl rfl)
  | [], b :: y => .inl rfl
  | a :: x, [] => .inr (.inr rfl)
  | a :: x, b :: y => by
    rw [bl_cons, bl_cons]
    rcases u8_tri a b with h | rfl | h
    · exact .inl (.inl h)
    · rcases bl_tri x y with k | rfl | k
      · exact .inl (.inr ⟨rfl, k⟩)
      · exact .inr (.inl rfl)
      · exact .inr (.inr (.inr ⟨rfl, k⟩))
    · exact .inr (.inr (.inl h))
theorem bl_trans : ∀ {x y z : List UInt8}, Op.bytesLess x y = true → Op.bytesLess y z = true → Op.bytesLess x z = true
  | [], [], z, h, _ => by simp [Op.bytesLess] at h
  | [], b :: y, [], _, k => by simp [Op.bytesLess] at k
  | [], b :: y, c :: z, _, _ => rfl
  | a :: x, [], z, h, _ => by simp [Op.bytesLess] at h
  | a :: x, b :: y, [], _, k => by simp [Op.bytesLess] at k
  | a :: x, b :: y, c :: z, h, k => by
    rw [bl_cons] at h k ⊢
    rcases h with h | ⟨rfl, h⟩ <;> rcases k with k | ⟨rfl, k⟩
    · exact .inl (u8_trans h k)
    · exact .inl h
    · exact .inl k
    · exact .inr ⟨rfl, bl_trans h k⟩
theorem gt_iff {a b : ByteArray} : gtB a b = true ↔ Op.bytesLess b.toList a.toList = true := by
  unfold gtB
  rw [Bool.not_eq_true', Bool.or_eq_false_iff]
  constructor
  · rintro ⟨h1, h2⟩
    rcases bl_tri a.toList b.toList with h | h | h
    · rw [h] at h1; cases h1
    · rw [h] at h2; simp at h2
    · exact h
  · intro h
    refine ⟨?_, ?_⟩
    · rw [← Bool.not_eq_true]
      intro k
      have := bl_trans h k
      rw [bl_irr] at this
      cases this
    · rw [← Bool.not_eq_true, beq_iff_eq]
      intro k
      rw [k, bl_irr] at h
      cases h
theorem gt_asym {a b : ByteArray} (h : gtB a b = true) : gtB b a = false := by
  rw [← Bool.not_eq_true, gt_iff]
  intro k
  have := bl_trans (gt_iff.1 h) k
  rw [bl_irr] at this
  cases this
theorem le_trans' {a b c : ByteArray} (h : gtB a b = false) (k : gtB b c = false) : gtB a c = false := by
  rw [← Bool.not_eq_true, gt_iff] at h k ⊢
  intro g
  rcases bl_tri b.toList a.toList with q | q | q
  · exact h q
  · rw [q] at k; exact k g
  · exact k (bl_trans g q)
theorem gt_le {a b c : ByteArray} (h : gtB a b = true) (k : gtB a c = false) : gtB c b = true := by
  rw [← Bool.not_eq_true, gt_iff] at k
  rw [gt_iff] at h ⊢
  rcases bl_tri b.toList c.toList with q | q | q
  · exact q
  · rw [q] at h; exact absurd h k
  · exact absurd (bl_trans q h) k
/-- Rising paths. -/
def Sorted (l : List En) : Prop := l.Pairwise fun a b => gtB a.path b.path = false
theorem mem_ins {x y : En} : ∀ {l : List En}, y ∈ ins x l ↔ y = x ∨ y ∈ l
  | [] => by simp [ins]
  | z :: r => by
    unfold ins
    split
    · simp
    · rw [List.mem_cons, mem_ins, List.mem_cons]
      constructor
      · rintro (h | h | h)
        · exact .inr (.inl h)
        · exact .inl h
        · exact .inr (.inr h)
      · rintro (h | h | h)
        · exact .inr (.inl h)
        · exact .inl h
        · exact .inr (.inr h)
theorem ins_sorted {x : En} : ∀ {l : List En}, Sorted l → Sorted (ins x l)
  | [], _ => List.pairwise_singleton _ _
  | z :: r, h => by
    have h' := List.pairwise_cons.1 h
    unfold ins
    split
    case isTrue hg =>
      refine List.pairwise_cons.2 ⟨fun b hb => ?_, h⟩
      rcases List.mem_cons.1 hb with rfl | hb
      · exact gt_asym hg
      · exact le_trans' (gt_asym hg) (h'.1 b hb)
    case isFalse hg =>
      refine List.pairwise_cons.2 ⟨fun b hb => ?_, ins_sorted h'.2⟩
      rcases mem_ins.1 hb with rfl | hb
      · exact (Bool.not_eq_true _).mp hg
      · exact h'.1 b hb
theorem srt_foldl {P : List En → Prop} (hP : ∀ x l, P l → P (ins x l)) : ∀ (es out : List En), P out → P (es.foldl (fun out x => ins x out) out)
  | [], out, h => h
  | x :: r, out, h => by rw [List.foldl_cons]; exact srt_foldl hP r _ (hP x out h)
theorem srt_sorted (es : List En) : Sorted (srt es) := srt_foldl (P := Sorted) (fun x l h => ins_sorted h) es [] List.Pairwise.nil
theorem ins_last {x : En} : ∀ {l : List En}, (∀ y ∈ l, gtB y.path x.path = false) → ins x l = l ++ [x]
  | [], _ => rfl
  | z :: r, h => by
    unfold ins
    rw [if_neg (by rw [h z (List.mem_cons_self ..)]; exact Bool.false_ne_true), ins_last (fun y hy => h y (List.mem_cons_of_mem _ hy))]
    rfl
theorem srt_app : ∀ (es out : List En), Sorted (out ++ es) → es.foldl (fun out x => ins x out) out = out ++ es
  | [], out, _ => by simp
  | x :: r, out, h => by
    rw [List.foldl_cons, ins_last (fun y hy => (List.pairwise_append.1 h).2.2 y hy x (List.mem_cons_self ..)), srt_app r (out ++ [x]) (by simpa using h)]
    simp
/-- What is sorted stays as it is; sorted twice is sorted once. -/
theorem srt_of {es : List En} (h : Sorted es) : srt es = es := srt_app es [] (by simpa using h)
theorem srt_twice (es : List En) : srt (srt es) = srt es := srt_of (srt_sorted es)
/-- The entries of one path stand in their order. -/
theorem ins_filter {x : En} {p : ByteArray} : ∀ {l : List En}, Sorted l → (ins x l).filter (fun e => decide (e.path = p)) = if x.path = p then l.filter (fun e => decide (e.path = p)) ++ [x] else l.filter (fun e => decide (e.path = p))
  | [], _ => by
    by_cases h : x.path = p <;> simp [ins, h]
  | z :: r, h => by
    have h' := List.pairwise_cons.1 h
    unfold ins
    split
    case isTrue hg =>
      by_cases hx : x.path = p
      · have hno : ∀ e ∈ z :: r, ¬ e.path = p := fun e he q => by
          have e1 : gtB e.path x.path = true := by
            rcases List.mem_cons.1 he with rfl | he
            · exact hg
            · exact gt_le hg (h'.1 e he)
          rw [q, ← hx, gt_iff, bl_irr] at e1
          cases e1
        have e0 : (z :: r).filter (fun e => decide (e.path = p)) = [] := List.filter_eq_nil_iff.2 (fun e he => by simpa using hno e he)
        rw [List.filter_cons_of_pos (by simpa using hx), e0, if_pos hx]
        rfl
      · rw [List.filter_cons_of_neg (by simpa using hx), if_neg hx]
    case isFalse hg =>
      have ih := ins_filter (x := x) (p := p) h'.2
      by_cases hz : z.path = p
      · rw [List.filter_cons_of_pos (by simpa using hz), ih, List.filter_cons_of_pos (by simpa using hz)]
        by_cases hx : x.path = p <;> simp [hx]
      · rw [List.filter_cons_of_neg (by simpa using hz), ih, List.filter_cons_of_neg (by simpa using hz)]
theorem srt_filter (p : ByteArray) (es : List En) : (srt es).filter (fun e => decide (e.path = p)) = es.filter (fun e => decide (e.path = p)) := by
  have key : ∀ (es out : List En), Sorted out → (es.foldl (fun out x => ins x out) out).filter (fun e => decide (e.path = p)) = out.filter (fun e => decide (e.path = p)) ++ es.filter (fun e => decide (e.path = p)) := by
    intro es
    induction es with
    | nil => intro out _; simp
    | cons x r ih =>
      intro out h
      rw [List.foldl_cons, ih _ (ins_sorted h), ins_filter h]
      by_cases hx : x.path = p <;> simp [hx]
  have := key es [] List.Pairwise.nil
  simpa [srt] using this
end Go.Proofs.Ytlfffpgokemjbab.U
