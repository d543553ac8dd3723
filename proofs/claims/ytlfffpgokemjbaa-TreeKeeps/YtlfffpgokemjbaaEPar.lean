/- A range over a text in any world; Parents, the program's and the reference's: contracts. -/
import Derived.Test.YtlfffpgokemjbaaEVal
namespace Go.Proofs.Ytlfffpgokemjbaa.E
set_option maxRecDepth 100000
open Go Go.RowKit
set_option linter.unusedVariables false

/-- What a range over a text makes of the bytes at a place. -/
def dcd (t : List UInt8) : Nat × Nat := if (ltr t).2 = 0 then (65533, 1) else ltr t
theorem dcd_yes {t : List UInt8} (h : bt t 0 = 47) (hn : t ≠ []) : dcd t = (47, 1) := by
  rw [dcd, ltr_1 hn (by omega), h]
  rfl
theorem dcd_pos {t : List UInt8} (hn : t ≠ []) : 1 ≤ (dcd t).2 ∧ (dcd t).2 ≤ t.length := by
  have hl : 0 < t.length := List.length_pos_iff.2 hn
  have hle := ltr_le t
  unfold dcd
  split
  · exact ⟨Nat.le_refl _, hl⟩
  · exact ⟨by omega, hle⟩
theorem dcd_no {t : List UInt8} (h : bt t 0 ≠ 47) (hn : t ≠ []) : (dcd t).1 ≠ 47 ∧ ∀ i, i < (dcd t).2 → bt t i ≠ 47 := by
  unfold dcd
  split
  · refine ⟨by decide, fun i hi => ?_⟩
    obtain rfl : i = 0 := by simp at hi; exact hi
    exact h
  · rename_i hz
    refine ⟨?_, fun i hi => ?_⟩
    · rcases ltr_cases t with e | ⟨_, h0, e⟩ | ⟨_, h0, e⟩ | ⟨_, h0, e⟩ | ⟨_, h0, e⟩
      · rw [e] at hz; exact absurd rfl hz
      · rw [e]; exact h
      · rw [e]; have := h0.2.2.2.2; simp only; omega
      · rw [e]; have := h0.2.2.2.2.2.1; simp only; omega
      · rw [e]; have := h0.2.2.2.2.2.2.1; simp only; omega
    · by_cases h0 : i = 0
      · subst h0; exact h
      · have := ltr_goes (l := t) (k := i) (by omega) hi
        omega
theorem dec_dcd (s : ByteArray) (pos : Nat) (h : pos < s.size) : Utf8.decode s pos = dcd (s.data.toList.drop pos) := dec_ltr s pos h
theorem bt_dropd (l : List UInt8) (pos i : Nat) : bt (l.drop pos) i = bt l (pos + i) := by
  unfold bt
  simp only [List.getD, List.getElem?_drop]

/-- A range over a text, one letter on, in a world in which its iterator lies somewhere. -/
theorem next_at (w : World) (it : Nat) (s : ByteArray) (pos : Nat) (hi : w.heap[it]? = some (.stringIter s pos)) (h : pos < s.size) :
    ∃ w2, (∀ ty, (Instr.next (.pointer (some ⟨it, 0, none⟩)) true ty).run Try.prog w = .ok (.tuple #[.bool true, .int .i64 pos, .int .i32 (dcd (s.data.toList.drop pos)).1]) w2) ∧ w2.heap[it]? = some (.stringIter s (pos + (dcd (s.data.toList.drop pos)).2)) ∧ Kept (fun k => k = it) w w2 := by
  refine ⟨{ w with heap := w.heap.setIfInBounds it (.stringIter s (pos + (Utf8.decode s pos).2)) }, fun ty => ?_, ?_, ?_⟩
  · simp only [Instr.next, getObj, setObj, Sem.run_bind, Sem.run, hi, Result.andThen, h, if_true]
    rw [dec_dcd s pos h]
    simp [goInt]
  · rw [dec_dcd s pos h]
    show (w.heap.setIfInBounds it _)[it]? = _
    rw [Array.getElem?_setIfInBounds, if_pos rfl, if_pos (lt_of_block' hi)]
  · exact ⟨rfl, rfl, rfl, by simp, fun k _ hn => by
      show (w.heap.setIfInBounds it _)[k]? = _
      rw [Array.getElem?_setIfInBounds, if_neg (fun e => hn e.symm)]⟩
theorem next_none (w : World) (it : Nat) (s : ByteArray) (pos : Nat) (hi : w.heap[it]? = some (.stringIter s pos)) (h : ¬ pos < s.size) :
    ∀ ty, (Instr.next (.pointer (some ⟨it, 0, none⟩)) true ty).run Try.prog w = .ok (.tuple #[.bool false]) w := fun ty => by
  simp [Instr.next, getObj, Sem.run, hi, h]
theorem infoS : (Try.prog.info? 9).map (fun i => (i.zero, i.size, i.bytes)) = some (some (.string ByteArray.empty), 1, 16) := by kernel_rfl
def ParOk (l : List UInt8) (w : World) (e : Ending) (w' : World) : Prop := ∃ v, e = .returned v ∧ Own 9 fS w' w.heap.size v (prs l l.length) ∧ Below w.heap.size w w'
theorem prs_le (l : List UInt8) (k : Nat) : (prs l k).length ≤ k := by
  rw [prs, List.length_map]
  exact Nat.le_trans (List.length_filter_le _ _) (by simp)
/-- Ranging: the iterator, and a row of one's own behind it. -/
structure It {α : Type} (T : TypeId) (f : α → Value) (w : World) (s : ByteArray) (pos : Nat) (v : Value) (X : List α) (wx : World) : Prop where
  it : wx.heap[w.heap.size]? = some (.stringIter s pos)
  own : Own T f wx (w.heap.size + 1) v X
  bel : Below w.heap.size w wx
theorem It.next {α : Type} {T : TypeId} {f : α → Value} {w : World} {s : ByteArray} {pos pos' : Nat} {v : Value} {X : List α} {wx w2 : World} (h : It T f w s pos v X wx) (h1 : w2.heap[w.heap.size]? = some (.stringIter s pos')) (h2 : Kept (fun k => k = w.heap.size) wx w2) : It T f w s pos' v X w2 :=
  ⟨h1, ownsRow_kept h.own h2 (fun g hg e => by have := (ownsRow_lt h.own hg).1; omega), h.bel.trans (h2.below h.bel.size (fun i hi e => by omega))⟩
theorem It.push {α : Type} {T : TypeId} {f : α → Value} {w : World} {s : ByteArray} {pos : Nat} {v v' : Value} {X X' : List α} {wx w2 : World} (h : It T f w s pos v X wx) (h1 : Own T f w2 (w.heap.size + 1) v' X') (h2 : wx.grownBy w2 v.ownBlock) : It T f w s pos v' X' w2 :=
  ⟨(Kept.of_grown h2).heap h.it (fun e => by have := (ownsRow_lt h.own e.symm).1; omega), h1, growO h.own (by omega) h.bel h2⟩
theorem It.alloc {α : Type} {T : TypeId} {f : α → Value} {w : World} {s : ByteArray} {pos : Nat} {v : Value} {X : List α} {wx : World} (h : It T f w s pos v X wx) (o : Obj) : It T f w s pos v X (wx.alloc o) :=
  ⟨by rw [Below.heap_alloc _ _ _ (lt_of_block' h.it)]; exact h.it, h.own.alloc o, h.bel.alloc h.bel.size o⟩
theorem It.begin {α : Type} (T : TypeId) (f : α → Value) (w : World) (s : ByteArray) : It T f w s 0 (.slice none 0 0) ([] : List α) (w.iter s 0) := ⟨World.iter_heap _ _ _, Own.nil _ _, iter_below _ _ _⟩
theorem Own.low {α : Type} {T : TypeId} {f : α → Value} {w : World} {base base' : Nat} {v : Value} {xs : List α} (h : Own T f w base v xs) (hb : base' ≤ base) : Own T f w base' v xs := by
  refine ⟨h.1, ?_⟩
  rcases h.2 with h2 | ⟨g, cap, cur, e, h3, r⟩
  · exact .inl h2
  · exact .inr ⟨g, cap, cur, e, Nat.le_trans hb h3, r⟩

set_option maxHeartbeats 8000000 in
theorem parents_c (s : ByteArray) (hsm : s.size ≤ 8000000000000) (w : World) : Calls Try.prog 41 #[.string s] w (ParOk s.data.toList w) := by
  have HLS := hide (len_eq s)
  have HSM := hide hsm
  have HNA := fun wx pos h1 h2 => hide (next_at wx w.heap.size s pos h1 h2)
  have HUP := fun pos => hide (show s.extract 0 pos = tx (s.data.toList.take pos) from tx_upto s.data.toList pos)
  obtain ⟨l, hl⟩ : ∃ l, l = s.data.toList := ⟨_, rfl⟩
  rw [← hl] at HLS HUP
  rw [← hl] at HNA
  rw [← hl]
  have I0 := hide (It.begin 9 fS w s)
  clear hl hsm
  go_enter Try.func41, Try.ntmps41
  go_wp2_with fail
  generalize w.iter s 0 = wz at I0 ⊢
  go_loopg [3] s.size (fun gk u3 wx => ∃ pos : Nat, pos + gk = s.size ∧ Hid (It 9 fS w s pos u3 (prs l pos) wx))
  case atStart => exact ⟨0, by omega, I0⟩
  case round =>
    obtain ⟨pos, hg, IX⟩ := hrel
    clear I0
    by_cases h : pos < s.size
    · obtain ⟨w2, hnx, hi2, hk2⟩ := (HNA wr pos IX.out.it h).out
      have I2 := hide (IX.out.next hi2 hk2)
      have hne : l.drop pos ≠ [] := fun e => by have := congrArg List.length e; rw [List.length_drop, HLS.out] at this; simp at this; omega
      have hdp := dcd_pos hne
      rw [List.length_drop, HLS.out] at hdp
      have hu := bt_dropd l pos 0
      by_cases h47 : bt (l.drop pos) 0 = 47
      · rw [dcd_yes h47 hne] at hnx I2
        have HPY := hide (prs_yes l pos (by rw [← h47, hu]; rfl)).symm
        have hpi : (0 : Int) ≤ (pos : Int) ∧ (pos : Int) ≤ (s.size : Int) := by omega
        have hpl := prs_le l pos
        have hb16 : ((prs l pos).length + 1) * 16 ≤ 140737488355328 := by have := HSM.out; omega
        have HB := hide hb16
        have I3 := hide (It.alloc I2.out (.cells #[.string (s.extract 0 pos)] 9))
        have q : ((47 : Nat) : Int) = 47 := rfl
        have HF : Hid (fS (l.take pos) = .string (s.extract 0 pos)) := hide (by rw [(HUP pos).out]; rfl)
        clear IX h47 hu hne hdp hi2 hk2 hpl hb16 HUP I2
        obtain ⟨sx, hsx⟩ : ∃ sx, sx = s.extract 0 pos := ⟨_, rfl⟩
        have HSX := hide hsx
        go_wp2_with (refine wpList_app1 Try.underlying41 infoS rfl _ rfl (.tmp 14) (.tmp 18) rfl (w.heap.size + 1) _ (prs l pos) (by rfl) I3.out.own (l.take pos) w2.heap.size 1 (by rfl) (by rw [HF.out]; exact cells_of (heap_new w2 _) 0) rfl HB.out (by decide) (by have := lt_of_block' I3.out.it; omega) ?_; intro v3 w3 h3 k3; have I4 := hide (It.push I3.out h3 k3); clear h3 k3)
        rw [HPY.out] at I4
        go_roundg (gk - 1)
        case measure => omega
        case rel => exact ⟨pos + 1, by omega, I4⟩
      · obtain ⟨hv, hb⟩ := dcd_no h47 hne
        have HPN := hide (prs_skip l pos (dcd (l.drop pos)).2 (fun i hi => by rw [← bt_dropd]; exact hb i hi)).symm
        generalize (dcd (l.drop pos)).2 = n at *
        generalize (dcd (l.drop pos)).1 = v at *
        have hv1 : ¬ (v : Int) = 47 := by omega
        have hvb : ((v : Int) == 47) = false := by simpa using hv1
        rw [HPN.out] at I2
        clear IX h47 hu hne hi2 hk2 hb hv HPN
        go_wp2_with fail
        go_roundg (gk - n)
        case measure => omega
        case rel => exact ⟨pos + n, by omega, I2⟩
    · have hnx := next_none wr w.heap.size s pos IX.out.it h
      obtain rfl : pos = s.size := by omega
      go_wp2_with fail
      go_ret
      exact ⟨_, rfl, by rw [HLS.out]; exact Own.low IX.out.own (by omega), IX.out.bel⟩
end Go.Proofs.Ytlfffpgokemjbaa.E
