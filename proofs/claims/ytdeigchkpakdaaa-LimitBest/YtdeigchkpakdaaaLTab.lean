/- The reference's tables: rows of rows of numbers; the first one. -/
import Derived.Test.YtdeigchkpakdaaaLRefS
namespace Go.Proofs.Ytdeigchkpakdaaa
open Go Go.RowKit

def tabVs (m : Nat) (gs : List Nat) : List Value := gs.map fun g => .slice (some ⟨g, 0, none⟩) m m
theorem tabVs_length (m : Nat) (gs : List Nat) : (tabVs m gs).length = gs.length := by simp [tabVs]
theorem tabVs_at (m : Nat) (gs : List Nat) {i : Nat} (h : i < gs.length) : (tabVs m gs)[i]? = some (.slice (some ⟨gs.getD i 0, 0, none⟩) m m) := by simp [tabVs, List.getD, h]
theorem gd_left {gs : List Nat} {g i : Nat} (h : i < gs.length) : (gs ++ [g]).getD i 0 = gs.getD i 0 := by simp only [List.getD, List.getElem?_append_left h]
theorem gd_right (gs : List Nat) (g : Nat) : (gs ++ [g]).getD gs.length 0 = g := by simp [List.getD]
/-- A table in memory: its rows, each of m numbers. -/
structure TabAt (lo m : Nat) (w : World) (v : Value) (gs : List Nat) (T : Nat → List Int) : Prop where
  owns : w.ownsRow lo 22 1 v gs.length (tabVs m gs)
  rows : ∀ i, i < gs.length → lo ≤ gs.getD i 0 ∧ Ro (gs.getD i 0) #[] (T i) w ∧ (T i).length = m
  dist : ∀ i j, i < gs.length → j < gs.length → i ≠ j → gs.getD i 0 ≠ gs.getD j 0
theorem TabAt.kept {lo m : Nat} {w w' : World} {v : Value} {gs : List Nat} {T : Nat → List Int} {M : Nat → Prop} (h : TabAt lo m w v gs T) (k : Kept M w w') (hn : ∀ b, lo ≤ b → b < w.heap.size → ¬ M b) : TabAt lo m w' v gs T :=
  ⟨ownsRow_kept h.owns k (fun g hg => hn g (ownsRow_lt h.owns hg).1 (ownsRow_lt h.owns hg).2), fun i hi => ⟨(h.rows i hi).1, (h.rows i hi).2.1.kept k (hn _ (h.rows i hi).1 (h.rows i hi).2.1.lt), (h.rows i hi).2.2⟩, h.dist⟩
theorem TabAt.stay {lo m : Nat} {w w' : World} {v : Value} {gs : List Nat} {T : Nat → List Int} (h : TabAt lo m w v gs T) (k : Below w.heap.size w w') : TabAt lo m w' v gs T := h.kept (Kept.of_below k) (fun b _ h2 h3 => by omega)
theorem TabAt.low {lo lo' m : Nat} {w : World} {v : Value} {gs : List Nat} {T : Nat → List Int} (h : TabAt lo m w v gs T) (hl : lo' ≤ lo) : TabAt lo' m w v gs T := by
  refine ⟨?_, fun i hi => ⟨by have := (h.rows i hi).1; omega, (h.rows i hi).2⟩, h.dist⟩
  obtain ⟨h1, h2⟩ := h.owns
  refine ⟨h1, ?_⟩
  rcases h2 with h2 | ⟨g, cap, cur, hv, hg, r⟩
  · exact .inl h2
  · exact .inr ⟨g, cap, cur, hv, by omega, r⟩
/-- One number written. -/
theorem TabAt.set {lo m : Nat} {w : World} {v : Value} {gs : List Nat} {T : Nat → List Int} (h : TabAt lo m w v gs T) {i r : Nat} (hi : i < gs.length) (hr : r < m) (x : Int) : TabAt lo m (w.setCell ⟨gs.getD i 0, r, none⟩ (.int .i64 x)) v gs (fun j => if j = i then (T i).set r x else T j) := by
  obtain ⟨q1, q2, q3⟩ := h.rows i hi
  have hk : Kept (fun b => b = gs.getD i 0) w (w.setCell ⟨gs.getD i 0, r, none⟩ (.int .i64 x)) := Kept.setCell (M := fun b => b = gs.getD i 0) (Kept.refl _ w) (fun _ => rfl) _
  refine ⟨ownsRow_kept h.owns hk (fun g hg e => ownsRow_apart h.owns q2 (by decide) (by rw [hg, e])), fun j hj => ?_, h.dist⟩
  by_cases e : j = i
  · subst e
    rw [if_pos rfl]
    exact ⟨q1, q2.set (by rw [q3]; exact hr) x, by rw [List.length_set]; exact q3⟩
  · rw [if_neg e]
    obtain ⟨p1, p2, p3⟩ := h.rows j hj
    exact ⟨p1, p2.kept hk (h.dist j i hj hi e), p3⟩
/-- The cells that are read. -/
theorem TabAt.row {lo m g0 c0 : Nat} {w : World} {gs : List Nat} {T : Nat → List Int} (h : TabAt lo m w (.slice (some ⟨g0, 0, none⟩) gs.length c0) gs T) {i : Nat} (hi : i < gs.length) : w.cell? ⟨g0, i, none⟩ = some (.slice (some ⟨gs.getD i 0, 0, none⟩) m m) := by
  rw [World.ownsRow.cellAt h.owns i (by omega), tabVs_at m gs hi]
theorem TabAt.cell {lo m : Nat} {w : World} {v : Value} {gs : List Nat} {T : Nat → List Int} (h : TabAt lo m w v gs T) {i r : Nat} (hi : i < gs.length) (hr : r < m) : w.cell? ⟨gs.getD i 0, r, none⟩ = some (.int .i64 (ln (T i) r)) := (h.rows i hi).2.1.cell (by rw [(h.rows i hi).2.2]; exact hr)
theorem TabAt.free {lo m : Nat} {w : World} {v : Value} {gs : List Nat} {T : Nat → List Int} (h : TabAt lo m w v gs T) {i : Nat} (hi : i < gs.length) (r : Nat) : w.frozen? ⟨gs.getD i 0, r, none⟩ = false := (h.rows i hi).2.1.free r
theorem TabAt.congr {lo m : Nat} {w : World} {v : Value} {gs : List Nat} {T U : Nat → List Int} (h : TabAt lo m w v gs T) (e : ∀ i, i < gs.length → U i = T i) : TabAt lo m w v gs U := ⟨h.owns, fun i hi => by rw [e i hi]; exact h.rows i hi, h.dist⟩

def NONE : Int := 1152921504606846976
theorem none_c (w : World) : Calls Try.prog 28 #[] w fun e w' => e = .returned (.int .i64 NONE) ∧ w' = w := by
  go_enter Try.func28, Try.ntmps28
  go_wp2_with fail
  go_ret
  exact ⟨rfl, rfl⟩
/-- A row that is filled place by place. -/
def filN (m k : Nat) : List Int := (List.range m).map fun j => if j < k then NONE else 0
theorem filN_length (m k : Nat) : (filN m k).length = m := by simp [filN]
theorem filN_zero (m : Nat) : filN m 0 = List.replicate m 0 := by
  apply List.ext_getElem?
  intro j
  by_cases h : j < m
  · simp [filN, h]
  · simp [filN, h]
theorem filN_all (m : Nat) : filN m m = List.replicate m NONE := by
  apply List.ext_getElem?
  intro j
  by_cases h : j < m
  · simp [filN, h]
  · simp [filN, h]
theorem filN_set (m k : Nat) (h : k < m) : (filN m k).set k NONE = filN m (k + 1) := by
  apply List.ext_getElem?
  intro j
  rw [List.getElem?_set, filN_length]
  by_cases e : k = j
  · subst e
    simp [filN, h]
  · rw [if_neg e]
    by_cases hj : j < m
    · have : j < k ↔ j < k + 1 := by omega
      simp [filN, hj, this]
    · simp [filN, hj]
theorem one_row (w : World) (x : Value) (n : Nat) (h : w.heap.size = n) : ∀ j u, [x][j]? = some u → (w.alloc (.cells #[x] 22)).cell? ((⟨n, 0, none⟩ : Addr).add j) = some u := by
  subst h; exact World.news_of_block (heap_new w (.cells #[x] 22))
theorem Try.infoInts : (Try.prog.info? 22).map (fun i => (i.zero, i.size, i.bytes)) = some (some (.slice none 0 0), 1, 24) := by kernel_rfl
theorem own_some' {w : World} {base e : Nat} {v : Value} {n : Nat} {xs : List Value} (h : w.ownsRow base e 1 v n xs) (h0 : 0 < n) : ∃ g cap, v = .slice (some ⟨g, 0, none⟩) n cap ∧ base ≤ g := by
  rcases h.2 with ⟨_, h2⟩ | ⟨g, cap, cur, hv, hg, _⟩
  · omega
  · exact ⟨g, cap, hv, hg⟩
/-- One row more. -/
theorem TabAt.push {lo m g : Nat} {w w1 w4 : World} {v v' : Value} {gs : List Nat} {T : Nat → List Int} {R : List Int} (h : TabAt lo m w v gs T) (hw : Below w.heap.size w w1) (hg : w.heap.size ≤ g) (hR : Ro g #[] R w1) (hl : R.length = m) (hlo : lo ≤ w.heap.size)
    (hown : w4.ownsRow lo 22 1 v' (gs.length + 1) (tabVs m gs ++ [.slice (some ⟨g, 0, none⟩) m m])) (hk : Kept (fun b => some b = v.ownBlock) w1 w4) : TabAt lo m w4 v' (gs ++ [g]) (fun i => if i < gs.length then T i else R) := by
  have hvb : ∀ b, some b = v.ownBlock → b < w.heap.size := fun b hb => (ownsRow_lt h.owns hb.symm).2
  refine ⟨?_, fun i hi => ?_, fun i j hi hj e => ?_⟩
  · have e : tabVs m (gs ++ [g]) = tabVs m gs ++ [.slice (some ⟨g, 0, none⟩) m m] := by simp [tabVs]
    rw [e, List.length_append]; exact hown
  · rw [List.length_append, List.length_singleton] at hi
    by_cases c : i < gs.length
    · rw [gd_left c, if_pos c]
      obtain ⟨p1, p2, p3⟩ := h.rows i c
      refine ⟨p1, Ro.kept (p2.kept (Kept.of_below hw) (by have := p2.lt; omega)) hk (fun e => ?_), p3⟩
      exact ownsRow_apart h.owns p2 (by decide) e.symm
    · have e : i = gs.length := by omega
      rw [e, gd_right, if_neg (by omega)]
      exact ⟨by omega, hR.kept hk (fun e => by have := hvb _ e; omega), hl⟩
  · rw [List.length_append, List.length_singleton] at hi hj
    have old : ∀ i, i < gs.length → gs.getD i 0 < w.heap.size := fun i hi => (h.rows i hi).2.1.lt
    by_cases ci : i < gs.length
    · by_cases cj : j < gs.length
      · rw [gd_left ci, gd_left cj]; exact h.dist i j ci cj e
      · have ej : j = gs.length := by omega
        rw [gd_left ci, ej, gd_right]
        have := old i ci; omega
    · have ei : i = gs.length := by omega
      have cj : j < gs.length := by omega
      rw [ei, gd_right, gd_left cj]
      have := old j cj; omega
theorem TabAt.empty (lo m : Nat) (w : World) (T : Nat → List Int) : TabAt lo m w (.slice none 0 0) [] T := ⟨World.ownsRow_nil _ _ _ _, fun i hi => by simp at hi, fun i j hi => by simp at hi⟩

/-- The first table: all none, but for one. -/
def T0 (n : Nat) (i : Nat) : List Int := if i = 0 then (List.replicate (n + 2) NONE).set 1 0 else List.replicate (n + 2) NONE
def TabOk (n : Nat) (T : Nat → List Int) (w : World) (e : Ending) (w' : World) : Prop := ∃ g0 c0 gs, e = .returned (.slice (some ⟨g0, 0, none⟩) (n + 1) c0) ∧ gs.length = n + 1 ∧ TabAt w.heap.size (n + 2) w' (.slice (some ⟨g0, 0, none⟩) (n + 1) c0) gs T ∧ Below w.heap.size w w'

set_option maxHeartbeats 2000000 in
set_option maxRecDepth 100000 in
theorem start_c (n : Nat) (w : World) (hn : n ≤ 40) : Calls Try.prog 21 #[.int .i64 n] w (TabOk n (T0 n) w) := by
  obtain ⟨i0, hi0, hz0, hz1', hz2'⟩ := info_parts Try.info3
  obtain ⟨i1, hi1, hy0, hy1', hy2'⟩ := info_parts Try.infoInts
  have hmk := made_ints (n + 2) i0 hi0 hz0 hz1' hz2' (by omega)
  obtain ⟨m, hm⟩ : ∃ m, n + 2 = m := ⟨_, rfl⟩
  have hm' : (n : Int) + 2 = (m : Int) := by omega
  have hm1 : m ≤ n + 2 := by omega
  have hm2 : n + 2 ≤ m := by omega
  have HM := hide hm
  rw [hm, ← filN_zero] at hmk
  clear hm
  go_enter Try.func21, Try.ntmps21
  go_wp2_with fail
  go_loopg [3, 4] (n + 1) (fun gk v3 v4 wx => ∃ gs : List Nat, gs.length + gk = n + 1 ∧ v4 = .int .i64 gs.length ∧ Hid (TabAt w.heap.size m wx v3 gs (fun _ => List.replicate m NONE)) ∧ Hid (Below w.heap.size w wx))
  case atStart => exact ⟨[], by simp, rfl, TabAt.empty _ _ _ _, Below.refl _ _⟩
  case round =>
    obtain ⟨gs, hig, rfl, HT, HB⟩ := hrel
    obtain ⟨W0, rfl⟩ : ∃ W, W = wr := ⟨wr, rfl⟩
    have hszw := HB.out.size
    cases gk with
    | zero =>
      have hle : ¬ (gs.length : Int) ≤ (n : Int) := by omega
      obtain ⟨g0, c0, rfl, hg0⟩ := own_some' HT.out.owns (by omega)
      have r0 := HT.out.row (i := 0) (by omega)
      have f0 := HT.out.free (i := 0) (by omega) 1
      have cl := HT.out.cell (i := 0) (r := 1) (by omega) (by omega)
      have HST := hide (HT.out.set (i := 0) (r := 1) (by omega) (by omega) 0)
      have HGL := hide (show gs.length = n + 1 by omega)
      have hm1' : (1 : Int) < (m : Int) := by omega
      have hg1' : (0 : Int) < (gs.length : Int) := by omega
      have HBS := hide (HB.out.setCell (p := ⟨gs.getD 0 0, 1, none⟩) (HT.out.rows 0 (by omega)).1 (.int .i64 0))
      generalize gs.getD 0 0 = gr at r0 f0 cl HST HBS
      generalize ln (List.replicate m NONE) 1 = V at cl
      go_wp2_with fail
      go_ret
      have hgl := HGL.out
      refine ⟨g0, c0, gs, by rw [← hgl]; rfl, hgl, ?_, HBS.out⟩
      rw [← hgl]
      have := HST.out
      rw [← HM.out] at this
      refine this.congr (fun i _ => ?_)
      unfold T0
      by_cases e : i = 0
      · subst e; simp
      · simp [e]
    | succ g1 =>
      have hle : (gs.length : Int) ≤ (n : Int) := by omega
      obtain ⟨a3, c3, rfl⟩ : ∃ a c, _ = Value.slice a gs.length c := own_form HT.out.owns
      go_wp2_with fail
      go_loopg [6] m (fun gj v6 wx => ∃ k : Nat, k + gj = m ∧ v6 = .int .i64 k ∧ Hid (Ro W0.heap.size #[] (filN m k) wx ∧ Below W0.heap.size W0 wx))
      case atStart => exact ⟨0, by omega, rfl, heap_new W0 _, (Below.refl _ W0).alloc (Nat.le_refl _) _⟩
      case round =>
        obtain ⟨k, hkg, rfl, HR⟩ := hrel
        cases gk with
        | zero =>
          obtain rfl : k = m := by omega
          have HR2 : Hid (Ro W0.heap.size #[] (List.replicate k NONE) wr) := by have := HR.out.1; rw [filN_all] at this; exact this
          have hszr : W0.heap.size ≤ wr.heap.size := HR.out.2.size
          have HOW := hide (ownsRow_kept HT.out.owns (Kept.of_below HR.out.2) (fun g hg e => by have := (ownsRow_lt HT.out.owns hg).2; omega))
          go_wp2_with (at_builtin; refine wpList_append_own _ rfl _ _ 38 rfl w.heap.size 22 i1 (.slice none 0 0) 1 24 Try.underlying38 hi1 hy0 hy1' hy2' rfl (by decide) _ _ _ rfl (World.ownsRow.alloc HOW.out _) ⟨_, 0, none⟩ 1 1 [.slice (some ⟨W0.heap.size, 0, none⟩) k k] rfl rfl (one_row _ _ _ (by simp)) (by intro u hu; simp at hu; subst hu; rfl) (by unfold maxLen; omega) (by omega) (by simp; omega) ?_; intro v' w4 hown' hgrow hnil; have HO4 := hide hown'; have HGR : Hid (World.grownBy _ w4 (Value.ownBlock (.slice a3 gs.length c3))) := hgrow; clear hown' hgrow hnil)
          go_roundg g1
          case measure => omega
          case rel =>
            refine ⟨gs ++ [W0.heap.size], by simp; omega, by simp, ?_, ?_⟩
            · have hk := Kept.of_grown HGR.out
              have hk2 : Kept (fun b => some b = (Value.slice a3 gs.length c3).ownBlock) wr w4 := by
                refine Kept.trans (M' := fun b => some b = (Value.slice a3 gs.length c3).ownBlock) (b := wr.alloc _) (Kept.alloc _ (Kept.refl _ wr) _) hk (fun _ _ h => h)
              have := HT.out.push HR.out.2 (Nat.le_refl _) HR2.out (by simp) hszw HO4.out hk2
              exact this.congr (fun i _ => by simp)
            · exact ((HB.out.trans (HR.out.2.mono hszw)).alloc (by omega) _).grown HGR.out (by simp; omega) (fun g e => (ownsRow_lt HT.out.owns e).1)
        | succ g2 =>
          have hlk : (k : Int) < (m : Int) := by omega
          have cl := HR.out.1.cell (i := k) (by rw [filN_length]; omega)
          have fl := HR.out.1.free k
          have hset := HR.out.1.set (i := k) (by rw [filN_length]; omega) NONE
          rw [filN_set m k (by omega)] at hset
          have HSET := hide hset
          clear hset
          generalize ln (filN m k) k = V at cl
          have hN := none_c wr
          generalize NONE = Q at HSET hN
          have HNN := hide hN
          clear hN
          go_wp2_with (go_at_call 28; refine HNN.out.mono ?_; rintro e w2 ⟨rfl, rfl⟩)
          go_roundg g2
          case measure => omega
          case rel => exact ⟨k + 1, by omega, by go_num, HSET.out, HR.out.2.setCell (Nat.le_refl _) _⟩
#print axioms start_c
end Go.Proofs.Ytdeigchkpakdaaa
