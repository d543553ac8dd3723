/- The reference's sorted: those that occur, the most often first. -/
import Derived.Test.YtdeigchkpakdaaaLAlive
import Derived.Test.YtdeigchkpakdaaaLReach
namespace Go.Proofs.Ytdeigchkpakdaaa
open Go Go.RowKit

def insF (x : Int) : List Int → List Int
  | [] => [x]
  | y :: r => if y < x then x :: y :: r else y :: insF x r
theorem insF_perm (x : Int) (O : List Int) : (insF x O).Perm (x :: O) := by
  induction O with
  | nil => exact List.Perm.refl _
  | cons y r ih =>
    rw [insF]
    split
    · exact List.Perm.refl _
    · exact (List.Perm.cons y ih).trans (List.Perm.swap x y r)
theorem insF_fal (x : Int) (O : List Int) (h : O.Pairwise (fun a b => b ≤ a)) : (insF x O).Pairwise (fun a b => b ≤ a) := by
  induction O with
  | nil => simp [insF]
  | cons y r ih =>
    rw [insF]
    rw [List.pairwise_cons] at h
    split
    · rename_i hlt
      refine List.pairwise_cons.2 ⟨fun z hz => ?_, List.pairwise_cons.2 h⟩
      rcases List.mem_cons.1 hz with rfl | hz
      · omega
      · have := h.1 z hz; omega
    · rename_i hlt
      refine List.pairwise_cons.2 ⟨fun z hz => ?_, ih h.2⟩
      rcases List.mem_cons.1 ((insF_perm x r).mem_iff.1 hz) with rfl | hz
      · omega
      · exact h.1 z hz
/-- Sorted, so far. -/
def srtF (ls : List Int) : Nat → List Int
  | 0 => []
  | n + 1 => if ln ls n = 0 then srtF ls n else insF (ln ls n) (srtF ls n)
theorem srtF_length (ls : List Int) (n : Nat) : (srtF ls n).length ≤ n := by
  induction n with
  | zero => simp [srtF]
  | succ n ih =>
    rw [srtF]
    split
    · omega
    · rw [(insF_perm _ _).length_eq]; simp; omega
theorem srtF_fal (ls : List Int) (n : Nat) : (srtF ls n).Pairwise (fun a b => b ≤ a) := by
  induction n with
  | zero => simp [srtF]
  | succ n ih =>
    rw [srtF]
    split
    · exact ih
    · exact insF_fal _ _ ih
theorem srtF_perm {ls : List Int} {n : Nat} (ha : AlwTo ls n) : (srtF ls n).Perm ((occ ls n).map (keyOf ls)) := by
  induction n with
  | zero => exact List.Perm.refl _
  | succ n ih =>
    have i := ih (fun i hi => ha i (by omega))
    have h1 := ha n (by omega)
    rw [srtF]
    by_cases h : ln ls n = 0
    · rw [if_pos h, occ_succ_zero (by omega)]; exact i
    · rw [if_neg h, occ_succ_pos (by omega), List.map_append]
      refine (insF_perm _ _).trans ((List.Perm.cons _ i).trans ?_)
      have e : List.map (keyOf ls) [(n : Int)] = [ln ls n] := by simp [keyOf]
      rw [e]
      exact (List.perm_append_singleton _ _).symm
/-- What is laid so far, and what is left. -/
def SoFar (x : Int) (O N : List Int) (done : Bool) (k : Nat) : Prop := N ++ (if done then O.drop k else insF x (O.drop k)) = insF x O
theorem SoFar.start (x : Int) (O : List Int) : SoFar x O [] false 0 := by simp [SoFar]
theorem SoFar.lay {x : Int} {O N : List Int} {k : Nat} (h : SoFar x O N false k) (hk : k < O.length) (hlt : ln O k < x) : SoFar x O (N ++ [x] ++ [ln O k]) true (k + 1) := by
  unfold SoFar at h ⊢
  rw [← h, List.drop_eq_getElem_cons hk, ← ln_in hk]
  simp [insF, hlt]
theorem SoFar.pass {x : Int} {O N : List Int} {k : Nat} (h : SoFar x O N false k) (hk : k < O.length) (hlt : ¬ ln O k < x) : SoFar x O (N ++ [ln O k]) false (k + 1) := by
  unfold SoFar at h ⊢
  rw [← h, List.drop_eq_getElem_cons hk, ← ln_in hk]
  simp [insF, hlt]
theorem SoFar.more {x : Int} {O N : List Int} {k : Nat} (h : SoFar x O N true k) (hk : k < O.length) : SoFar x O (N ++ [ln O k]) true (k + 1) := by
  unfold SoFar at h ⊢
  rw [← h, List.drop_eq_getElem_cons hk, ← ln_in hk]
  simp
theorem SoFar.end_true {x : Int} {O N : List Int} (h : SoFar x O N true O.length) : N = insF x O := by
  unfold SoFar at h; simpa using h
theorem SoFar.end_false {x : Int} {O N : List Int} (h : SoFar x O N false O.length) : N ++ [x] = insF x O := by
  unfold SoFar at h; simpa [insF] using h
theorem SoFar.len {x : Int} {O N : List Int} {b : Bool} {k : Nat} (h : SoFar x O N b k) : N.length ≤ O.length + 1 := by
  have := congrArg List.length h
  rw [List.length_append, (insF_perm x O).length_eq] at this
  simp at this
  omega

/-- What sorted tells. -/
def SortedOk (S : List Int) (w : World) (e : Ending) (w' : World) : Prop := ∃ v, e = .returned v ∧ Owns w' w.heap.size v S ∧ Below w.heap.size w w'

set_option maxHeartbeats 2000000 in
set_option maxRecDepth 100000 in
theorem sorted_c (B : Nat) (a : Option Addr) (cap : Nat) (ls : List Int) (w : World) (hl : ls.length ≤ 40) (hI : Ints 0 B w a ls) :
    Calls Try.prog 20 #[.slice a ls.length cap] w (SortedOk (srtF ls ls.length) w) := by
  obtain ⟨i0, hi0, hz0, hz1', hz2'⟩ := info_parts Try.info3
  have HI := hide hI
  clear hI
  go_enter Try.func20, Try.ntmps20
  go_wp2_with fail
  go_loopg [3, 4] ls.length (fun gk v3 v4 wx => ∃ i : Nat, i + gk = ls.length ∧ v4 = .int .i64 i ∧ Hid (Owns wx w.heap.size v3 (srtF ls i)) ∧ Hid (Below w.heap.size w wx))
  case atStart => exact ⟨0, by omega, rfl, Owns.nil _ _, Below.refl _ _⟩
  case round =>
    obtain ⟨i, hig, rfl, HO, HB⟩ := hrel
    obtain ⟨a3, c3, rfl⟩ := own_form HO.out
    have hol := srtF_length ls i
    cases gk with
    | zero =>
      obtain rfl : i = ls.length := by omega
      go_wp2_with fail
      go_ret
      exact ⟨_, rfl, HO.out, HB.out⟩
    | succ g1 =>
      obtain ⟨b, off, _, hb2, hb3, rfl, hcell⟩ := HI.out.resolve_left (by omega)
      have hlt : (i : Int) < (ls.length : Int) := by omega
      have hc : wr.cell? ⟨b, off + i, none⟩ = some (.int .i64 (ln ls i)) := by
        rw [HB.out.cell (p := ⟨b, off + i, none⟩) (show b < w.heap.size by omega)]
        exact hcell i (by omega)
      have hs0 : ln ls i = 0 → srtF ls (i + 1) = srtF ls i := fun h => by rw [srtF, if_pos h]
      have hs1 : ¬ ln ls i = 0 → srtF ls (i + 1) = insF (ln ls i) (srtF ls i) := fun h => by rw [srtF, if_neg h]
      have HS0 := hide hs0
      have HS1 := hide hs1
      have hCW : ∀ W, Below w.heap.size w W → W.cell? ⟨b, off + i, none⟩ = some (.int .i64 (ln ls i)) := fun W hW => by
        rw [hW.cell (p := ⟨b, off + i, none⟩) (show b < w.heap.size by omega)]
        exact hcell i (by omega)
      have HCW := hide hCW
      clear hcell hs0 hs1 hCW
      generalize ln ls i = X at hc HS0 HS1 HCW
      obtain ⟨O, hO⟩ : ∃ O, srtF ls i = O := ⟨_, rfl⟩
      rw [hO] at HO hol HS0 HS1 ⊢
      clear hO
      by_cases hX : X = 0
      · have e := hide (HS0.out hX)
        have hXb : (X == 0) = true := by simp [hX]
        clear HS0 HS1
        subst hX
        go_wp2_with fail
        go_roundg g1
        case measure => omega
        case rel => exact ⟨i + 1, by omega, by go_num, by rw [e.out]; exact HO.out, HB.out⟩
      · have e := hide (HS1.out hX)
        have hXb : (X == 0) = false := by simp [hX]
        clear HS0 HS1
        obtain ⟨W0, rfl⟩ : ∃ W, W = wr := ⟨wr, rfl⟩
        have hszw := HB.out.size
        go_wp2_with fail
        go_loopg [5, 6, 7] O.length (fun gj v5 v6 v7 wx => ∃ (k : Nat) (N : List Int) (dn : Bool), k + gj = O.length ∧ v7 = .int .i64 k ∧ v6 = .bool dn ∧ Hid (SoFar X O N dn k) ∧ Hid (Owns wx W0.heap.size v5 N) ∧ Hid (Below W0.heap.size W0 wx))
        case atStart => exact ⟨0, [], false, by omega, rfl, rfl, SoFar.start X O, Owns.nil _ _, Below.refl _ _⟩
        case round =>
          obtain ⟨k, N, dn, hkg, rfl, rfl, HSF, HN, HBN⟩ := hrel
          obtain ⟨a5, c5, rfl⟩ := own_form HN.out
          have hNl := HSF.out.len
          have hszx : W0.heap.size ≤ wr.heap.size := HBN.out.size
          cases gk with
          | zero =>
            obtain rfl : k = O.length := by omega
            cases dn with
            | true =>
              have HE := hide HSF.out.end_true
              go_wp2_with fail
              go_roundg g1
              case measure => omega
              case rel => exact ⟨i + 1, by omega, by go_num, by rw [e.out, ← HE.out]; exact HN.out.low hszw, HB.out.trans (HBN.out.mono hszw)⟩
            | false =>
              have HE := hide HSF.out.end_false
              have hc2 := HCW.out wr (HB.out.trans (HBN.out.mono hszw))
              go_wp2_with (at_builtin; refine wpList_append_own _ rfl _ _ 22 rfl W0.heap.size 3 i0 (.int .i64 0) 1 8 Try.underlying22 hi0 hz0 hz1' hz2' rfl (by decide) _ _ _ rfl (World.ownsRow.alloc HN.out _) ⟨_, 0, none⟩ 1 1 [.int .i64 X] rfl rfl (one_int' _ _ _ (by simp)) (by intro u hu; simp at hu; subst hu; rfl) (by unfold maxLen; omega) (by omega) (by simp; omega) ?_; intro v' w4 hown' hgrow hnil; have HOW := hide (Owns.push hown'); have HGR := hide ((HBN.out.alloc hszx _).grown hgrow (by simp; omega) (fun g e => (ownsRow_lt HN.out e).1)); clear hown' hgrow hnil)
              go_roundg g1
              case measure => omega
              case rel => exact ⟨i + 1, by omega, by go_num, by rw [e.out, ← HE.out]; exact HOW.out.low hszw, HB.out.trans (HGR.out.mono hszw)⟩
          | succ g2 =>
            have hlk : (k : Int) < (O.length : Int) := by omega
            obtain ⟨a9, c9, hv9, hii⟩ := HO.out.ints
            simp only [Value.slice.injEq] at hv9
            obtain ⟨rfl, _, rfl⟩ := hv9
            obtain ⟨gO, oO, hgO1, hgO2, hgO3, rfl, hcO⟩ := hii.resolve_left (by omega)
            have hCO : ∀ W, Below W0.heap.size W0 W → W.cell? ⟨gO, oO + k, none⟩ = some (.int .i64 (ln O k)) := fun W hW => by
              rw [hW.cell (p := ⟨gO, oO + k, none⟩) hgO2]
              exact hcO k (by omega)
            have HCO := hide hCO
            have hp := fun h1 h2 => SoFar.pass (N := N) (x := X) (O := O) (k := k) h1 (by omega) h2
            have hq := fun h1 h2 => SoFar.lay (N := N) (x := X) (O := O) (k := k) h1 (by omega) h2
            have hm := fun h1 => SoFar.more (N := N) (x := X) (O := O) (k := k) h1 (by omega)
            have HP := hide hp
            have HQ := hide hq
            have HM := hide hm
            clear hcO hii hCO hp hq hm
            generalize ln O k = Y at HCO HP HQ HM
            have cx := HCW.out wr (HB.out.trans (HBN.out.mono hszw))
            have cy : wr.cell? ⟨gO, oO + k, none⟩ = some (.int .i64 Y) := HCO.out wr HBN.out
            cases dn with
            | true =>
              have HE := hide (HM.out HSF.out)
              go_wp2_with fail
              go_quiet (fail)
              have HN2 : Hid (Owns (wr.drewN nq) W0.heap.size (.slice a5 N.length c5) N) := HN.out
              have HB2 : Hid (Below W0.heap.size W0 (wr.drewN nq)) := by have := HBN.out; exact ⟨this.os, this.tape, this.output, this.size, this.block⟩
              have cy2 : (wr.drewN nq).cell? ⟨gO, oO + k, none⟩ = some (.int .i64 Y) := cy
              have hsz2 : W0.heap.size ≤ (wr.drewN nq).heap.size := hszx
              clear cx cy
              generalize wr.drewN nq = wq at HN2 HB2 cy2 hsz2 ⊢
              go_wp2_with (at_builtin; refine wpList_append_own _ rfl _ _ 22 rfl W0.heap.size 3 i0 (.int .i64 0) 1 8 Try.underlying22 hi0 hz0 hz1' hz2' rfl (by decide) _ _ _ rfl (World.ownsRow.alloc HN2.out _) ⟨_, 0, none⟩ 1 1 [.int .i64 Y] rfl rfl (one_int' _ _ _ (by simp)) (by intro u hu; simp at hu; subst hu; rfl) (by unfold maxLen; omega) (by omega) (by simp; omega) ?_; intro v' w4 hown' hgrow hnil; have HOW := hide (Owns.push hown'); have HGR := hide ((HB2.out.alloc hsz2 _).grown hgrow (by simp; omega) (fun g e => (ownsRow_lt HN2.out e).1)); clear hown' hgrow hnil)
              go_roundg g2
              case measure => omega
              case rel => exact ⟨k + 1, N ++ [Y], true, by omega, by go_num, rfl, HE.out, HOW.out, HGR.out⟩
            | false =>
              by_cases hYX : Y < X
              · have HE := hide (HQ.out HSF.out hYX)
                have hd : decide (Y < X) = true := decide_eq_true hYX
                go_wp2_with fail
                go_quiet (fail)
                have HN2 : Hid (Owns (wr.drewN nq) W0.heap.size (.slice a5 N.length c5) N) := HN.out
                have HB2 : Hid (Below W0.heap.size W0 (wr.drewN nq)) := by have := HBN.out; exact ⟨this.os, this.tape, this.output, this.size, this.block⟩
                have cx2 : (wr.drewN nq).cell? ⟨b, off + i, none⟩ = some (.int .i64 X) := cx
                have hsz2 : W0.heap.size ≤ (wr.drewN nq).heap.size := hszx
                clear cx cy
                generalize wr.drewN nq = wq at HN2 HB2 cx2 hsz2 ⊢
                go_wp2_with (first
                  | (at_builtin; refine wpList_append_own _ rfl _ _ 22 rfl W0.heap.size 3 i0 (.int .i64 0) 1 8 Try.underlying22 hi0 hz0 hz1' hz2' rfl (by decide) _ _ _ rfl (World.ownsRow.alloc HN2.out _) ⟨_, 0, none⟩ 1 1 [.int .i64 X] rfl rfl (one_int' _ _ _ (by simp)) (by intro u hu; simp at hu; subst hu; rfl) (by unfold maxLen; omega) (by omega) (by simp; omega) ?_; intro v' w4 hown' hgrow hnil; have HOW := hide (Owns.push hown'); have HGR := hide ((HB2.out.alloc hsz2 _).grown hgrow (by simp; omega) (fun g e => (ownsRow_lt HN2.out e).1)); clear hown' hgrow hnil; have cy4 := HCO.out w4 HGR.out; have hsz4 := HGR.out.size; obtain ⟨M, hM⟩ : ∃ M, N ++ [X] = M := ⟨_, rfl⟩; rw [hM] at HOW; have HMM := hide hM; have hMl : M.length ≤ O.length + 2 := (by rw [← hM]; simp; omega); obtain ⟨a6, c6, rfl⟩ := own_form HOW.out; clear HN2 hM)
                  | (at_builtin; refine wpList_append_own _ rfl _ _ 22 rfl W0.heap.size 3 i0 (.int .i64 0) 1 8 Try.underlying22 hi0 hz0 hz1' hz2' rfl (by decide) _ _ _ rfl (World.ownsRow.alloc HOW.out _) ⟨_, 0, none⟩ 1 1 [.int .i64 Y] rfl rfl (one_int' _ _ _ (by simp)) (by intro u hu; simp at hu; subst hu; rfl) (by unfold maxLen; omega) (by omega) (by simp; omega) ?_; intro v' w5 hown' hgrow hnil; have HOW5 := hide (Owns.push hown'); have HGR5 := hide ((HGR.out.alloc hsz4 _).grown hgrow (by simp; omega) (fun g e => (ownsRow_lt HOW.out e).1)); clear hown' hgrow hnil))
                go_roundg g2
                case measure => omega
                case rel => exact ⟨k + 1, M ++ [Y], true, by omega, by go_num, rfl, by rw [← HMM.out]; exact HE.out, HOW5.out, HGR5.out⟩
              · have HE := hide (HP.out HSF.out hYX)
                have hd : decide (Y < X) = false := decide_eq_false hYX
                go_wp2_with fail
                go_quiet (fail)
                have HN2 : Hid (Owns (wr.drewN nq) W0.heap.size (.slice a5 N.length c5) N) := HN.out
                have HB2 : Hid (Below W0.heap.size W0 (wr.drewN nq)) := by have := HBN.out; exact ⟨this.os, this.tape, this.output, this.size, this.block⟩
                have cy2 : (wr.drewN nq).cell? ⟨gO, oO + k, none⟩ = some (.int .i64 Y) := cy
                have hsz2 : W0.heap.size ≤ (wr.drewN nq).heap.size := hszx
                clear cx cy
                generalize wr.drewN nq = wq at HN2 HB2 cy2 hsz2 ⊢
                go_wp2_with (at_builtin; refine wpList_append_own _ rfl _ _ 22 rfl W0.heap.size 3 i0 (.int .i64 0) 1 8 Try.underlying22 hi0 hz0 hz1' hz2' rfl (by decide) _ _ _ rfl (World.ownsRow.alloc HN2.out _) ⟨_, 0, none⟩ 1 1 [.int .i64 Y] rfl rfl (one_int' _ _ _ (by simp)) (by intro u hu; simp at hu; subst hu; rfl) (by unfold maxLen; omega) (by omega) (by simp; omega) ?_; intro v' w4 hown' hgrow hnil; have HOW := hide (Owns.push hown'); have HGR := hide ((HB2.out.alloc hsz2 _).grown hgrow (by simp; omega) (fun g e => (ownsRow_lt HN2.out e).1)); clear hown' hgrow hnil)
                go_roundg g2
                case measure => omega
                case rel => exact ⟨k + 1, N ++ [Y], false, by omega, by go_num, rfl, HE.out, HOW.out, HGR.out⟩
#print axioms sorted_c
end Go.Proofs.Ytdeigchkpakdaaa
