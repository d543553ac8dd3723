/- Several texts, laid together: HNumber, WriteMore, ReadMore, HMake, HRef1, HRef2, HRef3, ISpec. -/
import Derived.Test.YteknifnadbmfiaaGreatDoorpHCount
import Derived.Test.YteknifnadbmfiaaGreatDoorpAg02HMath
import Derived.Deep.MidRow
import Derived.Laws.CopyOwn
import Derived.Deep.DeepCutAuto
import Derived.Deep.RegionWith
/- huff's number: each symbol gets its code: contract. -/
namespace Go.Proofs.YteknifnadbmfiaaGreatDoor
set_option maxRecDepth 100000
open Go Go.RowKit

def codeA (ls : List Int) (vo vl vc : Value) (N : Nat) : Array Value := manyA ls ++ #[vo, vl, vc, .int .i64 (N : Int)]
theorem codeA_low (ls : List Int) (vo vl vc : Value) (N : Nat) {k : Nat} (h : k < 16) (h1 : 1 <= k) : (codeA ls vo vl vc N)[k]? = some (.int .i64 (ct ls k : Int)) := by
 rw [codeA, Array.getElem?_append_left (by rw [manyA_size]; exact h)]; exact manyA_ct ls h h1
theorem codeA_16 (ls : List Int) (vo vl vc : Value) (N : Nat) : (codeA ls vo vl vc N)[16]? = some vo := by
 rw [codeA, Array.getElem?_append_right (by rw [manyA_size]; omega), manyA_size]; rfl
theorem codeA_17 (ls : List Int) (vo vl vc : Value) (N : Nat) : (codeA ls vo vl vc N)[17]? = some vl := by
 rw [codeA, Array.getElem?_append_right (by rw [manyA_size]; omega), manyA_size]; rfl
theorem codeA_18 (ls : List Int) (vo vl vc : Value) (N : Nat) : (codeA ls vo vl vc N)[18]? = some vc := by
 rw [codeA, Array.getElem?_append_right (by rw [manyA_size]; omega), manyA_size]; rfl
theorem codeA_19 (ls : List Int) (vo vl vc : Value) (N : Nat) : (codeA ls vo vl vc N)[19]? = some (.int .i64 (N : Int)) := by
 rw [codeA, Array.getElem?_append_right (by rw [manyA_size]; omega), manyA_size]; rfl
theorem codeA_set16 (ls : List Int) (vo vl vc v : Value) (N : Nat) : (codeA ls vo vl vc N).setIfInBounds 16 v = codeA ls v vl vc N := by
 rw [codeA, codeA, Array.setIfInBounds_append_right (by rw [manyA_size]; omega), manyA_size]; rfl
theorem codeA_set19 (ls : List Int) (vo vl vc : Value) (N M : Nat) : (codeA ls vo vl vc N).setIfInBounds 19 (.int .i64 (M : Int)) = codeA ls vo vl vc M := by
 rw [codeA, codeA, Array.setIfInBounds_append_right (by rw [manyA_size]; omega), manyA_size]; rfl

def cds (ls : List Int) (n k : Nat) : List Int := (List.range ls.length).map fun (s : Nat) => if 1 <= ln ls s /\ (ln ls s < (n : Int) \/ (ln ls s = (n : Int) /\ s < k)) then (cd ls s : Int) else 0
def codesL (ls : List Int) : List Int := (List.range ls.length).map fun (s : Nat) => if 1 <= ln ls s then (cd ls s : Int) else 0
theorem cds_length (ls : List Int) (n k : Nat) : (cds ls n k).length = ls.length := by simp [cds]
theorem codesL_length (ls : List Int) : (codesL ls).length = ls.length := by simp [codesL]
def valA (L : List Int) : Array Value := (L.map (Value.int .i64)).toArray
theorem valA_at (L : List Int) {i : Nat} (h : i < L.length) : (valA L)[i]? = some (.int .i64 (ln L i)) := by
 simp [valA, ln, List.getD, h]
theorem codesL_at (ls : List Int) {s : Nat} (h : s < ls.length) : ln (codesL ls) s = if 1 <= ln ls s then (cd ls s : Int) else 0 := by
 simp [ln, codesL, List.getD, h]
theorem cds_set (ls : List Int) (n k : Nat) (hk : k < ls.length) (h1 : 1 <= n) (hl : ln ls k = (n : Int)) (x : Int) (hx : x = (fc ls n + (ls.take k).count (n : Int) : Nat)) : (valA (cds ls n k)).setIfInBounds k (.int .i64 x) = valA (cds ls n (k + 1)) := by
 apply Array.ext_getElem?
 intro s
 rw [Array.getElem?_setIfInBounds]
 by_cases hs : s < ls.length
 ·by_cases e : k = s
  ·subst e
   have ec : cd ls k = fc ls n + (ls.take k).count (n : Int) := by unfold cd rk; rw [hl]; simp
   simp [valA, cds, hs, hl, hx, ec]
   omega
  ·have : (s < k) ↔ (s < k + 1) := by omega
   simp [valA, cds, hs, e, this]
 ·have e : ¬ k = s := by omega
  simp [valA, cds, hs, e]
theorem cds_skip (ls : List Int) (n k : Nat) (hl : ¬ ln ls k = (n : Int)) : cds ls n k = cds ls n (k + 1) := by
 unfold cds
 apply List.map_congr_left
 intro s _
 by_cases e : s = k
 ·subst e; simp [hl]
 ·have : (s < k) ↔ (s < k + 1) := by omega
  simp [this]
theorem cds_next (ls : List Int) (n : Nat) : cds ls n ls.length = cds ls (n + 1) 0 := by
 unfold cds
 apply List.map_congr_left
 intro s hs
 have hs' : s < ls.length := by simpa using hs
 have : (ln ls s < (n : Int) \/ (ln ls s = (n : Int) /\ s < ls.length)) ↔ (ln ls s < ((n + 1 : Nat) : Int) \/ (ln ls s = ((n + 1 : Nat) : Int) /\ s < 0)) := by omega
 simp only [this]
theorem cds_first (ls : List Int) : cds ls 1 0 = List.replicate ls.length 0 := by
 have e : List.replicate ls.length (0 : Int) = (List.range ls.length).map fun _ => 0 := by rw [List.map_const', List.length_range]
 rw [e]
 unfold cds
 apply List.map_congr_left
 intro s _
 rw [if_neg (by omega)]
theorem cds_end (ls : List Int) (hf : Fit ls) : cds ls 16 0 = codesL ls := by
 unfold cds codesL
 apply List.map_congr_left
 intro s _
 have := ln_fit hf s
 have e : (1 <= ln ls s /\ (ln ls s < ((16 : Nat) : Int) \/ (ln ls s = ((16 : Nat) : Int) /\ s < 0))) ↔ 1 <= ln ls s := by omega
 simp only [e]
def ods (ls : List Int) (n k : Nat) : List Int := (od ls (n - 1) ++ idx ls n k).map (fun (x : Nat) => (x : Int))
theorem ods_push (ls : List Int) (n k : Nat) (hl : ln ls k = (n : Int)) : ods ls n k ++ [(k : Int)] = ods ls n (k + 1) := by
 simp [ods, idx, hl]
theorem ods_skip (ls : List Int) (n k : Nat) (hl : ¬ ln ls k = (n : Int)) : ods ls n k = ods ls n (k + 1) := by
 simp [ods, idx, hl]
theorem ods_next (ls : List Int) (n : Nat) : ods ls (n + 1) ls.length = ods ls (n + 1 + 1) 0 := by
 simp [ods, idx, od]
theorem ods_length (ls : List Int) (n k : Nat) (hn : n <= 15) (hk : k <= ls.length) (h3 : ls.length <= 320) : (ods ls n k).length <= 10000 := by
 simp only [ods, List.length_map, List.length_append, od_length]
 rw [idx_length ls n k hk]
 have a := sh_le ls h3 (n - 1) (by omega)
 have b := take_count_le ls k (n : Int)
 have c := List.count_le_length (a := (n : Int)) (l := ls)
 omega

structure Num (bc gc : Nat) (ls : List Int) (vl vc : Value) (w wr : World) (vo : Value) (n k N : Nat) : Prop where
 block : wr.heap[bc]? = some (.cells (codeA ls vo vl vc N) 161 (0, 0))
 codes : wr.heap[gc]? = some (.cells (valA (cds ls n k)) 3 (0, 0))
 owns : Owns wr w.heap.size vo (ods ls n k)
 kept : Kept (fun i => i = bc \/ i = gc) w wr
 le : N <= n
 up : ∀ s, s < ls.length -> (ln ls s < (n : Int) \/ (ln ls s = (n : Int) /\ s < k)) -> ln ls s <= (N : Int)
 has : N = 0 \/ ∃ s, s < ls.length /\ ln ls s = (N : Int)

theorem own_form {w : World} {base e : Nat} {v : Value} {n : Nat} {xs : List Value} (h : w.ownsRow base e 1 v n xs) : ∃ a cap, v = .slice a n cap := by
 rcases h.2 with ⟨rfl, h2⟩ | ⟨g, cap, cur, rfl, _⟩
 ·exact ⟨none, 0, by rw [h2]⟩
 ·exact ⟨_, _, rfl⟩

theorem one_int' (w : World) (x : Value) (n : Nat) (h : w.heap.size = n) : ∀ j u, [x][j]? = some u -> (w.alloc (.cells #[x] 3)).cell? ((⟨n, 0, none⟩ : Addr).add j) = some u := by
 subst h; exact one_int w x

theorem num_step {bc gc : Nat} {ls : List Int} {vl vc vo vo' : Value} {w wr w1 : World} {o : Obj} {n k N : Nat} {x : Int} (h : Num bc gc ls vl vc w wr vo n k N) (hbg : bc ≠ gc) (hbw : bc < w.heap.size) (hgw : gc < w.heap.size) (hk : k < ls.length) (h1 : 1 <= n) (hl : ln ls k = (n : Int)) (hx : x = (fc ls n + (ls.take k).count (n : Int) : Nat))
  (hown : w1.ownsRow w.heap.size 3 1 vo' ((ods ls n k).length + 1) ((ods ls n k).map (Value.int .i64) ++ [.int .i64 (k : Int)]))
  (hgrow : ((wr.setCell ⟨gc, k, none⟩ (.int .i64 x)).alloc o).grownBy w1 vo.ownBlock) :
  Num bc gc ls vl vc w ((w1.setCell ⟨bc, 16, none⟩ vo').setCell ⟨bc, 19, none⟩ (.int .i64 (n : Int))) vo' n (k + 1) n := by
 have hsz := h.kept.size
 have hob : ∀ g, vo.ownBlock = some g -> w.heap.size <= g := fun g hg => (ownsRow_lt h.owns hg).1
 have kB : Kept (fun i => i = bc \/ i = gc) w (wr.setCell ⟨gc, k, none⟩ (.int .i64 x)) := h.kept.setCell (fun _ => .inr rfl) _
 have kC : Kept (fun i => i = bc \/ i = gc) w w1 := (kB.alloc _ o).trans (Kept.of_grown hgrow) (fun i hi e => by have := hob i e.symm; omega)
 have b1 : w1.heap[bc]? = some (.cells (codeA ls vo vl vc N) 161 (0, 0)) := by
  have := (Kept.of_grown hgrow).block bc (by simp; omega) (fun e => by have := hob bc e.symm; omega)
  rw [this, Below.heap_alloc _ _ _ (by simp; omega), set_other hbg]
  exact h.block
 have g1 : w1.heap[gc]? = some (.cells (valA (cds ls n (k + 1))) 3 (0, 0)) := by
  have := (Kept.of_grown hgrow).block gc (by simp; omega) (fun e => by have := hob gc e.symm; omega)
  rw [this, Below.heap_alloc _ _ _ (by simp; omega), set_of h.codes, cds_set ls n k hk h1 hl x hx]
 have hnb : vo'.ownBlock ≠ some bc := fun e => by have := (ownsRow_lt hown e).1; omega
 refine ⟨?_, ?_, ?_, ?_, Nat.le_refl _, ?_, .inr ⟨k, hk, hl⟩⟩
 ·rw [set_of (set_of b1 16 _) 19, codeA_set16, codeA_set19]
 ·rw [set_other (Ne.symm hbg), set_other (Ne.symm hbg)]; exact g1
 ·have hp := Owns.push hown
  rw [ods_push ls n k hl] at hp
  exact ownsRow_setCell_other (ownsRow_setCell_other hp hnb _) hnb _
 ·exact (kC.setCell (fun _ => .inl rfl) _).setCell (fun _ => .inl rfl) _
 ·intro s hs hh
  by_cases e : s = k
  ·subst e; omega
  ·rcases hh with hh | hh
   ·omega
   ·omega

theorem num_skip {bc gc : Nat} {ls : List Int} {vl vc vo : Value} {w wr : World} {n k N : Nat} (h : Num bc gc ls vl vc w wr vo n k N) (hl : ¬ ln ls k = (n : Int)) : Num bc gc ls vl vc w wr vo n (k + 1) N := by
 refine ⟨h.block, ?_, ?_, h.kept, h.le, ?_, h.has⟩
 ·rw [<- cds_skip ls n k hl]; exact h.codes
 ·rw [<- ods_skip ls n k hl]; exact h.owns
 ·intro s hs hh
  refine h.up s hs ?_
  by_cases e : s = k
  ·subst e; omega
  ·omega
theorem num_next {bc gc : Nat} {ls : List Int} {vl vc vo : Value} {w wr : World} {n N : Nat} (h : Num bc gc ls vl vc w wr vo (n + 1) ls.length N) : Num bc gc ls vl vc w wr vo (n + 1 + 1) 0 N := by
 refine ⟨h.block, ?_, ?_, h.kept, by have := h.le; omega, ?_, h.has⟩
 ·rw [<- cds_next ls (n + 1)]; exact h.codes
 ·rw [<- ods_next ls n]; exact h.owns
 ·intro s hs hh
  exact h.up s hs (by omega)

set_option maxHeartbeats 2000000 in
set_option maxRecDepth 100000 in
theorem number_any (bc gc bl cl cc : Nat) (ls : List Int) (w : World) (hn : ls.length <= 320) (hw : ws ls 15 <= 32768)
  (hb : w.heap[bc]? = some (.cells (codeA ls (.slice none 0 0) (.slice (some ⟨bl, 0, none⟩) ls.length cl) (.slice (some ⟨gc, 0, none⟩) ls.length cc) 0) 161 (0, 0)))
  (hg : w.heap[gc]? = some (.cells (valA (List.replicate ls.length 0)) 3 (0, 0))) (hl : w.heap[bl]? = some (.cells (valA ls) 3 (0, 0))) (hlb : bl ≠ bc) (hlg : bl ≠ gc) (hbg : bc ≠ gc) :
  Calls Tryz.prog 85 #[.pointer (some ⟨bc, 0, none⟩)] w fun e w' => e = .returned (.tuple #[]) /\ ∃ vo N, Num bc gc ls (.slice (some ⟨bl, 0, none⟩) ls.length cl) (.slice (some ⟨gc, 0, none⟩) ls.length cc) w w' vo 16 0 N := by
 obtain ⟨i0, hi, hz0, hz1', hz2'⟩ := info_parts Tryz.info3
 have hbw := lt_of_block hb
 have hgw := lt_of_block hg
 have hlw := lt_of_block hl
 have hgb : gc ≠ bc := Ne.symm hbg
 have HS : Hid (Num bc gc ls (.slice (some ⟨bl, 0, none⟩) ls.length cl) (.slice (some ⟨gc, 0, none⟩) ls.length cc) w w (.slice none 0 0) 1 0 0) := by
  refine ⟨hb, ?_, ?_, Kept.refl _ _, by omega, fun s _ h => by omega, .inl rfl⟩
  ·rw [cds_first]; exact hg
  ·exact Owns.nil _ _
 have HL : Hid (w.heap[bl]? = some (.cells (valA ls) 3 (0, 0))) := hl
 clear hb hg hl
 go_enter Tryz.func85, Tryz.ntmps85
 go_wp2
 go_loopw [2, 3] (fun s2 s3 wr => ∃ n : Nat, n <= 15 /\ s3 = .int .i64 ((n : Int) + 1) /\ s2 = .int .i64 ((fc ls n + ct ls n : Nat) : Int) /\ ∃ vo N, Num bc gc ls (.slice (some ⟨bl, 0, none⟩) ls.length cl) (.slice (some ⟨gc, 0, none⟩) ls.length cc) w wr vo (n + 1) 0 N) (fun _ s3 _ => 16 - (intOf s3).toNat)
 case atStart => exact ⟨0, by omega, rfl, rfl, _, _, HS.out⟩
 case round =>
  obtain ⟨n, hn15, rfl, rfl, vo0, N0, hnum0⟩ := hrel
  by_cases hlt : n < 15
  ·have hup := up_le ls hw n (by omega)
   have hp15 : 2 ^ n <= 2 ^ 15 := Nat.pow_le_pow_right (by decide) hn15
   have HF : Hid (2 * (fc ls n + ct ls n) = fc ls (n + 1)) := rfl
   have hU : fc ls n + ct ls n <= 32768 := by omega
   obtain ⟨U, hUe⟩ : ∃ U, U = fc ls n + ct ls n := ⟨_, rfl⟩
   rw [<- hUe] at hU HF ⊢
   have c17 := cells_of hnum0.block 17
   rw [codeA_17] at c17
   have HN0 : Hid _ := hnum0
   have hlt' : (n : Int) + 1 <= 15 := by omega
   clear hnum0 hUe hup hp15
   go_wp2
   go_loopw [2, 17] (fun s2 s17 wi => ∃ k : Nat, k <= ls.length /\ s17 = .int .i64 k /\ s2 = .int .i64 ((fc ls (n + 1) + (ls.take k).count ((n + 1 : Nat) : Int) : Nat) : Int) /\ ∃ vo N, Num bc gc ls (.slice (some ⟨bl, 0, none⟩) ls.length cl) (.slice (some ⟨gc, 0, none⟩) ls.length cc) w wi vo (n + 1) k N) (fun _ s17 _ => ls.length - (intOf s17).toNat)
   case atStart => exact ⟨0, by omega, rfl, by rw [<- HF.out]; simp; omega, _, _, HN0.out⟩
   case round =>
    obtain ⟨k, hk, rfl, rfl, vo, N, hnum⟩ := hrel
    clear c17 HN0
    have hup := up_le ls hw (n + 1) (by omega)
    have hp15 : 2 ^ (n + 1) <= 2 ^ 15 := Nat.pow_le_pow_right (by decide) (by omega)
    have hcl := take_count_le ls k ((n + 1 : Nat) : Int)
    have hce := ct_eq ls (n + 1) (by omega)
    by_cases hlk : k < ls.length
    ·have hX : fc ls (n + 1) + (ls.take k).count ((n + 1 : Nat) : Int) <= 32768 := by omega
     obtain ⟨X, hXe⟩ : ∃ X : Nat, X = fc ls (n + 1) + (ls.take k).count ((n + 1 : Nat) : Int) := ⟨_, rfl⟩
     have hts := take_count_succ ls k ((n + 1 : Nat) : Int) hlk
     rw [<- hXe] at hX ⊢
     have HX : Hid (X = fc ls (n + 1) + (ls.take k).count ((n + 1 : Nat) : Int)) := hXe
     have HT : Hid ((ls.take (k + 1)).count ((n + 1 : Nat) : Int) = (ls.take k).count ((n + 1 : Nat) : Int) + if ln ls k = ((n + 1 : Nat) : Int) then 1 else 0) := hts
     have hlc : wr.cell? ⟨bl, k, none⟩ = some (.int .i64 (ln ls k)) := by
      rw [cells_of (hnum.kept.heap HL.out (by rintro (e | e); exact hlb e; exact hlg e)) k]; exact valA_at ls hlk
     clear hup hp15 hcl hce hts hXe
     by_cases hm : ln ls k = ((n + 1 : Nat) : Int)
     ·have c16 := cells_of hnum.block 16
      have c18 := cells_of hnum.block 18
      have f16 := free_of hnum.block 16
      have f19 := free_of hnum.block 19
      have c19 := cells_of hnum.block 19
      have gk := cells_of hnum.codes k
      have gf := free_of hnum.codes k
      rw [codeA_16] at c16
      rw [codeA_18] at c18
      rw [codeA_19] at c19
      rw [valA_at _ (by rw [cds_length]; exact hlk)] at gk
      obtain ⟨ao, co, rfl⟩ := own_form hnum.owns
      have hol := ods_length ls (n + 1) k (by omega) hk hn
      obtain ⟨OD, hOD⟩ : ∃ OD, OD = ods ls (n + 1) k := ⟨_, rfl⟩
      have HR : Hid (Owns wr w.heap.size (.slice ao (ods ls (n + 1) k).length co) (ods ls (n + 1) k)) := hnum.owns
      have HN : Hid _ := hnum
      have hszw := hnum.kept.size
      have hob : (Value.slice ao (ods ls (n + 1) k).length co).ownBlock ≠ some gc := fun e => by have := (ownsRow_lt hnum.owns e).1; omega
      have hob2 : ∀ g, (Value.slice ao (ods ls (n + 1) k).length co).ownBlock = some g -> w.heap.size <= g := fun g e => (ownsRow_lt hnum.owns e).1
      have HOB : Hid ((Value.slice ao (ods ls (n + 1) k).length co).ownBlock ≠ some gc) := hob
      have HOB2 : Hid (∀ g, (Value.slice ao (ods ls (n + 1) k).length co).ownBlock = some g -> w.heap.size <= g) := hob2
      have HM : Hid (ln ls k = ((n + 1 : Nat) : Int)) := hm
      rw [hm] at hlc
      clear hnum hob hob2 hm
      go_wp2_with (at_builtin; refine wpList_append_own _ rfl _ _ 97 rfl w.heap.size 3 i0 (.int .i64 0) 1 8 Tryz.underlying97 hi hz0 hz1' hz2' rfl (by decide) _ _ _ rfl (World.ownsRow.alloc (ownsRow_setCell_other HR.out HOB.out _) _) ⟨_, 0, none⟩ 1 1 [.int .i64 (k : Int)] rfl rfl (one_int' _ _ _ (by simp)) (by intro u hu; simp at hu; subst hu; rfl) (by unfold maxLen; omega) (by omega) (by simp; omega) ?_; intro v' w1 hown' hgrow hnil; obtain ⟨a2, cp2, rfl⟩ := own_form hown'; have kb := ((Kept.of_grown hgrow).block bc (by simp; omega) (fun e => by have := HOB2.out bc e.symm; omega)).trans ((Below.heap_alloc _ _ _ (by simp; omega)).trans ((set_other hbg).trans HN.out.block)); have k16 := cells_of kb 16; have kf16 := free_of kb 16; have k19 := cells_of kb 19; have kf19 := free_of kb 19; rw [codeA_16] at k16; rw [codeA_19] at k19; clear kb)
      go_roundw
      case rel =>
       refine ⟨k + 1, by omega, by go_num, ?_, .slice a2 ((ods ls (n + 1) k).length + 1) cp2, n + 1, ?_⟩
       ·rw [HT.out, if_pos HM.out, HX.out]; push_cast; go_num
       ·have := num_step HN.out hbg hbw hgw hlk (by omega) HM.out (x := (X : Int)) (by rw [HX.out]) hown' hgrow
        simpa using this
      case measure => simp [intOf]; omega
     ·obtain ⟨Y, hY⟩ : ∃ Y, Y = ln ls k := ⟨_, rfl⟩
      have HM : Hid (¬ ln ls k = ((n + 1 : Nat) : Int)) := hm
      have hm' : ¬ Y = (n : Int) + 1 := by rw [hY]; push_cast at hm; exact hm
      rw [<- hY] at hlc
      have HN : Hid _ := hnum
      clear hY hm hnum
      go_wp2
      go_roundw
      case rel => exact ⟨k + 1, by omega, by go_num, by rw [HT.out, if_neg HM.out, HX.out]; simp, _, N, num_skip HN.out HM.out⟩
      case measure => simp [intOf]; omega
    ·obtain rfl : k = ls.length := by omega
     have HC : Hid (ct ls (n + 1) = ls.count ((n + 1 : Nat) : Int)) := hce
     clear hup hp15 hcl hce
     go_wp2
     go_roundw
     case rel => exact ⟨n + 1, by omega, by go_num, by rw [HC.out, List.take_length], vo, N, num_next hnum⟩
     case measure => simp [intOf]; omega
  ·obtain rfl : n = 15 := by omega
   go_wp2
   go_end0
   exact ⟨rfl, _, _, hnum0⟩
end Go.Proofs.YteknifnadbmfiaaGreatDoor

/- The writer's Align and Bytes; and a Bits that lays nothing. -/
namespace Go.Proofs.YteknifnadbmfiaaGreatDoor
set_option maxRecDepth 100000
open Go.RowKit

theorem pad_zero {n : Nat} (h : n % 8 = 0) : pad n = 0 := by unfold pad; omega
theorem pad_pos {b m : Nat} (h0 : 0 < m) (h1 : m <= 7) : pad (8 * b + m) = 8 - m := by unfold pad; omega

theorem wbits_arg (base bw : Nat) (v0 : Value) (bs : List Int) (t : Int) (m : Nat) (x : Int) (n : Nat) (ni : Int) (hni : ni = n) (w : World) (h : Wr base bw w v0 bs t m) (hn : n <= 24) (hb : bs.length <= 1000000000000) (hbase : base <= w.heap.size) :
  Calls Tryz.prog 63 #[.pointer (some ⟨bw, 0, none⟩), .int .i64 x, .int .i64 ni] w fun e w' => e = .returned (.tuple #[]) /\ ∃ v' bs' t' m', Wr base bw w' v' bs' t' m' /\ rowOf bs' ++ bitsN t' m' = rowOf bs ++ bitsN t m ++ bitsN x n /\ Kept (fun k => k = bw \/ v0.ownBlock = some k) w w' /\ (v'.ownBlock = v0.ownBlock \/ ∀ g, v'.ownBlock = some g -> w.heap.size <= g) := by
 subst hni
 exact wbits_yes base bw v0 bs t m x n w h hn hb hbase

theorem walign_any (base bw : Nat) (v : Value) (bs : List Int) (t : Int) (m : Nat) (w : World) (h : Wr base bw w v bs t m) (hb : bs.length <= 1000000000000) (hbase : base <= w.heap.size) :
  Calls Tryz.prog 62 #[.pointer (some ⟨bw, 0, none⟩)] w fun e w' => e = .returned (.tuple #[]) /\ ∃ v' bs', Wr base bw w' v' bs' 0 0 /\ rowOf bs' = rowOf bs ++ bitsN t m ++ bitsN 0 (pad (8 * bs.length + m)) /\ Kept (fun k => k = bw \/ v.ownBlock = some k) w w' /\ (v'.ownBlock = v.ownBlock \/ ∀ g, v'.ownBlock = some g -> w.heap.size <= g) := by
 have c2 := cells_of h.block 2
 simp at c2
 have hm := h.m1
 by_cases hm0 : 0 < m
 ·have HW : Hid (Wr base bw w v bs t m) := h
  clear h
  go_enter Tryz.func62, Tryz.ntmps62
  go_wp2_with fail
  refine (wbits_arg base bw v bs t m 0 (8 - m) _ (by omega) w HW.out (by omega) hb hbase).mono ?_
  rintro e w1 ⟨rfl, v1, bs1, t1, m1, h1, r1, k1, o1⟩
  have hl := congrArg List.length r1
  simp only [List.length_append, rowOf_length, bitsN_length] at hl
  have e0 : m1 = 0 := by have := h1.m1; omega
  subst e0
  have ht : t1 = 0 := by have a0 := h1.t0; have a1 := h1.t1; simp at a1; omega
  subst ht
  go_wp2
  go_end0
  refine ⟨rfl, v1, bs1, h1, ?_, k1, o1⟩
  rw [pad_pos hm0 hm]
  simpa [bitsN] using r1
 ·have e0 : m = 0 := by omega
  subst e0
  go_enter Tryz.func62, Tryz.ntmps62
  go_wp2
  go_end0
  have ht0 := h.t0
  have ht1 := h.t1
  have ht : t = 0 := by simp at ht1; omega
  subst ht
  refine ⟨rfl, v, bs, h, ?_, Kept.refl _ _, .inl rfl⟩
  rw [pad_zero (by omega)]; simp [bitsN]

theorem Text.src {B : Nat} {w : World} {ad : Addr} {len : Nat} {zs : List Int} (h : Text B w (some ad) len zs) : ∀ j u, (zs.map (Value.int .u8))[j]? = some u -> w.cell? (ad.add j) = some u := by
 intro j u hu
 obtain ⟨h1, h2, h3⟩ := h
 have hj : j < zs.length := by
  rcases Nat.lt_or_ge j zs.length with h' | h'
  ·exact h'
  ·simp [List.getElem?_eq_none (show (zs.map (Value.int .u8)).length <= j by simpa using h')] at hu
 obtain ⟨b, off, _, ha, hc⟩ := h3.resolve_left (by omega)
 simp at ha
 subst ha
 have e : ((⟨b, off, none⟩ : Addr).add j) = ⟨b, off + j, none⟩ := by unfold Addr.add; split <;> simp_all
 rw [e, hc j (by omega)]
 simp [hj] at hu
 rw [<- hu]
 simp [List.getD, hj]

theorem bytes_one (L : List Int) : ∀ u ∈ L.map (Value.int .u8), u.oneCell' = true := by
 intro u hu; simp at hu; obtain ⟨x, _, rfl⟩ := hu; rfl

theorem Text.mem {B : Nat} {w : World} {a : Option Addr} {len : Nat} {zs : List Int} (h : Text B w a len zs) : ∀ x ∈ zs, 0 <= x /\ x <= 255 := by
 intro x hx
 obtain ⟨i, hi, rfl⟩ := List.getElem_of_mem hx
 have := h.2.1 i
 simpa [List.getD, hi] using this

theorem bytes_end {base bw : Nat} {v v1 v2 : Value} {bs1 zs R : List Int} {w w1 w2 : World} (h1 : Wr base bw w1 v1 bs1 0 0) (hrow : rowOf bs1 = R) (k1 : Kept (fun k => k = bw \/ v.ownBlock = some k) w w1) (o1 : v1.ownBlock = v.ownBlock \/ ∀ g, v1.ownBlock = some g -> w.heap.size <= g)
  (hz : ∀ x ∈ zs, 0 <= x /\ x <= 255) (hown : w2.ownsRow base 5 1 v2 (bs1.length + zs.length) (bs1.map (Value.int .u8) ++ zs.map (Value.int .u8))) (k2 : Kept (fun k => v1.ownBlock = some k) w1 w2) (o2 : v2.ownBlock = v1.ownBlock \/ ∀ g, v2.ownBlock = some g -> w1.heap.size <= g) :
  ∃ v' bs', Wr base bw (w2.setCell ⟨bw, 0, none⟩ v2) v' bs' 0 0 /\ rowOf bs' = R ++ rowOf zs /\ Kept (fun k => k = bw \/ v.ownBlock = some k) w (w2.setCell ⟨bw, 0, none⟩ v2) /\ (v'.ownBlock = v.ownBlock \/ ∀ g, v'.ownBlock = some g -> w.heap.size <= g) := by
 have hb2 := k2.heap h1.block (fun e => ownsRow_apart h1.owns h1.block (by decide) e)
 refine ⟨v2, bs1 ++ zs, ⟨?_, ?_, by decide, by decide, by decide, ?_⟩, ?_, ?_, ?_⟩
 ·rw [set_of hb2]; rfl
 ·have e1 : (bs1 ++ zs).length = bs1.length + zs.length := by simp
  have e2 : (bs1 ++ zs).map (Value.int .u8) = bs1.map (Value.int .u8) ++ zs.map (Value.int .u8) := by simp
  rw [e1, e2]
  exact ownsRow_setCell_other hown (ownsRow_apart hown hb2 (by decide)) _
 ·intro x hx
  rcases List.mem_append.1 hx with hx | hx
  ·exact h1.bytes x hx
  ·exact hz x hx
 ·rw [rowOf_append, hrow]
 ·have k : Kept (fun k => k = bw \/ v.ownBlock = some k) w w2 := k1.trans k2 (fun i hi e => by
   rcases o1 with r | r
   ·exact .inr (by rw [<- r]; exact e)
   ·have := r i e; omega)
  exact k.setCell (fun _ => .inl rfl) _
 ·rcases o2 with c | c
  ·rcases o1 with r | r
   ·exact .inl (c.trans r)
   ·exact .inr (fun g e => r g (by rw [<- c]; exact e))
  ·exact .inr (fun g e => by have := c g e; have := k1.size; omega)

theorem own_after {w : World} {v v' : Value} (hv : v'.ownBlock = v.ownBlock \/ v'.ownBlock = some w.heap.size) : v'.ownBlock = v.ownBlock \/ ∀ g, v'.ownBlock = some g -> w.heap.size <= g := by
 rcases hv with h | h
 ·exact .inl h
 ·exact .inr (fun g e => by rw [h] at e; simp at e; omega)

set_option maxHeartbeats 1000000 in
theorem wbytes_any (base bw B : Nat) (v : Value) (bs : List Int) (t : Int) (m : Nat) (a : Option Addr) (len cap : Nat) (zs : List Int) (w : World) (h : Wr base bw w v bs t m) (ht : Text B w a len zs) (hnil : a = none -> len = 0 /\ cap = 0) (hB : B <= base) (hBw : B <= bw)
  (hb : bs.length <= 100000000000) (hlen : len <= 100000000000) (hbase : base <= w.heap.size) :
  Calls Tryz.prog 64 #[.pointer (some ⟨bw, 0, none⟩), .slice a len cap] w fun e w' => e = .returned (.tuple #[]) /\ ∃ v' bs', Wr base bw w' v' bs' 0 0 /\ rowOf bs' = rowOf bs ++ bitsN t m ++ bitsN 0 (pad (8 * bs.length + m)) ++ rowOf zs /\ Kept (fun k => k = bw \/ v.ownBlock = some k) w w' /\ (v'.ownBlock = v.ownBlock \/ ∀ g, v'.ownBlock = some g -> w.heap.size <= g) := by
 obtain ⟨i0, hi, hz0, hz1, hz2⟩ := info_parts Tryz.info5
 have HW : Hid (Wr base bw w v bs t m) := h
 have HT : Hid (Text B w a len zs) := ht
 have hm := h.m1
 clear h ht
 go_enter Tryz.func64, Tryz.ntmps64
 go_wp2_with fail
 refine (walign_any base bw v bs t m w HW.out (by omega) hbase).mono ?_
 rintro e w1 ⟨rfl, v1, bs1, h1, r1, k1, o1⟩
 have ht1 : Text B w1 a len zs := HT.out.kept k1 (fun b hb e => by
  rcases e with e | e
  ·omega
  ·have := (ownsRow_lt HW.out.owns e).1; omega)
 have hl := congrArg List.length r1
 simp only [List.length_append, rowOf_length, bitsN_length] at hl
 have hp7 : pad (8 * bs.length + m) <= 7 := by unfold pad; omega
 have hbs1 : bs1.length <= 200000000000 := by omega
 have hzl : zs.length = len := ht1.1
 have c0 := cells_of h1.block 0
 have f0 := free_of h1.block 0
 simp at c0
 have hbw1 := lt_of_block h1.block
 have hap : v1.ownBlock ≠ some bw := ownsRow_apart h1.owns h1.block (by decide)
 have HF : Hid (Wr base bw w1 v1 bs1 0 0) := h1
 have HZ : Hid (zs.length = len) := hzl
 have hsz1 : base <= w1.heap.size := by have := k1.size; omega
 obtain ⟨a1, cp1, rfl⟩ := own_form h1.owns
 clear h1 hl hzl
 cases a with
 | none =>
  obtain ⟨rfl, rfl⟩ := hnil rfl
  have hz0' : zs = [] := List.eq_nil_of_length_eq_zero HZ.out
  subst hz0'
  go_wp2_with (at_builtin; refine wpList_append_own_none rfl (.tmp 10) (.tmp 11) 24 rfl base 5 i0 1 Tryz.underlying24 hi (.slice a1 bs1.length cp1) _ _ rfl HF.out.owns rfl ?_)
  go_end0
  exact ⟨rfl, bytes_end (zs := []) HF.out r1 k1 o1 (by simp) (by simpa using HF.out.owns) (Kept.refl _ _) (.inl rfl)⟩
 | some ad =>
  obtain ⟨ZZ, hZZ⟩ : ∃ ZZ, ZZ = zs.map (Value.int .u8) := ⟨_, rfl⟩
  have HS : Hid (∀ j u, ZZ[j]? = some u -> w1.cell? (ad.add j) = some u) := by rw [hZZ]; exact ht1.src
  have HI : Hid (∀ u ∈ ZZ, u.oneCell' = true) := by rw [hZZ]; exact bytes_one zs
  have hll : ZZ.length = len * 1 := by rw [hZZ]; simp; exact HZ.out
  have HL : Hid (ZZ = zs.map (Value.int .u8)) := hZZ
  have HM : Hid (∀ x ∈ zs, 0 <= x /\ x <= 255) := ht1.mem
  clear hZZ ht1
  go_wp2_with (at_builtin; refine wpList_append_own_at _ rfl (.tmp 10) (.tmp 11) 24 rfl base 5 i0 (.int .u8 0) 1 1 Tryz.underlying24 hi hz0 hz1 hz2 rfl (by decide) (.slice a1 bs1.length cp1) _ _ rfl HF.out.owns ad len cap ZZ rfl hll HS.out HI.out (by unfold maxLen; omega) (by omega) hsz1 ?_; intro v2 w2 hown2 hgrow2 hx2 hat2; obtain ⟨a2, cp2, rfl⟩ := own_form hown2; have kb2 := (Kept.of_grown hgrow2).heap HF.out.block (fun e => hap e.symm); have c2 := cells_of kb2 0; have f2 := free_of kb2 0; simp at c2)
  go_end0
  have hown3 := hown2
  rw [HL.out, <- HZ.out] at hown3
  refine ⟨rfl, ?_⟩
  rw [<- HZ.out]
  exact bytes_end HF.out r1 k1 o1 HM.out hown3 ((Kept.of_grown hgrow2).mono (fun _ _ e => e.symm)) (own_after (by rw [HZ.out]; exact hat2))
#print axioms wbytes_any
end Go.Proofs.YteknifnadbmfiaaGreatDoor

/- The reader's Align and Bytes: contracts; and bytes that become a text. -/
namespace Go.Proofs.YteknifnadbmfiaaGreatDoor
set_option maxRecDepth 100000
open Go.RowKit

theorem ralign_any (br : Nat) (a : Option Addr) (len cap p : Nat) (w : World) (hb : w.heap[br]? = some (.cells #[.slice a len cap, .int .i64 (p : Int)] 148 (0, 0))) (hp : p <= 9223372036854775000) :
  Calls Tryz.prog 99 #[.pointer (some ⟨br, 0, none⟩)] w fun e w' => e = .returned (.tuple #[]) /\ w'.heap[br]? = some (.cells #[.slice a len cap, .int .i64 ((8 * ((p + 7) / 8) : Nat) : Int)] 148 (0, 0)) /\ Kept (fun k => k = br) w w' := by
 have c1 := cells_of hb 1
 have f1 := free_of hb 1
 simp at c1
 go_enter Tryz.func99, Tryz.ntmps99
 go_wp2_with (go_at_call 124; refine (nextByte_any br p _ c1 (by omega) (by omega)).mono ?_; rintro e w ⟨rfl, rfl⟩)
 go_end0
 refine ⟨rfl, ?_, Kept.setCell (M := fun k => k = br) (Kept.refl _ _) (fun _ => rfl) _⟩
 rw [set_of hb, show ((p : Int) + 7) / 8 * 8 = ((8 * ((p + 7) / 8) : Nat) : Int) by omega]
 rfl

theorem rbytes_no (br : Nat) (a : Option Addr) (len cap p : Nat) (n : Int) (w : World) (hb : w.heap[br]? = some (.cells #[.slice a len cap, .int .i64 (p : Int)] 148 (0, 0))) (hl : len * 8 <= 9223372036854775000) (hp : p <= len * 8) (hn : n < 0 \/ (len : Int) - ((p + 7) / 8 : Nat) < n) :
  Calls Tryz.prog 101 #[.pointer (some ⟨br, 0, none⟩), .int .i64 n] w fun e w' => e = .returned (.tuple #[.slice none 0 0, .bool false]) /\ w' = w := by
 have c0 := cells_of hb 0
 have c1 := cells_of hb 1
 simp at c0 c1
 by_cases h0 : n < 0
 ·go_enter Tryz.func101, Tryz.ntmps101
  go_wp2_with (go_at_call 124; refine (nextByte_any br p _ c1 (by omega) (by omega)).mono ?_; rintro e w ⟨rfl, rfl⟩)
  go_ret2
  exact ⟨rfl, rfl⟩
 ·have h1 : (len : Int) - ((p : Int) + 7) / 8 < n := by omega
  clear hn
  go_enter Tryz.func101, Tryz.ntmps101
  go_wp2_with (go_at_call 124; refine (nextByte_any br p _ c1 (by omega) (by omega)).mono ?_; rintro e w ⟨rfl, rfl⟩)
  go_ret2
  exact ⟨rfl, rfl⟩

theorem made_full (n : Nat) (i : TypeInfo) (hi : Tryz.prog.info? 5 = some i) (hz : i.zero = some (.int .u8 0)) (hs : i.size = 1) (hb : i.bytes = 1) (hn : n <= 140737488351232) (W : World) :
  (Instr.makeSlice 24 (.int .i64 (n : Int)) (.int .i64 (n : Int))).run Tryz.prog W = .ok (.slice (some ⟨W.heap.size, 0, none⟩) n n) (W.alloc (.cells (List.replicate n (Value.int .u8 0)).toArray 5)) := by
 have := run_make (P := Tryz.prog) W 24 5 i (.int .u8 0) Tryz.underlying24 hi hz .i64 .i64 n n (by omega) (by omega) (by rw [hb]; omega) (by omega)
 rw [this, hs]
 have e2 : madeCells (Value.int .u8 0).cells n = (List.replicate n (Value.int .u8 0)).toArray := by
  have := toList_madeCells_one (Value.int .u8 0) n
  rw [<- Array.toList_inj]
  simpa [Value.cells] using this
 rw [Int.toNat_natCast, Nat.mul_one, e2]

theorem own_copy {B g n : Nat} {w : World} {ZS CS : List Value} (h : w.heap[g]? = some (.cells (splice ZS 0 CS).toArray 5 (0, 0))) (hB : B <= g) (hn : n <= 140737488351232) (hc : CS.length = n) (hz : ZS.length = n) : w.ownsRow B 5 1 (.slice (some ⟨g, 0, none⟩) n n) n CS := by
 refine ⟨by omega, .inr ⟨g, n, _, rfl, hB, h, by omega, by unfold maxLen; omega, ?_, ?_⟩⟩
 ·simp [splice]; omega
 ·simp [splice]
  rw [List.take_append_of_le_length (by omega), List.take_of_length_le (by omega)]

def SrcAt (w : World) (sp : Option Addr) (CS : List Value) : Prop := ∃ ad, sp = some ad /\ ∀ j u, CS[j]? = some u -> w.cell? (ad.add j) = some u

theorem rbytes_end {br n p fr len cap : Nat} {a : Option Addr} {x : Int} {w w2 : World} {ZS CS : List Value} {zs : List Int} (h : w2.heap[w.heap.size]? = some (.cells (splice ZS 0 CS).toArray 5 (0, 0))) (hB : Below w.heap.size w w2)
  (kb : w2.heap[br]? = some (.cells #[.slice a len cap, .int .i64 (p : Int)] 148 (0, 0))) (hbr : br < w.heap.size) (hn : n <= 140737488351232) (hc : CS.length = n) (hz : ZS.length = n) (hC : CS = ((zs.drop fr).take n).map (Value.int .u8)) (hr : fr = (p + 7) / 8) (hx : x = ((8 * (fr + n) : Nat) : Int)) :
  Ending.returned (.tuple #[.slice (some ⟨w.heap.size, 0, none⟩) n n, .bool true]) = Ending.returned (.tuple #[.slice (some ⟨w.heap.size, 0, none⟩) n n, .bool true]) /\ OwnsB (w2.setCell ⟨br, 1, none⟩ (.int .i64 x)) w.heap.size (.slice (some ⟨w.heap.size, 0, none⟩) n n) ((zs.drop ((p + 7) / 8)).take n) /\
   (w2.setCell ⟨br, 1, none⟩ (.int .i64 x)).heap[br]? = some (.cells #[.slice a len cap, .int .i64 ((8 * ((p + 7) / 8 + n) : Nat) : Int)] 148 (0, 0)) /\ Kept (fun k => k = br) w (w2.setCell ⟨br, 1, none⟩ (.int .i64 x)) := by
 have ho := own_copy h (Nat.le_refl _) hn hc hz
 have hlen : ((zs.drop fr).take n).length = n := by rw [<- hc, hC]; simp
 rw [hC] at ho
 subst hr
 refine ⟨rfl, ?_, ?_, ?_⟩
 ·unfold OwnsB
  rw [hlen]
  exact ownsRow_setCell_other ho (by simp [Value.ownBlock]; omega) _
 ·rw [set_of kb, hx]; rfl
 ·exact Kept.setCell (M := fun k => k = br) ((Kept.of_below hB).mono (fun i hi e => by omega)) (fun _ => rfl) _

set_option maxHeartbeats 1000000 in
theorem rbytes_yes (B br : Nat) (a : Option Addr) (len cap p n : Nat) (ni : Int) (hni : ni = n) (zs : List Int) (w : World) (hb : w.heap[br]? = some (.cells #[.slice a len cap, .int .i64 (p : Int)] 148 (0, 0))) (ht : Text B w a len zs) (hcap : len <= cap)
  (hl : len <= 140737488351232) (hp : p <= len * 8) (hn : (p + 7) / 8 + n <= len) :
  Calls Tryz.prog 101 #[.pointer (some ⟨br, 0, none⟩), .int .i64 ni] w fun e w' => e = .returned (.tuple #[.slice (some ⟨w.heap.size, 0, none⟩) n n, .bool true]) /\ OwnsB w' w.heap.size (.slice (some ⟨w.heap.size, 0, none⟩) n n) ((zs.drop ((p + 7) / 8)).take n) /\ w'.heap[br]? = some (.cells #[.slice a len cap, .int .i64 ((8 * ((p + 7) / 8 + n) : Nat) : Int)] 148 (0, 0)) /\ Kept (fun k => k = br) w w' := by
 subst hni
 have c0 := cells_of hb 0
 have c1 := cells_of hb 1
 have f1 := free_of hb 1
 have hbr := lt_of_block hb
 simp at c0 c1
 obtain ⟨fr, hfr⟩ : ∃ fr, fr = (p + 7) / 8 := ⟨_, rfl⟩
 rw [<- hfr] at hn
 have hfri : ((p : Int) + 7) / 8 = (fr : Int) := by omega
 obtain ⟨i0, hi, hz0, hz1, hz2⟩ := info_parts Tryz.info5
 have hmk := made_full n i0 hi hz0 hz1 hz2 (by omega)
 obtain ⟨ZS, hZS⟩ : ∃ ZS : List Value, ZS = List.replicate n (Value.int .u8 0) := ⟨_, rfl⟩
 rw [<- hZS] at hmk
 obtain ⟨CS, hCS⟩ : ∃ CS : List Value, CS = ((zs.drop fr).take n).map (Value.int .u8) := ⟨_, rfl⟩
 have hcl : CS.length = n := by rw [hCS]; simp [ht.1]; omega
 have hzl : ZS.length = n := by rw [hZS]; simp
 have hsz1 : (Tryz.prog.info? 5).map (fun x => x.size) = some 1 := by rw [hi]; simp [hz1]
 have HO : Hid (∀ u ∈ CS, u.oneCell' = true) := by rw [hCS]; exact bytes_one _
 have HC : Hid (CS = ((zs.drop fr).take n).map (Value.int .u8)) := hCS
 have HW : Hid (Below w.heap.size w (w.alloc (.cells ZS.toArray 5))) := Below.alloc (Below.refl _ _) (Nat.le_refl _) _
 have HP : Hid (0 < n -> SrcAt (w.alloc (.cells ZS.toArray 5)) (a.map fun x => x.add fr) CS) := by
  intro hp0
  obtain ⟨h1, h2, h3⟩ := ht
  obtain ⟨b, off, hbB, rfl, hcell⟩ := h3.resolve_left (by omega)
  refine ⟨_, rfl, fun j u hj => ?_⟩
  have hjn : j < n := by
   rcases Nat.lt_or_ge j n with h' | h'
   ·exact h'
   ·rw [List.getElem?_eq_none (by omega)] at hj; simp at hj
  have hcj := hcell (fr + j) (by omega)
  have e0 : ∀ o i, ((⟨b, o, none⟩ : Addr).add i) = ⟨b, o + i, none⟩ := fun o i => by unfold Addr.add; split <;> simp_all
  show (w.alloc _).cell? (((⟨b, off, none⟩ : Addr).add fr).add j) = _
  rw [e0, e0, Nat.add_assoc, World.cell?_of_block (w := w) (Below.heap_alloc w _ _ (lt_of_cell hcj)), hcj]
  rw [hCS] at hj
  simp [hjn] at hj
  obtain ⟨x, hx, rfl⟩ := hj
  simp [List.getD, hx]
 have HR : Hid (fr = (p + 7) / 8) := hfr
 clear hZS hCS hfr ht
 by_cases hcf : cap = fr
 ·have HCF : Hid (cap = fr) := hcf
  have hcf1 : cap <= fr := by omega
  clear hcf
  go_enter Tryz.func101, Tryz.ntmps101
  go_wp2_with (first
   | (go_at_call 124; refine (nextByte_any br p _ c1 (by omega) (by omega)).mono ?_; rintro e w ⟨rfl, rfl⟩)
   | (refine wpList_copy_splice rfl (.tmp 25) (.tmp 31) 24 24 rfl 5 Tryz.underlying24 hsz1 _ _ _ _ _ _ (by rfl) (by rfl) w.heap.size 0 ZS 5 (heap_new w _) CS (by rw [hcl]; exact (Nat.min_eq_right (by omega)).symm) (fun hp => absurd hp (by omega)) (by omega) HO.out w.heap.size w HW.out (Nat.le_refl _) ?_; intro w2 HG2 hB2; have kb := (hB2.block br hbr).trans hb; have k1 := cells_of kb 1; have g1 := free_of kb 1; simp at k1))
  go_ret2
  exact rbytes_end HG2.out hB2 kb hbr (by omega) hcl hzl HC.out HR.out (by omega)
 ·go_enter Tryz.func101, Tryz.ntmps101
  go_wp2_with (first
   | (go_at_call 124; refine (nextByte_any br p _ c1 (by omega) (by omega)).mono ?_; rintro e w ⟨rfl, rfl⟩)
   | (refine wpList_copy_splice rfl (.tmp 25) (.tmp 31) 24 24 rfl 5 Tryz.underlying24 hsz1 _ _ _ _ _ _ (by rfl) (by rfl) w.heap.size 0 ZS 5 (heap_new w _) CS (by rw [hcl]; exact (Nat.min_eq_right (by omega)).symm) (fun hp => ⟨rfl, HP.out (by omega)⟩) (by omega) HO.out w.heap.size w HW.out (Nat.le_refl _) ?_; intro w2 HG2 hB2; have kb := (hB2.block br hbr).trans hb; have k1 := cells_of kb 1; have g1 := free_of kb 1; simp at k1))
  go_ret2
  exact rbytes_end HG2.out hB2 kb hbr (by omega) hcl hzl HC.out HR.out (by omega)

theorem conv_text {B : Nat} {w : World} {a : Option Addr} {len cap : Nat} {zs : List Int} (h : Text B w a len zs) : (convert 24 9 (.slice a len cap)).run Tryz.prog w = .ok (.string (strOfNums zs)) w := by
 obtain ⟨h1, _, h3⟩ := h
 rcases h3 with h3 | ⟨b, off, _, rfl, hc⟩
 ·have hz : zs = [] := List.eq_nil_of_length_eq_zero (by omega)
  subst hz
  subst h3
  cases a with
  | none => exact run_convert_bytes_nil w 24 5 Tryz.underlying24 Tryz.underlying5 0 cap 9 Tryz.underlying9
  | some ad =>
   rw [run_convert_bytes_string w 24 9 5 _ 0 cap Tryz.underlying24 Tryz.underlying5 Tryz.underlying9, run_bytesToString w ad 0 cap [] (by simpa using run_loadCells_list (P := Tryz.prog) w ad [] (by simp))]
   rfl
 ·exact run_convert_bytes_arg w 24 5 Tryz.underlying24 Tryz.underlying5 b off len cap zs h1 hc 9 Tryz.underlying9
end Go.Proofs.YteknifnadbmfiaaGreatDoor

/- huff's Make and Codes: contracts; what a Code is in memory. -/
namespace Go.Proofs.YteknifnadbmfiaaGreatDoor
set_option maxRecDepth 100000
open Go Go.RowKit

structure CodeAt (lo hi : Nat) (w : World) (bc gl gc : Nat) (vo : Value) (N : Nat) (ls : List Int) : Prop where
 block : w.heap[bc]? = some (.cells (codeA ls vo (.slice (some ⟨gl, 0, none⟩) ls.length ls.length) (.slice (some ⟨gc, 0, none⟩) ls.length ls.length) N) 161 (0, 0))
 lens : w.heap[gl]? = some (.cells (valA ls) 3 (0, 0))
 codes : w.heap[gc]? = some (.cells (valA (codesL ls)) 3 (0, 0))
 ord : Owns w lo vo ((od ls 15).map (fun (x : Nat) => (x : Int)))
 ordlt : ∀ g, vo.ownBlock = some g -> g < hi
 long : Longest ls N
 inb : lo <= bc /\ bc < hi
 inl : lo <= gl /\ gl < hi
 inc : lo <= gc /\ gc < hi
theorem CodeAt.kept {lo hi : Nat} {w w' : World} {bc gl gc : Nat} {vo : Value} {N : Nat} {ls : List Int} {M : Nat -> Prop} (h : CodeAt lo hi w bc gl gc vo N ls) (k : Kept M w w') (hn : ∀ b, lo <= b -> b < hi -> ¬ M b) : CodeAt lo hi w' bc gl gc vo N ls :=
 ⟨k.heap h.block (hn _ h.inb.1 h.inb.2), k.heap h.lens (hn _ h.inl.1 h.inl.2), k.heap h.codes (hn _ h.inc.1 h.inc.2), Owns.kept h.ord k (fun g hg => hn g (ownsRow_lt h.ord hg).1 (h.ordlt g hg)), h.ordlt, h.long, h.inb, h.inl, h.inc⟩
theorem CodeAt.below {lo hi B : Nat} {w w' : World} {bc gl gc : Nat} {vo : Value} {N : Nat} {ls : List Int} (h : CodeAt lo hi w bc gl gc vo N ls) (k : Below B w w') (hB : hi <= B) : CodeAt lo hi w' bc gl gc vo N ls :=
 h.kept (Kept.of_below k) (fun b _ h2 h3 => by omega)

theorem made_ints (n : Nat) (i : TypeInfo) (hi : Tryz.prog.info? 3 = some i) (hz : i.zero = some (.int .i64 0)) (hs : i.size = 1) (hb : i.bytes = 8) (hn : n <= 1000000000) (W : World) :
  (Instr.makeSlice 97 (.int .i64 (n : Int)) (.int .i64 (n : Int))).run Tryz.prog W = .ok (.slice (some ⟨W.heap.size, 0, none⟩) n n) (W.alloc (.cells (valA (List.replicate n 0)) 3)) := by
 have := run_make (P := Tryz.prog) W 97 3 i (.int .i64 0) Tryz.underlying97 hi hz .i64 .i64 n n (by omega) (by omega) (by rw [hb]; omega) (by omega)
 rw [this, hs]
 have e2 : madeCells (Value.int .i64 0).cells n = valA (List.replicate n 0) := by
  have := toList_madeCells_one (Value.int .i64 0) n
  rw [<- Array.toList_inj]
  simpa [Value.cells, valA] using this
 rw [Int.toNat_natCast, Nat.mul_one, e2]

theorem splice_all (Z C : List Value) (h : Z.length = C.length) : splice Z 0 C = C := by
 simp [splice, h]

theorem build_code (ls : List Int) (a b : Option Addr) (n m k l : Nat) (W : World) :
  (Instr.build 161 #[(0, .agg (manyA ls)), (2, .slice a n m), (3, .slice b k l)]).run Tryz.prog W = .ok (.agg (codeA ls (.slice none 0 0) (.slice a n m) (.slice b k l) 0)) W := by
 exact run_build W 161 _ _ (by kernel_rfl)

theorem make_bad (B : Nat) (a : Option Addr) (cap : Nat) (ls : List Int) (lone : Bool) (w : World) (hn : 320 < ls.length \/ ¬ Fit ls) (hi : Ints 0 B w a ls) :
  Calls Tryz.prog 66 #[.slice a ls.length cap, .bool lone] w fun e w' => e = .returned (.tuple #[.pointer none, .int .i64 1]) /\ Below w.heap.size w w' := by
 have hz := zeroM.1
 have HI : Hid _ := infoM []
 have HN : Hid (320 < ls.length \/ ¬ Fit ls) := hn
 clear hn
 go_enter Tryz.func66, Tryz.ntmps66
 go_wp2_with (first
  | (go_at_call 83; refine (count_no B a cap ls _ HN.out hi).mono ?_; rintro e w1 ⟨rfl, b1⟩; have B1 : Hid (Below w.heap.size w (w1.alloc (.cells (manyA []) 156))) := b1.alloc b1.size _; clear b1)
  | (refine wpList_store_row rfl 156 (.tmp 6) (.tmp 13) rfl w1.heap.size (manyA []) (by rfl) (by rfl) (manyA []) 156 (heap_new _ _) HI.out (by rw [manyA_size]) (manyA_one _) _ (World.setRow_alloc_new _ _ _ _) ?_))
 go_ret2
 exact ⟨rfl, B1.out⟩

theorem make_no (B : Nat) (a : Option Addr) (cap : Nat) (ls : List Int) (lone : Bool) (w : World) (hn : ls.length <= 320) (hf : Fit ls) (hA : amiss ls lone ≠ 0) (hi : Ints 0 B w a ls) :
  Calls Tryz.prog 66 #[.slice a ls.length cap, .bool lone] w fun e w' => e = .returned (.tuple #[.pointer none, .int .i64 (amiss ls lone)]) /\ Below w.heap.size w w' := by
 have hz := zeroM.1
 have HI : Hid _ := infoM ls
 have HF : Hid (Fit ls) := hf
 have HW : ∀ W, Hid (Calls Tryz.prog 84 #[.agg (manyA ls), .bool lone] W fun e w' => e = .returned (.int .i64 (amiss ls lone)) /\ Below W.heap.size W w') := fun W => weigh_any ls lone W hn
 generalize amiss ls lone = AM at hA HW ⊢
 clear hf
 go_enter Tryz.func66, Tryz.ntmps66
 go_wp2_with (first
  | (go_at_call 83; refine (count_yes B a cap ls _ hn HF.out hi).mono ?_; rintro e w1 ⟨rfl, b1⟩; have B1 : Hid (Below w.heap.size w (w1.alloc (.cells (manyA ls) 156))) := b1.alloc b1.size _; clear b1)
  | (refine wpList_store_row rfl 156 (.tmp 6) (.tmp 13) rfl w1.heap.size (manyA ls) (by rfl) (by rfl) (manyA []) 156 (heap_new _ _) HI.out (by rw [manyA_size, manyA_size]) (manyA_one _) _ (World.setRow_alloc_new _ _ _ _) ?_)
  | (refine wpList_load_row rfl 156 (.tmp 6) rfl w1.heap.size (by rfl) (manyA ls) 156 (0, 0) (heap_new _ _) _ Tryz.underlying156 rfl HI.out ?_)
  | (go_at_call 84; refine (HW _).out.mono ?_; rintro e w2 ⟨rfl, b2⟩; have B2 : Hid (Below w.heap.size w w2) := B1.out.trans (b2.mono B1.out.size); clear b2))
 go_ret2
 exact ⟨rfl, B2.out⟩

theorem rangeAt_alloc {w : World} {b : Nat} {cs : List Value} (h : w.rangeAt b 0 cs) (o : Obj) : (w.alloc o).rangeAt b 0 cs := by
 intro j v hj
 have := h j v hj
 rw [<- this]
 exact World.cell?_of_block (w := w) (Below.heap_alloc w _ _ (lt_of_cell this))
theorem rangeAt_of {w : World} {b : Nat} {cs : List Value} {t : TypeId} {fr : Nat × Nat} (h : w.heap[b]? = some (.cells cs.toArray t fr)) : w.rangeAt b 0 cs := by
 intro j v hj
 simp [World.cell?, h, hj]

theorem kept_setRow (w : World) (g : Nat) (c : Array Value) : Kept (fun i => i = g) w (w.setRow g c) := by
 refine ⟨rfl, rfl, rfl, by simp [World.setRow], fun k hk hn => ?_⟩
 simp only [World.setRow]
 rw [Array.getElem?_modify, if_neg (fun e => hn e.symm)]
theorem wpList_copy_kept {P : Program} {w : World} {ops : Array Oper} {rest : List Oper} {o : Oper} {a : Act} {Q : Exit -> Act -> World -> Prop} (hgd : o.guard = none) (d s : Operand) (dT sT : TypeId)
  (ho : o.op = .call { callee := .builtin .copy, args := #[d, s], argTypes := #[dT, sT] }) (elem : TypeId) (hu : P.underlying dT = some (.slice elem)) (hsz : (P.info? elem).map (·.size) = some 1)
  (dp sp : Option Addr) (dLen dCap sLen sCap : Nat) (hd : a.eval d = .slice dp dLen dCap) (hs : a.eval s = .slice sp sLen sCap)
  (g off : Nat) (cur : List Value) (t : TypeId) (hg : w.heap[g]? = some (.cells cur.toArray t (0, 0))) (cs : List Value) (hn : cs.length = Nat.min sLen dLen)
  (hpos : 0 < cs.length -> dp = some ⟨g, off, none⟩ /\ ∃ ad, sp = some ad /\ ∀ j v, cs[j]? = some v -> w.cell? (ad.add j) = some v)
  (hfit : off + cs.length <= cur.length) (h1 : ∀ v ∈ cs, v.oneCell' = true)
  (h : ∀ w', Hid (w'.heap[g]? = some (.cells (splice cur off cs).toArray t (0, 0))) -> Hid (Kept (fun i => i = g) w w') -> wpList P ops Q rest (a.put o.dst (goInt cs.length)) w') :
  wpList P ops Q (o :: rest) a w := by
 by_cases h0 : cs.length = 0
 ·obtain rfl : cs = [] := List.eq_nil_of_length_eq_zero h0
  refine wpList_copy_nothing hgd d s dT sT ho elem hu hsz dp sp dLen dCap sLen sCap hd hs (by simpa using hn.symm) ?_
  exact h w (show _ = _ by simpa [splice] using hg) (Kept.refl _ _)
 ·obtain ⟨rfl, ad, rfl, hsrc⟩ := hpos (by omega)
  refine wpList_copy_own hgd d s dT sT ho elem hu hsz g off dLen dCap ad sLen sCap hd hs cur.toArray t hg cs hn hsrc (by simpa using hfit) h1 ?_
  exact h _ (show _ = _ by simpa [splice] using setRow_heap w g _ _ t _ hg) (kept_setRow _ _ _)

theorem three_new (w : World) (o1 o2 o3 : Obj) : (((w.alloc o1).alloc o2).alloc o3).heap[w.heap.size]? = some o1 /\ (((w.alloc o1).alloc o2).alloc o3).heap[w.heap.size + 1]? = some o2 /\ (((w.alloc o1).alloc o2).alloc o3).heap[w.heap.size + 1 + 1]? = some o3 /\ Below w.heap.size w (((w.alloc o1).alloc o2).alloc o3) := by
 refine ⟨heap_old (heap_old (heap_new _ _)), heap_old ?_, ?_, ((Below.refl _ w).alloc (Nat.le_refl _) _).alloc (by simp) _ |>.alloc (by simp; omega) _⟩
 ·have := heap_new (w.alloc o1) o2
  simpa using this
 ·have := heap_new ((w.alloc o1).alloc o2) o3
  simpa using this

theorem make_end {bc gl gc : Nat} {ls : List Int} {w w2 wc w3 w4 : World} {vo : Value} {N : Nat} (hf : Fit ls) (b2 : Below w.heap.size w w2) (bw : Below w2.heap.size w2 wc) (k3 : Kept (fun i => i = gl) wc w3) (hl : w3.heap[gl]? = some (.cells (valA ls) 3 (0, 0)))
  (n1 : gl ≠ bc) (n2 : gl ≠ gc) (l1 : w2.heap.size <= bc) (l2 : w2.heap.size <= gl) (l3 : w2.heap.size <= gc) (h : Num bc gc ls (.slice (some ⟨gl, 0, none⟩) ls.length ls.length) (.slice (some ⟨gc, 0, none⟩) ls.length ls.length) w3 w4 vo 16 0 N) :
  CodeAt w.heap.size w4.heap.size w4 bc gl gc vo N ls /\ Below w.heap.size w w4 := by
 have hb3 : Below w2.heap.size wc w3 := k3.below bw.size (fun i hi e => by omega)
 have hb4 : Below w2.heap.size w3 w4 := h.kept.below (by have := bw.size; have := k3.size; omega) (fun i hi e => by omega)
 have hb : Below w2.heap.size w2 w4 := (bw.trans hb3).trans hb4
 have s2 := b2.size
 have s3 : w.heap.size <= w3.heap.size := by have := bw.size; have := k3.size; omega
 have hl4 := h.kept.heap hl (by rintro (e | e); exact n1 e; exact n2 e)
 refine ⟨⟨h.block, hl4, ?_, ?_, fun g hg => (ownsRow_lt h.owns hg).2, ⟨?_, fun s hs => ?_, h.has⟩, ⟨by omega, lt_of_block h.block⟩, ⟨by omega, lt_of_block hl4⟩, ⟨by omega, lt_of_block h.codes⟩⟩, b2.trans (hb.mono s2)⟩
 ·have := h.codes
  rw [cds_end ls hf] at this
  exact this
 ·have := h.owns
  have e : ods ls 16 0 = (od ls 15).map (fun (x : Nat) => (x : Int)) := by simp [ods, idx]
  rw [e] at this
  exact this.low s3
 ·rcases h.has with e | ⟨s, hs, e⟩
  ·omega
  ·have := ln_fit hf s; omega
 ·refine h.up s hs (.inl ?_)
  have := ln_fit hf s; omega

set_option maxHeartbeats 2000000 in
set_option maxRecDepth 100000 in
theorem make_yes (B : Nat) (a : Option Addr) (cap : Nat) (ls : List Int) (lone : Bool) (w : World) (hn : ls.length <= 320) (hf : Fit ls) (hA : amiss ls lone = 0) (hi : Ints 0 B w a ls) :
  Calls Tryz.prog 66 #[.slice a ls.length cap, .bool lone] w fun e w' => ∃ bc gl gc vo N, e = .returned (.tuple #[.pointer (some ⟨bc, 0, none⟩), .int .i64 0]) /\ CodeAt w.heap.size w'.heap.size w' bc gl gc vo N ls /\ Below w.heap.size w w' := by
 have hz := zeroM.1
 have HI : Hid _ := infoM ls
 have HF : Hid (Fit ls) := hf
 have HW : ∀ W, Hid (Calls Tryz.prog 84 #[.agg (manyA ls), .bool lone] W fun e w' => e = .returned (.int .i64 0) /\ Below W.heap.size W w') := fun W => by have := weigh_any ls lone W hn; rw [hA] at this; exact this
 have hws : ws ls 15 <= 32768 := by
  unfold amiss at hA
  split at hA
  ·simp at hA
  ·omega
 obtain ⟨i0, hi0, hz0, hz1', hz2'⟩ := info_parts Tryz.info3
 have hmk := made_ints ls.length i0 hi0 hz0 hz1' hz2' (by omega)
 have hbd := build_code ls
 clear hf hA
 go_enter Tryz.func66, Tryz.ntmps66
 go_upto_region 7 with (first
  | (go_at_call 83; refine (count_yes B a cap ls _ hn HF.out hi).mono ?_; rintro e w1 ⟨rfl, b1⟩; have B1 : Hid (Below w.heap.size w w1) := b1; clear b1)
  | (refine wpList_store_row rfl 156 (.tmp 6) (.tmp 13) rfl w1.heap.size (manyA ls) (by rfl) (by rfl) (manyA []) 156 (heap_new _ _) HI.out (by rw [manyA_size, manyA_size]) (manyA_one _) _ (World.setRow_alloc_new _ _ _ _) ?_)
  | (refine wpList_load_row rfl 156 (.tmp 6) rfl w1.heap.size (by rfl) (manyA ls) 156 (0, 0) (heap_new _ _) _ Tryz.underlying156 rfl HI.out ?_)
  | (go_at_call 84; refine (HW _).out.mono ?_; rintro e w2 ⟨rfl, b2⟩; have B2 : Hid (Below w.heap.size w w2) := (B1.out.alloc B1.out.size _).trans (b2.mono (by have := B1.out.size; simp; omega)); have hm2 : w2.heap[w1.heap.size]? = some (.cells (manyL ls).toArray 156 (0, 0)) := (b2.block w1.heap.size (by simp)).trans (heap_new _ _); clear b2))
 have R2 : Hid (w2.rangeAt w1.heap.size 0 (manyL ls)) := rangeAt_of hm2
 have hu := Tryz.underlying156
 have hil : (Tryz.prog.info? 156).map (·.size) = some (manyL ls).length := by have := HI.out; simpa [manyA] using this
 clear hm2
 go_cut [9] (fun v9 wx => ∃ bc gl gc, v9 = .pointer (some ⟨bc, 0, none⟩) /\ wx.heap[bc]? = some (.cells (codeA ls (.slice none 0 0) (.slice (some ⟨gl, 0, none⟩) ls.length ls.length) (.slice (some ⟨gc, 0, none⟩) ls.length ls.length) 0) 161 (0, 0)) /\ wx.heap[gl]? = some (.cells (valA (List.replicate ls.length 0)) 3 (0, 0)) /\ wx.heap[gc]? = some (.cells (valA (List.replicate ls.length 0)) 3 (0, 0)) /\ gl ≠ bc /\ gl ≠ gc /\ bc ≠ gc /\ w2.heap.size <= bc /\ w2.heap.size <= gl /\ w2.heap.size <= gc /\ Below w2.heap.size w2 wx)
 case first =>
  have hr2 := R2.out
  obtain ⟨RA, hRA⟩ : ∃ RA, RA = valA (List.replicate ls.length 0) := ⟨_, rfl⟩
  rw [<- hRA] at hmk
  have HRA : Hid (RA = valA (List.replicate ls.length 0)) := hRA
  have HCA : Hid (∀ va vb, codeA ls (.slice none 0 0) va vb 0 = (manyL ls).toArray ++ #[.slice none 0 0, va, vb, .int .i64 0]) := fun _ _ => rfl
  obtain ⟨ML, hML⟩ : ∃ ML, ML = manyL ls := ⟨_, rfl⟩
  rw [<- hML] at hr2 hil HCA
  obtain ⟨x0, x1, x2, x3, x4, x5, x6, x7, x8, x9, x10, x11, x12, x13, x14, x15, hx⟩ : ∃ x0 x1 x2 x3 x4 x5 x6 x7 x8 x9 x10 x11 x12 x13 x14 x15 : Int, ML = [.int .i64 x0, .int .i64 x1, .int .i64 x2, .int .i64 x3, .int .i64 x4, .int .i64 x5, .int .i64 x6, .int .i64 x7, .int .i64 x8, .int .i64 x9, .int .i64 x10, .int .i64 x11, .int .i64 x12, .int .i64 x13, .int .i64 x14, .int .i64 x15] := ⟨_, _, _, _, _, _, _, _, _, _, _, _, _, _, _, _, hML⟩
  subst hx
  clear hz hRA hbd hML
  go_region_held3 (fun w' => w'.rangeAt w1.heap.size 0 [.int .i64 x0, .int .i64 x1, .int .i64 x2, .int .i64 x3, .int .i64 x4, .int .i64 x5, .int .i64 x6, .int .i64 x7, .int .i64 x8, .int .i64 x9, .int .i64 x10, .int .i64 x11, .int .i64 x12, .int .i64 x13, .int .i64 x14, .int .i64 x15]) (first | assumption | exact rangeAt_alloc (by assumption) _) (fail)
  all_goals (go_wp2_with fail)
  all_goals go_meet
  ·obtain ⟨n1, n2, n3, nb⟩ := three_new w2 (.cells RA 3) (.cells RA 3) (.cells _ 161)
   exact ⟨w2.heap.size + 1 + 1, w2.heap.size, w2.heap.size + 1, rfl, by rw [HCA.out]; exact n3, by rw [<- HRA.out]; exact n1, by rw [<- HRA.out]; exact n2, by omega, by omega, by omega, by omega, by omega, by omega, nb.drew⟩
  ·obtain ⟨n1, n2, n3, nb⟩ := three_new w2 (.cells RA 3) (.cells RA 3) (.cells _ 161)
   exact ⟨w2.heap.size + 1 + 1, w2.heap.size + 1, w2.heap.size, rfl, by rw [HCA.out]; exact n3, by rw [<- HRA.out]; exact n2, by rw [<- HRA.out]; exact n1, by omega, by omega, by omega, by omega, by omega, by omega, nb.drew⟩
 case rest =>
  obtain ⟨bc, gl, gc, rfl, hb, hl, hg, n1, n2, n3, l1, l2, l3, hbel⟩ := hcut
  have c17 := cells_of hb 17
  rw [codeA_17] at c17
  obtain ⟨CS, hCS⟩ : ∃ CS : List Value, CS = ls.map (Value.int .i64) := ⟨_, rfl⟩
  have hcl : CS.length = ls.length := by rw [hCS]; simp
  have hsz1 : (Tryz.prog.info? 3).map (fun x => x.size) = some 1 := by rw [hi0]; simp [hz1']
  have HO : Hid (∀ u ∈ CS, u.oneCell' = true) := by intro u hu; rw [hCS] at hu; simp at hu; obtain ⟨x, _, rfl⟩ := hu; rfl
  have hbw : Below w.heap.size w wc := B2.out.trans (hbel.mono B2.out.size)
  have hi' := hi.stay hbw
  have HP : Hid (0 < CS.length -> some (⟨gl, 0, none⟩ : Addr) = some ⟨gl, 0, none⟩ /\ ∃ ad, a = some ad /\ ∀ j u, CS[j]? = some u -> wc.cell? (ad.add j) = some u) := by
   intro hp
   rw [hCS]
   exact ⟨rfl, hi'.src (by omega)⟩
  obtain ⟨ZS, hZS⟩ : ∃ ZS : List Value, ZS = (List.replicate ls.length (0 : Int)).map (Value.int .i64) := ⟨_, rfl⟩
  have hzl : ZS.length = ls.length := by rw [hZS]; simp
  have hl' : wc.heap[gl]? = some (.cells ZS.toArray 3 (0, 0)) := by rw [hZS]; exact hl
  have HL : Hid (wc.heap[gl]? = some (.cells ZS.toArray 3 (0, 0))) := hl'
  have HC : Hid (CS = ls.map (Value.int .i64)) := hCS
  have HB : Hid (wc.heap[bc]? = some (.cells (codeA ls (.slice none 0 0) (.slice (some ⟨gl, 0, none⟩) ls.length ls.length) (.slice (some ⟨gc, 0, none⟩) ls.length ls.length) 0) 161 (0, 0))) := hb
  have HG : Hid (wc.heap[gc]? = some (.cells (valA (List.replicate ls.length 0)) 3 (0, 0))) := hg
  have HK : Hid (Kept (fun i => i = gl) wc wc) := Kept.refl _ _
  have HBW : Hid (Below w2.heap.size w2 wc) := hbel
  clear hCS hi' hZS hl hl' hb hg hbd hmk hz R2
  go_wp2_with (first
   | (refine wpList_copy_kept rfl (.tmp 35) (.tmp 36) 97 97 rfl 3 Tryz.underlying97 hsz1 _ _ _ _ _ _ (by rfl) (by rfl) gl 0 ZS 3 HL.out CS (by rw [hcl]; exact (Nat.min_self _).symm) (fun hp => ⟨rfl, (HP.out hp).2⟩) (by omega) HO.out ?_; intro w3 HG2 HK3; have HB3 : Hid _ := HK3.out.heap HB.out (Ne.symm n1); have HG3 : Hid _ := HK3.out.heap HG.out (Ne.symm n2); have HL3 : Hid (w3.heap[gl]? = some (.cells (valA ls) 3 (0, 0))) := by (have := HG2.out; rw [splice_all _ _ (by omega), HC.out] at this; exact this))
   | (go_at_call 85; refine (number_any bc gc gl ls.length ls.length ls w3 hn hws HB3.out HG3.out HL3.out n1 n2 n3).mono ?_; rintro e w4 ⟨rfl, vo, N, hnum⟩))
  go_ret2
  obtain ⟨q1, q2⟩ := make_end HF.out B2.out HBW.out HK3.out HL3.out n1 n2 l1 l2 l3 hnum
  exact ⟨bc, gl, gc, vo, N, rfl, q1, q2⟩

def check (ls : List Int) (lone : Bool) : Int := if 320 < ls.length \/ ¬ (∀ x ∈ ls, 0 <= x /\ x <= 15) then 1 else amiss ls lone
theorem check_bad {ls : List Int} {lone : Bool} (h : 320 < ls.length \/ ¬ Fit ls) : check ls lone = 1 := if_pos h
theorem check_fit {ls : List Int} {lone : Bool} (h : ls.length <= 320) (hf : Fit ls) : check ls lone = amiss ls lone := if_neg (by rintro (h1 | h1); omega; exact h1 hf)
theorem check_ok {ls : List Int} {lone : Bool} (h : check ls lone = 0) : ls.length <= 320 /\ Fit ls /\ amiss ls lone = 0 := by
 by_cases hb : 320 < ls.length \/ ¬ Fit ls
 ·rw [check_bad hb] at h; simp at h
 ·have h1 : ls.length <= 320 := by omega
  have h2 : Fit ls := Classical.byContradiction fun h' => hb (.inr h')
  exact ⟨h1, h2, by rw [<- check_fit h1 h2]; exact h⟩
theorem check_good {ls : List Int} {lone : Bool} (h : check ls lone = 0) : Good ls := by
 obtain ⟨h1, h2, h3⟩ := check_ok h
 unfold amiss at h3
 split at h3
 ·simp at h3
 ·rename_i hw
  split at h3
  ·simp at h3
  ·rename_i hl
   refine ⟨h2, by omega, ?_⟩
   by_cases he : ws ls 15 = 32768
   ·exact .inl he
   ·right
    have hlo : loneB ls = true := by
     by_cases hq : lone = true /\ loneB ls = true
     ·exact hq.2
     ·exact absurd ⟨by omega, hq⟩ hl
    intro s hs
    have hb := ln_fit h2 s
    by_cases hx : ln ls s <= 1
    ·exact hx
    ·exfalso
     have e : ((ln ls s).toNat : Int) = ln ls s := Int.toNat_of_nonneg (by omega)
     have hr := rk_lt hs (by omega)
     have m1 : sh ls 1 <= sh ls ((ln ls s).toNat - 1) := sh_mono ls (by omega)
     have m2 : sh ls (ln ls s).toNat <= sh ls 15 := sh_mono ls (by omega)
     have m3 : sh ls (ln ls s).toNat = sh ls ((ln ls s).toNat - 1) + ct ls (ln ls s).toNat := by
      obtain ⟨m, hm⟩ : ∃ m, (ln ls s).toNat = m + 1 := ⟨(ln ls s).toNat - 1, by omega⟩
      rw [hm]; rfl
     have m4 : sh ls 1 = ct ls 1 := by simp [sh]
     simp [loneB] at hlo
     omega

theorem make_err (B : Nat) (a : Option Addr) (cap : Nat) (ls : List Int) (lone : Bool) (w : World) (hc : check ls lone ≠ 0) (hi : Ints 0 B w a ls) :
  Calls Tryz.prog 66 #[.slice a ls.length cap, .bool lone] w fun e w' => e = .returned (.tuple #[.pointer none, .int .i64 (check ls lone)]) /\ Below w.heap.size w w' := by
 by_cases hb : 320 < ls.length \/ ¬ Fit ls
 ·rw [check_bad hb]; exact make_bad B a cap ls lone w hb hi
 ·have h1 : ls.length <= 320 := by omega
  have h2 : Fit ls := Classical.byContradiction fun h' => hb (.inr h')
  rw [check_fit h1 h2] at hc ⊢
  exact make_no B a cap ls lone w h1 h2 hc hi
theorem make_ok (B : Nat) (a : Option Addr) (cap : Nat) (ls : List Int) (lone : Bool) (w : World) (hc : check ls lone = 0) (hi : Ints 0 B w a ls) :
  Calls Tryz.prog 66 #[.slice a ls.length cap, .bool lone] w fun e w' => ∃ bc gl gc vo N, e = .returned (.tuple #[.pointer (some ⟨bc, 0, none⟩), .int .i64 0]) /\ CodeAt w.heap.size w'.heap.size w' bc gl gc vo N ls /\ Below w.heap.size w w' := by
 obtain ⟨h1, h2, h3⟩ := check_ok hc
 exact make_yes B a cap ls lone w h1 h2 h3 hi

end Go.Proofs.YteknifnadbmfiaaGreatDoor

/- The reference's many, Check and Same: contracts. -/
namespace Go.Proofs.YteknifnadbmfiaaGreatDoor
set_option maxRecDepth 100000
open Go Go.RowKit

def pos (ls : List Int) : Nat := ls.countP (fun x => decide (0 < x))
theorem pos_cons (x : Int) (r : List Int) : pos (x :: r) = (if 0 < x then 1 else 0) + pos r := by
 unfold pos
 by_cases h : 0 < x <;> simp [h]; omega
theorem sh_cons (x : Int) (r : List Int) (hx : 0 <= x /\ x <= 15) : sh (x :: r) 15 = (if 0 < x then 1 else 0) + sh r 15 := by
 obtain ⟨n, rfl⟩ := Int.eq_ofNat_of_zero_le hx.1
 have hn : n <= 15 := by omega
 have e : ∀ m : Nat, ct ((n : Int) :: r) (m + 1) = ct r (m + 1) + if n = m + 1 then 1 else 0 := by
  intro m
  simp only [ct, List.count_cons]
  by_cases h : n = m + 1
  ·subst h; simp
  ·have : ¬ (n : Int) = (m : Int) + 1 := by omega
   simp [h, this]
 simp only [sh, e]
 rcases (show n = 0 \/ n = 1 \/ n = 2 \/ n = 3 \/ n = 4 \/ n = 5 \/ n = 6 \/ n = 7 \/ n = 8 \/ n = 9 \/ n = 10 \/ n = 11 \/ n = 12 \/ n = 13 \/ n = 14 \/ n = 15 by omega) with h | h | h | h | h | h | h | h | h | h | h | h | h | h | h | h <;> subst h <;> simp <;> omega
theorem pos_sh (ls : List Int) (h : Fit ls) : pos ls = sh ls 15 := by
 induction ls with
 | nil => rfl
 | cons x r ih => rw [pos_cons, sh_cons x r (h x (by simp)), ih (fun y hy => h y (by simp [hy]))]
theorem pos_succ (ls : List Int) (k : Nat) (h : k < ls.length) : pos (ls.take (k + 1)) = pos (ls.take k) + if 0 < ln ls k then 1 else 0 := by
 have e : ln ls k = ls[k] := by simp [ln, List.getD, h]
 rw [List.take_succ_eq_append_getElem h, pos, pos, List.countP_append, e]
 by_cases hx : 0 < ls[k] <;> simp [hx]
theorem wt_append (a b : List Int) : wt (a ++ b) = wt a + wt b := by
 induction a with
 | nil => simp [wt]
 | cons x r ih => rw [List.cons_append, wt, ih, wt]; omega
theorem wt_succ (ls : List Int) (k : Nat) (h : k < ls.length) : wt (ls.take (k + 1)) = wt (ls.take k) + if ln ls k = 0 then 0 else 2 ^ (15 - (ln ls k).toNat) := by
 have e : ln ls k = ls[k] := by simp [ln, List.getD, h]
 rw [List.take_succ_eq_append_getElem h, wt_append, e]
 simp [wt]
theorem amiss_wt (ls : List Int) (lone : Bool) (hf : Fit ls) : amiss ls lone = if 32768 < wt ls then 40 else if wt ls < 32768 /\ ¬ (lone = true /\ loneB ls = true) then 41 else 0 := by
 unfold amiss; rw [ws_wt ls hf]
theorem loneB_pos (ls : List Int) (hf : Fit ls) : loneB ls = (((pos ls : Int) == 0) || (((pos ls : Int) == 1) && ((ct ls 1 : Int) == 1))) := by
 unfold loneB; rw [pos_sh ls hf, Bool.eq_iff_iff]; simp; omega

end Go.Proofs.YteknifnadbmfiaaGreatDoor

/- The reference's Same, Codes, Row and Match: contracts. -/
namespace Go.Proofs.YteknifnadbmfiaaGreatDoor
set_option maxRecDepth 100000
open Go Go.RowKit

def CLast (ls : List Int) (n k : Nat) (C last : Int) : Prop :=
 (last = 0 /\ C = -1 /\ fc ls n + (ls.take k).count (n : Int) = 0) \/ (1 <= last /\ last <= n /\ 0 <= C /\ (C + 1) * 2 ^ ((n : Int) - last).toNat = ((fc ls n + (ls.take k).count (n : Int) : Nat) : Int))

theorem CLast.le {ls : List Int} {n k : Nat} {C last : Int} (h : CLast ls n k C last) (hw : ws ls 15 <= 32768) (hn : n <= 15) (h1 : 1 <= n) : -1 <= C /\ C <= 32768 := by
 rcases h with ⟨_, h, _⟩ | ⟨h2, h3, h4, h5⟩
 ·omega
 ·have u := up_le ls hw n hn
  have p : 2 ^ n <= 2 ^ 15 := Nat.pow_le_pow_right (by decide) hn
  have c := take_count_le ls k (n : Int)
  have e := ct_eq ls n h1
  have q := pow_pos' ((n : Int) - last).toNat
  have m : (C + 1) * 1 <= (C + 1) * 2 ^ ((n : Int) - last).toNat := Int.mul_le_mul_of_nonneg_left q (by omega)
  omega
theorem CLast.next {ls : List Int} {n : Nat} {C last : Int} (h : CLast ls n ls.length C last) (h1 : 1 <= n) : CLast ls (n + 1) 0 C last := by
 have e := ct_eq ls n h1
 unfold CLast at h ⊢
 rw [List.take_length, <- e] at h
 simp only [List.take_zero, List.count_nil, Nat.add_zero, fc]
 rcases h with ⟨a, b, c⟩ | ⟨a, b, c, d⟩
 ·exact .inl ⟨a, b, by omega⟩
 ·refine .inr ⟨a, by omega, c, ?_⟩
  have q : (((n + 1 : Nat) : Int) - last).toNat = ((n : Int) - last).toNat + 1 := by omega
  rw [q, Int.pow_succ, <- Int.mul_assoc, d]
  push_cast; omega
theorem CLast.take {ls : List Int} {n k : Nat} (hk : k < ls.length) (hl : ln ls k = (n : Int)) (h1 : 1 <= n) (X : Int) (hX : X = ((fc ls n + (ls.take k).count (n : Int) : Nat) : Int)) : CLast ls n (k + 1) X n := by
 unfold CLast
 rw [take_count_succ ls k _ hk, if_pos hl]
 refine .inr ⟨by omega, by omega, by omega, ?_⟩
 rw [hX]; simp; omega

def rowP (c n j : Nat) : List Int := (List.range n).map fun (k : Nat) => if n - j <= k then (bitC c n k : Int) else 0
def rowL (c n : Nat) : List Int := (List.range n).map fun (k : Nat) => (bitC c n k : Int)
theorem rowL_length (c n : Nat) : (rowL c n).length = n := by simp [rowL]
theorem rowL_at (c n : Nat) {k : Nat} (h : k < n) : ln (rowL c n) k = (bitC c n k : Int) := by simp [ln, rowL, List.getD, h]
end Go.Proofs.YteknifnadbmfiaaGreatDoor

/- The reference's Match: contract. -/
namespace Go.Proofs.YteknifnadbmfiaaGreatDoor
set_option maxRecDepth 100000
open Go Go.RowKit

def agB (L : List Int) (p : Nat) (R : List Int) : Bool := decide (∀ k, k < R.length -> p + k < L.length -> ln L (p + k) = ln R k)
def alB (L : List Int) (p : Nat) (R : List Int) : Bool := agB L p R && decide (p + R.length <= L.length)
def bn (L : List Int) (p i : Nat) : Nat := (ln L (p + i)).toNat
def NextIs (ls : List Int) (b : Nat -> Nat) (av N s n : Nat) (err : Int) : Prop :=
 (err = 0 /\ n <= av /\ s < ls.length /\ 1 <= n /\ ln ls s = (n : Int) /\ cd ls s = vl b n) \/ (s = 0 /\ n = 0 /\ (∀ m, m <= av -> ¬ Hit ls b m) /\ ((av < N /\ err = 42) \/ (N <= av /\ err = 43)))

theorem NextIs.one {ls : List Int} {b : Nat -> Nat} (hb : ∀ i, b i <= 1) {av N s n t m : Nat} {e f : Int} (h : NextIs ls b av N s n e) (k : NextIs ls b av N t m f) : s = t /\ n = m /\ e = f := by
 rcases h with ⟨h1, h2, h3, h4, h5, h6⟩ | ⟨h1, h2, h3, h4⟩ <;> rcases k with ⟨k1, k2, k3, k4, k5, k6⟩ | ⟨k1, k2, k3, k4⟩
 ·have e1 : s = t := sym_one hb h3 k3 (by omega) (by omega) (by rw [h5, Int.toNat_natCast]; exact h6) (by rw [k5, Int.toNat_natCast]; exact k6)
  subst e1
  exact ⟨rfl, by omega, by omega⟩
 ·exfalso
  have := sym_hit h3 (b := b) (by omega) (by rw [h5, Int.toNat_natCast]; exact h6)
  rw [h5, Int.toNat_natCast] at this
  exact k3 n h2 this
 ·exfalso
  have := sym_hit k3 (b := b) (by omega) (by rw [k5, Int.toNat_natCast]; exact k6)
  rw [k5, Int.toNat_natCast] at this
  exact h3 m k2 this
 ·omega

end Go.Proofs.YteknifnadbmfiaaGreatDoor

/- What Inflate is, as plain functions of bits: no Go text in sight. Each answers an error, or the place behind what was read and what it is. -/
namespace Go.Proofs.YteknifnadbmfiaaGreatDoor
set_option maxRecDepth 100000

def iThen {α γ : Type} (m : Except Int (Nat × α)) (f : Nat -> α -> Except Int (Nat × γ)) : Except Int (Nat × γ) :=
 match m with
 | .error e => .error e
 | .ok x => f x.1 x.2
def iLoop {σ : Type} (T : Nat) (f : Nat -> σ -> Except Int (Nat × (Bool × σ))) (p : Nat) (s : σ) : Except Int (Nat × σ) :=
 match f p s with
 | .error e => .error e
 | .ok x => if x.2.1 = true then (if _h : p < x.1 /\ x.1 <= T then iLoop T f x.1 x.2.2 else .error 0) else .ok (x.1, x.2.2)
termination_by T - p
decreasing_by omega

def iNum (b : Nat -> Nat) (p : Nat) : Nat -> Nat
 | 0 => 0
 | n + 1 => iNum b p n + b (p + n) * 2 ^ n
def iTk (b : Nat -> Nat) (T p n : Nat) : Except Int (Nat × Nat) := if T < p + n then .error 60 else .ok (p + n, iNum b p n)

open Classical in
noncomputable def iN (ls : List Int) : Nat := if h : ∃ N, Longest ls N then h.choose else 0
def iHas (ls : List Int) (b : Nat -> Nat) (T p : Nat) (x : Nat × Nat) : Prop := x.2 <= T - p /\ x.1 < ls.length /\ 1 <= x.2 /\ ln ls x.1 = (x.2 : Int) /\ cd ls x.1 = vl (fun i => b (p + i)) x.2
open Classical in
noncomputable def iNx (ls : List Int) (b : Nat -> Nat) (T p : Nat) : Except Int (Nat × Nat) :=
 if h : ∃ x : Nat × Nat, iHas ls b T p x then .ok (p + h.choose.2, h.choose.1) else if T - p < iN ls then .error 60 else .error 63

def iLx (v : Nat) : Nat := if v < 265 then 0 else if v = 285 then 0 else (v - 261) / 4
def iLb (v : Nat) : Nat := if v = 285 then 258 else 3 + ((List.range (v - 257)).map fun u => 2 ^ iLx (257 + u)).sum
def iDx (w : Nat) : Nat := if w < 4 then 0 else w / 2 - 1
def iDb (w : Nat) : Nat := 1 + ((List.range w).map fun u => 2 ^ iDx u).sum
def iCpy (out : List Int) (d : Nat) : Nat -> List Int
 | 0 => out
 | n + 1 => iCpy (out ++ [ln out (out.length - d)]) d n

noncomputable def iOne (S D : List Int) (b : Nat -> Nat) (T most p : Nat) (out : List Int) : Except Int (Nat × (Bool × List Int)) :=
 iThen (iNx S b T p) fun q v =>
 if v < 256 then (if most <= out.length then .error 65 else .ok (q, (true, out ++ [(v : Int)])))
 else if v = 256 then .ok (q, (false, out))
 else if 285 < v then .error 63
 else iThen (iTk b T q (iLx v)) fun q more => iThen (iNx D b T q) fun q w =>
  if 29 < w then .error 63 else iThen (iTk b T q (iDx w)) fun q away =>
  if out.length < iDb w + away then .error 64 else if most < out.length + (iLb v + more) then .error 65
  else .ok (q, (true, iCpy out (iDb w + away) (iLb v + more)))
noncomputable def iDat (S D : List Int) (b : Nat -> Nat) (T most p : Nat) (out : List Int) : Except Int (Nat × List Int) := iLoop T (iOne S D b T most) p out

def iBytes (b : Nat -> Nat) (p n : Nat) : List Int := (List.range n).map fun i => (iNum b (p + 8 * i) 8 : Int)
def iSto (b : Nat -> Nat) (T most p : Nat) (out : List Int) : Except Int (Nat × List Int) :=
 iThen (iTk b T ((p + 7) / 8 * 8) 16) fun q n => iThen (iTk b T q 16) fun q m =>
 if ¬ n + m = 65535 then .error 62 else if most < out.length + n then .error 65 else if T < q + 8 * n then .error 60
 else .ok (q + 8 * n, out ++ iBytes b q n)

def iOrd : List Nat := [16, 17, 18, 0, 8, 7, 9, 6, 10, 5, 11, 4, 12, 3, 13, 2, 14, 1, 15]
def iRd3 (b : Nat -> Nat) (T : Nat) : Nat -> Nat -> Nat -> List Int -> Except Int (Nat × List Int)
 | 0, p, _, first => .ok (p, first)
 | n + 1, p, i, first => iThen (iTk b T p 3) fun q v => iRd3 b T n q (i + 1) (first.set (iOrd.getD i 0) (v : Int))
noncomputable def iLen (first : List Int) (many : Nat) (b : Nat -> Nat) (T p : Nat) (all : List Int) : Except Int (Nat × (Bool × List Int)) :=
 iThen (iNx first b T p) fun q v =>
 if v < 16 then .ok (q, (decide (all.length + 1 < many), all ++ [(v : Int)]))
 else if v = 16 /\ all.length = 0 then .error 63
 else iThen (iTk b T q (if v = 16 then 2 else if v = 17 then 3 else 7)) fun q x =>
  if many < all.length + (x + if v = 18 then 11 else 3) then .error 63
  else .ok (q, (decide (all.length + (x + if v = 18 then 11 else 3) < many), all ++ List.replicate (x + if v = 18 then 11 else 3) (if v = 16 then ln all (all.length - 1) else 0)))
noncomputable def iHdr (b : Nat -> Nat) (T p : Nat) : Except Int (Nat × (List Int × List Int)) :=
 iThen (iTk b T p 5) fun q x => iThen (iTk b T q 5) fun q y => iThen (iTk b T q 4) fun q z =>
 if 286 < x + 257 \/ 30 < y + 1 then .error 63 else iThen (iRd3 b T (z + 4) q 0 (List.replicate 19 0)) fun q first =>
 if ¬ check first false = 0 then .error 63 else iThen (iLoop T (iLen first (x + 258 + y) b T) q []) fun q all =>
 if ln all 256 = 0 \/ ¬ check (all.take (x + 257)) true = 0 \/ ¬ check (all.drop (x + 257)) true = 0 then .error 63
 else .ok (q, (all.take (x + 257), all.drop (x + 257)))

def iFix : List Int := List.replicate 144 8 ++ List.replicate 112 9 ++ List.replicate 24 7 ++ List.replicate 8 8
def iFive : List Int := List.replicate 32 5
noncomputable def iKind (b : Nat -> Nat) (T most kind p : Nat) (out : List Int) : Except Int (Nat × List Int) :=
 if kind = 0 then iSto b T most p out else if kind = 1 then iDat iFix iFive b T most p out
 else if kind = 2 then iThen (iHdr b T p) (fun q sd => iDat sd.1 sd.2 b T most q out) else .error 61
noncomputable def iBlk (b : Nat -> Nat) (T most p : Nat) (out : List Int) : Except Int (Nat × (Bool × List Int)) :=
 iThen (iTk b T p 1) fun q l => iThen (iTk b T q 2) fun q kind => iThen (iKind b T most kind q out) fun q o => .ok (q, (decide (l = 0), o))
noncomputable def iInf (b : Nat -> Nat) (T most : Nat) : Except Int (Nat × List Int) := iLoop T (iBlk b T most) 0 []

/-! What the small ones say. -/
theorem iThen_ok {α γ : Type} {m : Except Int (Nat × α)} {f : Nat -> α -> Except Int (Nat × γ)} {q : Nat} {c : γ} (h : iThen m f = .ok (q, c)) : ∃ p a, m = .ok (p, a) /\ f p a = .ok (q, c) := by
 unfold iThen at h
 split at h
 ·cases h
 ·exact ⟨_, _, rfl, h⟩
theorem iThen_of_ok {α γ : Type} {m : Except Int (Nat × α)} {f : Nat -> α -> Except Int (Nat × γ)} {p : Nat} {a : α} (h : m = .ok (p, a)) : iThen m f = f p a := by rw [h]; rfl
theorem iThen_of_err {α γ : Type} {m : Except Int (Nat × α)} {f : Nat -> α -> Except Int (Nat × γ)} {e : Int} (h : m = .error e) : iThen m f = .error e := by rw [h]; rfl

theorem iTk_ok {b : Nat -> Nat} {T p n : Nat} (h : p + n <= T) : iTk b T p n = .ok (p + n, iNum b p n) := if_neg (by omega)
theorem iTk_err {b : Nat -> Nat} {T p n : Nat} (h : T < p + n) : iTk b T p n = .error 60 := if_pos h
theorem iTk_got {b : Nat -> Nat} {T p n q v : Nat} (h : iTk b T p n = .ok (q, v)) : q = p + n /\ p + n <= T /\ v = iNum b p n := by
 by_cases hl : T < p + n
 ·rw [iTk_err hl] at h; cases h
 ·rw [iTk_ok (by omega)] at h
  cases h
  exact ⟨rfl, by omega, rfl⟩
theorem iNum_lt {b : Nat -> Nat} (hb : ∀ i, b i <= 1) (p n : Nat) : iNum b p n < 2 ^ n := by
 induction n with
 | zero => simp [iNum]
 | succ n ih =>
  rw [iNum, Nat.pow_succ]
  have := Nat.mul_le_mul_right (2 ^ n) (hb (p + n))
  omega
theorem iNum_congr {b c : Nat -> Nat} {p k n : Nat} (h : ∀ i, i < n -> c (p + k + i) = b (p + i)) : iNum c (p + k) n = iNum b p n := by
 induction n with
 | zero => rfl
 | succ n ih => rw [iNum, iNum, ih (fun i hi => h i (by omega)), h n (by omega)]

theorem longest_one {ls : List Int} {N M : Nat} (h : Longest ls N) (k : Longest ls M) : N = M := by
 rcases h.at_ with h0 | ⟨s, hs, e⟩ <;> rcases k.at_ with k0 | ⟨t, ht, f⟩
 ·omega
 ·have := h.up t ht; omega
 ·have := k.up s hs; omega
 ·have := k.up s hs; have := h.up t ht; omega
theorem longest_ex {ls : List Int} (h : Fit ls) : ∃ N, Longest ls N := by
 have key : ∀ k, k <= ls.length -> ∃ N : Nat, N <= 15 /\ (∀ s, s < k -> ln ls s <= (N : Int)) /\ (N = 0 \/ ∃ s, s < k /\ ln ls s = (N : Int)) := by
  intro k hk
  induction k with
  | zero => exact ⟨0, by omega, fun s hs => absurd hs (by omega), .inl rfl⟩
  | succ k ih =>
   obtain ⟨N, h1, h2, h3⟩ := ih (by omega)
   have hf := ln_fit h k
   by_cases hl : ln ls k <= (N : Int)
   ·refine ⟨N, h1, fun s hs => ?_, ?_⟩
    ·by_cases e : s = k
     ·subst e; exact hl
     ·exact h2 s (by omega)
    ·rcases h3 with h3 | ⟨s, h3, h4⟩
     ·exact .inl h3
     ·exact .inr ⟨s, by omega, h4⟩
   ·refine ⟨(ln ls k).toNat, by omega, fun s hs => ?_, .inr ⟨k, by omega, by omega⟩⟩
    by_cases e : s = k
    ·subst e; omega
    ·have := h2 s (by omega); omega
 obtain ⟨N, h1, h2, h3⟩ := key ls.length (Nat.le_refl _)
 exact ⟨N, h1, h2, h3⟩
theorem iN_eq {ls : List Int} {N : Nat} (h : Longest ls N) : iN ls = N := by
 unfold iN
 have hx : ∃ N, Longest ls N := ⟨N, h⟩
 rw [dif_pos hx]
 exact longest_one hx.choose_spec h

theorem iHas_one {ls : List Int} {b : Nat -> Nat} (hb : ∀ i, b i <= 1) {T p : Nat} {x y : Nat × Nat} (h : iHas ls b T p x) (k : iHas ls b T p y) : x = y := by
 obtain ⟨h1, h2, h3, h4, h5⟩ := h
 obtain ⟨k1, k2, k3, k4, k5⟩ := k
 have := NextIs.one (ls := ls) (b := fun i => b (p + i)) (fun i => hb _) (av := T - p) (N := 0) (.inl ⟨rfl, h1, h2, h3, h4, h5⟩) (.inl ⟨rfl, k1, k2, k3, k4, k5⟩)
 exact Prod.ext this.1 this.2.1
theorem iHas_hit {ls : List Int} {b : Nat -> Nat} {T p : Nat} {x : Nat × Nat} (h : iHas ls b T p x) : Hit ls (fun i => b (p + i)) x.2 := by
 obtain ⟨h1, h2, h3, h4, h5⟩ := h
 have := sym_hit h2 (b := fun i => b (p + i)) (by omega) (by rw [h4, Int.toNat_natCast]; exact h5)
 rw [h4, Int.toNat_natCast] at this
 exact this
theorem iNx_ok {ls : List Int} {b : Nat -> Nat} (hb : ∀ i, b i <= 1) {T p s n : Nat} (h : iHas ls b T p (s, n)) : iNx ls b T p = .ok (p + n, s) := by
 have hx : ∃ x : Nat × Nat, iHas ls b T p x := ⟨_, h⟩
 have e := iHas_one hb hx.choose_spec h
 unfold iNx
 rw [dif_pos hx, e]
theorem iNx_no {ls : List Int} {b : Nat -> Nat} {T p : Nat} (h : ¬ ∃ x : Nat × Nat, iHas ls b T p x) : iNx ls b T p = if T - p < iN ls then .error 60 else .error 63 := by
 unfold iNx
 rw [dif_neg h]
theorem iNx_got {ls : List Int} {b : Nat -> Nat} {T p q s : Nat} (h : iNx ls b T p = .ok (q, s)) : ∃ n, q = p + n /\ iHas ls b T p (s, n) := by
 unfold iNx at h
 split at h
 ·rename_i hx
  cases h
  exact ⟨_, rfl, hx.choose_spec⟩
 ·split at h <;> cases h
theorem iNx_failed {ls : List Int} {b : Nat -> Nat} {T p : Nat} {e : Int} (h : iNx ls b T p = .error e) : (¬ ∃ x : Nat × Nat, iHas ls b T p x) /\ ((T - p < iN ls /\ e = 60) \/ (iN ls <= T - p /\ e = 63)) := by
 unfold iNx at h
 split at h
 ·cases h
 ·rename_i hx
  refine ⟨hx, ?_⟩
  split at h
  ·cases h; exact .inl ⟨by assumption, rfl⟩
  ·cases h; exact .inr ⟨by omega, rfl⟩
theorem iNx_of {ls : List Int} {b : Nat -> Nat} (hb : ∀ i, b i <= 1) {T p N s n : Nat} {err : Int} (hN : Longest ls N) (h : NextIs ls (fun i => b (p + i)) (T - p) N s n err) :
  (err = 0 /\ iHas ls b T p (s, n) /\ iNx ls b T p = .ok (p + n, s)) \/ (err = 42 /\ iNx ls b T p = .error 60) \/ (err = 43 /\ iNx ls b T p = .error 63) := by
 rcases h with ⟨h0, h1, h2, h3, h4, h5⟩ | ⟨_, _, h3, h4⟩
 ·have hh : iHas ls b T p (s, n) := ⟨h1, h2, h3, h4, h5⟩
  exact .inl ⟨h0, hh, iNx_ok hb hh⟩
 ·have hno : ¬ ∃ x : Nat × Nat, iHas ls b T p x := fun ⟨x, hx⟩ => h3 x.2 hx.1 (iHas_hit hx)
  have e := iNx_no hno
  rw [iN_eq hN] at e
  rcases h4 with ⟨h4, h5⟩ | ⟨h4, h5⟩
  ·exact .inr (.inl ⟨h5, by rw [e, if_pos h4]⟩)
  ·exact .inr (.inr ⟨h5, by rw [e, if_neg (by omega)]⟩)
end Go.Proofs.YteknifnadbmfiaaGreatDoor
