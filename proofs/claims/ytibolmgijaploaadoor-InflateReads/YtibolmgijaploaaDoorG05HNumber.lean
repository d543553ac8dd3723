/- Several texts, laid together: RefRow, HNumber. -/
import Derived.Test.YtibolmgijaploaaDoorG04Open
import Derived.Laws.AppendOwnNone
import Derived.Test.YtibolmgijaploaaDoorG02Read
/- The reference's lists of bits: Row, Lay, Fill: contracts. -/
namespace Go.Proofs.YtibolmgijaploaaDoor
set_option maxRecDepth 100000
open Go.RowKit

/-- A slice value that owns the numbers L. -/
def Owns (w : World) (base : Nat) (v : Value) (L : List Int) : Prop := w.ownsRow base 3 1 v L.length (L.map (Value.int .i64))

theorem Owns.nil (w : World) (base : Nat) : Owns w base (.slice none 0 0) [] := World.ownsRow_nil _ _ _ _
theorem Owns.kept {M : Nat → Prop} {w w' : World} {base : Nat} {v : Value} {L : List Int} (h : Owns w base v L) (k : Kept M w w') (hn : ∀ g, v.ownBlock = some g → ¬ M g) : Owns w' base v L := ownsRow_kept h k hn
theorem Owns.low {w : World} {base base' : Nat} {v : Value} {L : List Int} (h : Owns w base v L) (hb : base' ≤ base) : Owns w base' v L := by
  obtain ⟨h1, h2⟩ := h
  refine ⟨h1, ?_⟩
  rcases h2 with h2 | ⟨g, cap, cur, hv, hg, r⟩
  · exact .inl h2
  · exact .inr ⟨g, cap, cur, hv, by omega, r⟩
theorem Owns.form {w : World} {base : Nat} {v : Value} {L : List Int} (h : Owns w base v L) : ∃ a cap, v = .slice a L.length cap ∧ (0 < L.length → ∃ g, v.ownBlock = some g ∧ base ≤ g ∧ g < w.heap.size ∧ a = some ⟨g, 0, none⟩ ∧ ∀ j, j < L.length → w.cell? ⟨g, j, none⟩ = some (.int .i64 (L.getD j 0))) := by
  rcases h.2 with ⟨rfl, h2⟩ | ⟨g, cap, cur, rfl, hg, hh, hr⟩
  · exact ⟨none, 0, by rw [h2], fun h => by omega⟩
  · refine ⟨_, _, rfl, fun _ => ⟨g, rfl, hg, lt_of_block hh, rfl, fun j hj => ?_⟩⟩
    have := World.ownsRow.cellAt h j (by omega)
    rw [this]
    simp [List.getD, hj]
theorem Owns.push {w : World} {base : Nat} {v : Value} {L : List Int} {x : Int} (h : w.ownsRow base 3 1 v (L.length + 1) (L.map (Value.int .i64) ++ [.int .i64 x])) : Owns w base v (L ++ [x]) := by
  unfold Owns
  simpa using h

theorem one_int (w : World) (x : Value) : ∀ j u, [x][j]? = some u → (w.alloc (.cells #[x] 3)).cell? ((⟨w.heap.size, 0, none⟩ : Addr).add j) = some u := World.news_of_block (heap_new w (.cells #[x] 3))

set_option maxRecDepth 100000 in
set_option maxHeartbeats 1000000 in
theorem row_any (B : Nat) (a : Option Addr) (len cap : Nat) (zs : List Int) (w : World) (ht : Text B w a len zs) (hl : len ≤ 1000000000000) (hB : B ≤ w.heap.size) :
    Calls Tryd.prog 15 #[.slice a len cap] w fun e w' => ∃ v, e = .returned v ∧ Owns w' w.heap.size v (rowOf zs) ∧ Below w.heap.size w w' := by
  obtain ⟨hz1, hz2, hz3⟩ := ht
  obtain ⟨i0, hi, hz0, hz1', hz2'⟩ := info_parts Tryd.info3
  go_enter Tryd.func15, Tryd.ntmps15
  go_wp2
  go_loopw [3, 4] (fun v i wr => ∃ k : Nat, k ≤ len ∧ i = .int .i64 k ∧ Owns wr w.heap.size v (rowOf (zs.take k)) ∧ Below w.heap.size w wr) (fun _ i _ => len - (intOf i).toNat)
  case atStart => exact ⟨0, Nat.zero_le _, rfl, Owns.nil _ _, Below.refl _ _⟩
  case round =>
    obtain ⟨k, hk, rfl, hown, hbel⟩ := hrel
    by_cases hlt : k < len
    · obtain ⟨b, off, hbB, rfl, hcell⟩ := hz3.resolve_left (by omega)
      have hc : wr.cell? ⟨b, off + k, none⟩ = some (.int .u8 (zs.getD k 0)) := (hbel.cell (by show b < w.heap.size; omega)).trans (hcell k hlt)
      have hx := hz2 k
      obtain ⟨X, hX⟩ : ∃ X, X = zs.getD k 0 := ⟨_, rfl⟩
      rw [← hX] at hc hx
      have HX : Hid (X = zs.getD k 0) := hX
      have HO : Hid (Owns wr w.heap.size u3 (rowOf (zs.take k))) := hown
      have HB : Hid (Below w.heap.size w wr) := hbel
      clear hX hown hbel hz3 hcell hz2
      go_wp2
      go_loopw [3, 5, 6] (fun v x i wi => ∃ j : Nat, j ≤ 8 ∧ i = .int .i64 j ∧ x = .int .i64 (X / 2 ^ j) ∧ Owns wi w.heap.size v (rowOf (zs.take k) ++ bitsN X j) ∧ Below w.heap.size w wi) (fun _ _ i _ => 8 - (intOf i).toNat)
      case atStart => exact ⟨0, by omega, rfl, by simp, by simpa [bitsN] using HO.out, HB.out⟩
      case round =>
        obtain ⟨j, hj, rfl, rfl, hown, hbel⟩ := hrel
        obtain ⟨Y, hY⟩ : ∃ Y, Y = X / 2 ^ j := ⟨_, rfl⟩
        have hY0 : 0 ≤ Y := by rw [hY]; exact Int.ediv_nonneg hx.1 (by have := pow_pos' j; omega)
        have hY1 : Y ≤ 255 := by rw [hY]; have := Int.ediv_le_self (2 ^ j) hx.1; omega
        rw [← hY]
        have HY : Hid (Y = X / 2 ^ j) := hY
        obtain ⟨L, hL⟩ : ∃ L, L = rowOf (zs.take k) ++ bitsN X j := ⟨_, rfl⟩
        rw [← hL] at hown
        have hLl : L.length ≤ 10000000000000 := by rw [hL]; simp [rowOf_length, bitsN_length]; omega
        have HL : Hid (L = rowOf (zs.take k) ++ bitsN X j) := hL
        have HR : Hid (Owns wr w.heap.size u3 L) := hown
        have hsz := hbel.size
        clear hY hL hown
        by_cases hj8 : j < 8
        · go_wp2_with (at_builtin; refine wpList_append_own _ rfl _ _ 43 rfl w.heap.size 3 i0 (.int .i64 0) 1 8 Tryd.underlying43 hi hz0 hz1' hz2' rfl (by decide) _ _ _ rfl (World.ownsRow.alloc HR.out _) ⟨wr.heap.size, 0, none⟩ 1 1 [.int .i64 (Y % 2)] rfl rfl (one_int wr _) (by intro u hu; simp at hu; subst hu; rfl) (by unfold maxLen; omega) (by omega) (by simp; omega) ?_; intro v' w1 hown' hgrow hnil)
          go_roundw
          case rel =>
            refine ⟨j + 1, by omega, by go_num, by rw [HY.out, div_pow_succ], ?_, ?_⟩
            · have h1 := Owns.push hown'
              rw [HY.out, HL.out, List.append_assoc] at h1
              exact h1
            · exact (hbel.alloc hsz _).grown hgrow (by simp; omega) (fun g e => (ownsRow_lt HR.out e).1)
          case measure => simp [intOf]; omega
        · have : j = 8 := by omega
          subst this
          go_wp2
          go_roundw
          case rel =>
            refine ⟨k + 1, by omega, by go_num, ?_, hbel⟩
            have h1 := HR.out
            rw [HL.out, HX.out, ← rowOf_take_succ zs k (by omega)] at h1
            exact h1
          case measure => simp [intOf]; omega
    · have : k = len := by omega
      subst this
      go_wp2
      go_ret
      rw [List.take_of_length_le (by omega)] at hown
      exact ⟨_, rfl, hown, hbel⟩
end Go.Proofs.YtibolmgijaploaaDoor

/- huff's number: each symbol gets its code: contract. -/
namespace Go.Proofs.YtibolmgijaploaaDoor
set_option maxRecDepth 100000
open Go Go.RowKit

/-- The cells of a Code. -/
def codeA (ls : List Int) (vo vl vc : Value) (N : Nat) : Array Value := manyA ls ++ #[vo, vl, vc, .int .i64 (N : Int)]
theorem codeA_size (ls : List Int) (vo vl vc : Value) (N : Nat) : (codeA ls vo vl vc N).size = 20 := by simp [codeA, manyA_size]
theorem codeA_low (ls : List Int) (vo vl vc : Value) (N : Nat) {k : Nat} (h : k < 16) (h1 : 1 ≤ k) : (codeA ls vo vl vc N)[k]? = some (.int .i64 (ct ls k : Int)) := by
  rw [codeA, Array.getElem?_append_left (by rw [manyA_size]; exact h)]; exact manyA_ct ls h h1
theorem codeA_16 (ls : List Int) (vo vl vc : Value) (N : Nat) : (codeA ls vo vl vc N)[16]? = some vo := by
  rw [codeA, Array.getElem?_append_right (by rw [manyA_size]; omega), manyA_size]; rfl
theorem codeA_17 (ls : List Int) (vo vl vc : Value) (N : Nat) : (codeA ls vo vl vc N)[17]? = some vl := by
  rw [codeA, Array.getElem?_append_right (by rw [manyA_size]; omega), manyA_size]; rfl
theorem codeA_18 (ls : List Int) (vo vl vc : Value) (N : Nat) : (codeA ls vo vl vc N)[18]? = some vc := by
  rw [codeA, Array.getElem?_append_right (by rw [manyA_size]; omega), manyA_size]; rfl
theorem codeA_19 (ls : List Int) (vo vl vc : Value) (N : Nat) : (codeA ls vo vl vc N)[19]? = some (.int .i64 (N : Int)) := by
  rw [codeA, Array.getElem?_append_right (by rw [manyA_size]; omega), manyA_size]; rfl
theorem codeA_set16 (ls : List Int) (vo vl vc v : Value) (N : Nat) : (codeA ls vo vl vc N).setIfInBounds 16 v = codeA ls v vl vc N := by
  rw [codeA, codeA, Array.setIfInBounds_append_right (by rw [manyA_size]; omega), manyA_size]; rfl
theorem codeA_set19 (ls : List Int) (vo vl vc : Value) (N M : Nat) : (codeA ls vo vl vc N).setIfInBounds 19 (.int .i64 (M : Int)) = codeA ls vo vl vc M := by
  rw [codeA, codeA, Array.setIfInBounds_append_right (by rw [manyA_size]; omega), manyA_size]; rfl

/-- The codes as far as they are given: all of fewer than n bits, and those of n bits of the first k symbols. -/
def cds (ls : List Int) (n k : Nat) : List Int := (List.range ls.length).map fun (s : Nat) => if 1 ≤ ln ls s ∧ (ln ls s < (n : Int) ∨ (ln ls s = (n : Int) ∧ s < k)) then (cd ls s : Int) else 0
/-- All codes; 0 of a symbol that has none. -/
def codesL (ls : List Int) : List Int := (List.range ls.length).map fun (s : Nat) => if 1 ≤ ln ls s then (cd ls s : Int) else 0
theorem cds_length (ls : List Int) (n k : Nat) : (cds ls n k).length = ls.length := by simp [cds]
theorem codesL_length (ls : List Int) : (codesL ls).length = ls.length := by simp [codesL]
def valA (L : List Int) : Array Value := (L.map (Value.int .i64)).toArray
theorem valA_size (L : List Int) : (valA L).size = L.length := by simp [valA]
theorem valA_at (L : List Int) {i : Nat} (h : i < L.length) : (valA L)[i]? = some (.int .i64 (ln L i)) := by
  simp [valA, ln, List.getD, h]
theorem codesL_at (ls : List Int) {s : Nat} (h : s < ls.length) : ln (codesL ls) s = if 1 ≤ ln ls s then (cd ls s : Int) else 0 := by
  simp [ln, codesL, List.getD, h]
theorem cds_set (ls : List Int) (n k : Nat) (hk : k < ls.length) (h1 : 1 ≤ n) (hl : ln ls k = (n : Int)) (x : Int) (hx : x = (fc ls n + (ls.take k).count (n : Int) : Nat)) : (valA (cds ls n k)).setIfInBounds k (.int .i64 x) = valA (cds ls n (k + 1)) := by
  apply Array.ext_getElem?
  intro s
  rw [Array.getElem?_setIfInBounds]
  by_cases hs : s < ls.length
  · by_cases e : k = s
    · subst e
      have ec : cd ls k = fc ls n + (ls.take k).count (n : Int) := by unfold cd rk; rw [hl]; simp
      simp [valA, cds, hs, hl, hx, ec]
      omega
    · have : (s < k) ↔ (s < k + 1) := by omega
      simp [valA, cds, hs, e, this]
  · have e : ¬ k = s := by omega
    simp [valA, cds, hs, e]
theorem cds_skip (ls : List Int) (n k : Nat) (hl : ¬ ln ls k = (n : Int)) : cds ls n k = cds ls n (k + 1) := by
  unfold cds
  apply List.map_congr_left
  intro s _
  by_cases e : s = k
  · subst e; simp [hl]
  · have : (s < k) ↔ (s < k + 1) := by omega
    simp [this]
theorem cds_next (ls : List Int) (n : Nat) : cds ls n ls.length = cds ls (n + 1) 0 := by
  unfold cds
  apply List.map_congr_left
  intro s hs
  have hs' : s < ls.length := by simpa using hs
  have : (ln ls s < (n : Int) ∨ (ln ls s = (n : Int) ∧ s < ls.length)) ↔ (ln ls s < ((n + 1 : Nat) : Int) ∨ (ln ls s = ((n + 1 : Nat) : Int) ∧ s < 0)) := by omega
  simp only [this]
theorem cds_first (ls : List Int) : cds ls 1 0 = List.replicate ls.length 0 := by
  have e : List.replicate ls.length (0 : Int) = (List.range ls.length).map fun _ => 0 := by rw [List.map_const', List.length_range]
  rw [e]
  unfold cds
  apply List.map_congr_left
  intro s _
  rw [if_neg (by omega)]
theorem cds_end (ls : List Int) (hf : Fit ls) : cds ls 16 0 = codesL ls := by
  unfold cds codesL
  apply List.map_congr_left
  intro s _
  have := ln_fit hf s
  have e : (1 ≤ ln ls s ∧ (ln ls s < ((16 : Nat) : Int) ∨ (ln ls s = ((16 : Nat) : Int) ∧ s < 0))) ↔ 1 ≤ ln ls s := by omega
  simp only [e]
/-- The symbols whose codes are given, as these rise. -/
def ods (ls : List Int) (n k : Nat) : List Int := (od ls (n - 1) ++ idx ls n k).map (fun (x : Nat) => (x : Int))
theorem ods_push (ls : List Int) (n k : Nat) (hl : ln ls k = (n : Int)) : ods ls n k ++ [(k : Int)] = ods ls n (k + 1) := by
  simp [ods, idx, hl]
theorem ods_skip (ls : List Int) (n k : Nat) (hl : ¬ ln ls k = (n : Int)) : ods ls n k = ods ls n (k + 1) := by
  simp [ods, idx, hl]
theorem ods_next (ls : List Int) (n : Nat) : ods ls (n + 1) ls.length = ods ls (n + 1 + 1) 0 := by
  simp [ods, idx, od]
theorem ods_length (ls : List Int) (n k : Nat) (hn : n ≤ 15) (hk : k ≤ ls.length) (h3 : ls.length ≤ 320) : (ods ls n k).length ≤ 10000 := by
  simp only [ods, List.length_map, List.length_append, od_length]
  rw [idx_length ls n k hk]
  have a := sh_le ls h3 (n - 1) (by omega)
  have b := take_count_le ls k (n : Int)
  have c := List.count_le_length (a := (n : Int)) (l := ls)
  omega

/-- What stands in memory while codes are given. -/
structure Num (bc gc : Nat) (ls : List Int) (vl vc : Value) (w wr : World) (vo : Value) (n k N : Nat) : Prop where
  block : wr.heap[bc]? = some (.cells (codeA ls vo vl vc N) 104 (0, 0))
  codes : wr.heap[gc]? = some (.cells (valA (cds ls n k)) 3 (0, 0))
  owns : Owns wr w.heap.size vo (ods ls n k)
  kept : Kept (fun i => i = bc ∨ i = gc) w wr
  le : N ≤ n
  up : ∀ s, s < ls.length → (ln ls s < (n : Int) ∨ (ln ls s = (n : Int) ∧ s < k)) → ln ls s ≤ (N : Int)
  has : N = 0 ∨ ∃ s, s < ls.length ∧ ln ls s = (N : Int)

theorem own_form {w : World} {base e : Nat} {v : Value} {n : Nat} {xs : List Value} (h : w.ownsRow base e 1 v n xs) : ∃ a cap, v = .slice a n cap := by
  rcases h.2 with ⟨rfl, h2⟩ | ⟨g, cap, cur, rfl, _⟩
  · exact ⟨none, 0, by rw [h2]⟩
  · exact ⟨_, _, rfl⟩

theorem one_int' (w : World) (x : Value) (n : Nat) (h : w.heap.size = n) : ∀ j u, [x][j]? = some u → (w.alloc (.cells #[x] 3)).cell? ((⟨n, 0, none⟩ : Addr).add j) = some u := by
  subst h; exact one_int w x

theorem num_step {bc gc : Nat} {ls : List Int} {vl vc vo vo' : Value} {w wr w1 : World} {o : Obj} {n k N : Nat} {x : Int} (h : Num bc gc ls vl vc w wr vo n k N) (hbg : bc ≠ gc) (hbw : bc < w.heap.size) (hgw : gc < w.heap.size) (hk : k < ls.length) (h1 : 1 ≤ n) (hl : ln ls k = (n : Int)) (hx : x = (fc ls n + (ls.take k).count (n : Int) : Nat))
    (hown : w1.ownsRow w.heap.size 3 1 vo' ((ods ls n k).length + 1) ((ods ls n k).map (Value.int .i64) ++ [.int .i64 (k : Int)]))
    (hgrow : ((wr.setCell ⟨gc, k, none⟩ (.int .i64 x)).alloc o).grownBy w1 vo.ownBlock) :
    Num bc gc ls vl vc w ((w1.setCell ⟨bc, 16, none⟩ vo').setCell ⟨bc, 19, none⟩ (.int .i64 (n : Int))) vo' n (k + 1) n := by
  have hsz := h.kept.size
  have hob : ∀ g, vo.ownBlock = some g → w.heap.size ≤ g := fun g hg => (ownsRow_lt h.owns hg).1
  have kB : Kept (fun i => i = bc ∨ i = gc) w (wr.setCell ⟨gc, k, none⟩ (.int .i64 x)) := h.kept.setCell (fun _ => .inr rfl) _
  have kC : Kept (fun i => i = bc ∨ i = gc) w w1 := (kB.alloc _ o).trans (Kept.of_grown hgrow) (fun i hi e => by have := hob i e.symm; omega)
  have b1 : w1.heap[bc]? = some (.cells (codeA ls vo vl vc N) 104 (0, 0)) := by
    have := (Kept.of_grown hgrow).block bc (by simp; omega) (fun e => by have := hob bc e.symm; omega)
    rw [this, Below.heap_alloc _ _ _ (by simp; omega), set_other hbg]
    exact h.block
  have g1 : w1.heap[gc]? = some (.cells (valA (cds ls n (k + 1))) 3 (0, 0)) := by
    have := (Kept.of_grown hgrow).block gc (by simp; omega) (fun e => by have := hob gc e.symm; omega)
    rw [this, Below.heap_alloc _ _ _ (by simp; omega), set_of h.codes, cds_set ls n k hk h1 hl x hx]
  have hnb : vo'.ownBlock ≠ some bc := fun e => by have := (ownsRow_lt hown e).1; omega
  refine ⟨?_, ?_, ?_, ?_, Nat.le_refl _, ?_, .inr ⟨k, hk, hl⟩⟩
  · rw [set_of (set_of b1 16 _) 19, codeA_set16, codeA_set19]
  · rw [set_other (Ne.symm hbg), set_other (Ne.symm hbg)]; exact g1
  · have hp := Owns.push hown
    rw [ods_push ls n k hl] at hp
    exact ownsRow_setCell_other (ownsRow_setCell_other hp hnb _) hnb _
  · exact (kC.setCell (fun _ => .inl rfl) _).setCell (fun _ => .inl rfl) _
  · intro s hs hh
    by_cases e : s = k
    · subst e; omega
    · rcases hh with hh | hh
      · omega
      · omega

theorem num_skip {bc gc : Nat} {ls : List Int} {vl vc vo : Value} {w wr : World} {n k N : Nat} (h : Num bc gc ls vl vc w wr vo n k N) (hl : ¬ ln ls k = (n : Int)) : Num bc gc ls vl vc w wr vo n (k + 1) N := by
  refine ⟨h.block, ?_, ?_, h.kept, h.le, ?_, h.has⟩
  · rw [← cds_skip ls n k hl]; exact h.codes
  · rw [← ods_skip ls n k hl]; exact h.owns
  · intro s hs hh
    refine h.up s hs ?_
    by_cases e : s = k
    · subst e; omega
    · omega
theorem num_next {bc gc : Nat} {ls : List Int} {vl vc vo : Value} {w wr : World} {n N : Nat} (h : Num bc gc ls vl vc w wr vo (n + 1) ls.length N) : Num bc gc ls vl vc w wr vo (n + 1 + 1) 0 N := by
  refine ⟨h.block, ?_, ?_, h.kept, by have := h.le; omega, ?_, h.has⟩
  · rw [← cds_next ls (n + 1)]; exact h.codes
  · rw [← ods_next ls n]; exact h.owns
  · intro s hs hh
    exact h.up s hs (by omega)

set_option maxHeartbeats 2000000 in
set_option maxRecDepth 100000 in
theorem number_any (bc gc bl cl cc : Nat) (ls : List Int) (w : World) (hn : ls.length ≤ 320) (hw : ws ls 15 ≤ 32768)
    (hb : w.heap[bc]? = some (.cells (codeA ls (.slice none 0 0) (.slice (some ⟨bl, 0, none⟩) ls.length cl) (.slice (some ⟨gc, 0, none⟩) ls.length cc) 0) 104 (0, 0)))
    (hg : w.heap[gc]? = some (.cells (valA (List.replicate ls.length 0)) 3 (0, 0))) (hl : w.heap[bl]? = some (.cells (valA ls) 3 (0, 0))) (hlb : bl ≠ bc) (hlg : bl ≠ gc) (hbg : bc ≠ gc) :
    Calls Tryd.prog 65 #[.pointer (some ⟨bc, 0, none⟩)] w fun e w' => e = .returned (.tuple #[]) ∧ ∃ vo N, Num bc gc ls (.slice (some ⟨bl, 0, none⟩) ls.length cl) (.slice (some ⟨gc, 0, none⟩) ls.length cc) w w' vo 16 0 N := by
  obtain ⟨i0, hi, hz0, hz1', hz2'⟩ := info_parts Tryd.info3
  have hbw := lt_of_block hb
  have hgw := lt_of_block hg
  have hlw := lt_of_block hl
  have hgb : gc ≠ bc := Ne.symm hbg
  have HS : Hid (Num bc gc ls (.slice (some ⟨bl, 0, none⟩) ls.length cl) (.slice (some ⟨gc, 0, none⟩) ls.length cc) w w (.slice none 0 0) 1 0 0) := by
    refine ⟨hb, ?_, ?_, Kept.refl _ _, by omega, fun s _ h => by omega, .inl rfl⟩
    · rw [cds_first]; exact hg
    · exact Owns.nil _ _
  have HL : Hid (w.heap[bl]? = some (.cells (valA ls) 3 (0, 0))) := hl
  clear hb hg hl
  go_enter Tryd.func65, Tryd.ntmps65
  go_wp2
  go_loopw [2, 3] (fun s2 s3 wr => ∃ n : Nat, n ≤ 15 ∧ s3 = .int .i64 ((n : Int) + 1) ∧ s2 = .int .i64 ((fc ls n + ct ls n : Nat) : Int) ∧ ∃ vo N, Num bc gc ls (.slice (some ⟨bl, 0, none⟩) ls.length cl) (.slice (some ⟨gc, 0, none⟩) ls.length cc) w wr vo (n + 1) 0 N) (fun _ s3 _ => 16 - (intOf s3).toNat)
  case atStart => exact ⟨0, by omega, rfl, rfl, _, _, HS.out⟩
  case round =>
    obtain ⟨n, hn15, rfl, rfl, vo0, N0, hnum0⟩ := hrel
    by_cases hlt : n < 15
    · have hup := up_le ls hw n (by omega)
      have hp15 : 2 ^ n ≤ 2 ^ 15 := Nat.pow_le_pow_right (by decide) hn15
      have HF : Hid (2 * (fc ls n + ct ls n) = fc ls (n + 1)) := rfl
      have hU : fc ls n + ct ls n ≤ 32768 := by omega
      obtain ⟨U, hUe⟩ : ∃ U, U = fc ls n + ct ls n := ⟨_, rfl⟩
      rw [← hUe] at hU HF ⊢
      have c17 := cells_of hnum0.block 17
      rw [codeA_17] at c17
      have HN0 : Hid _ := hnum0
      have hlt' : (n : Int) + 1 ≤ 15 := by omega
      clear hnum0 hUe hup hp15
      go_wp2
      go_loopw [2, 17] (fun s2 s17 wi => ∃ k : Nat, k ≤ ls.length ∧ s17 = .int .i64 k ∧ s2 = .int .i64 ((fc ls (n + 1) + (ls.take k).count ((n + 1 : Nat) : Int) : Nat) : Int) ∧ ∃ vo N, Num bc gc ls (.slice (some ⟨bl, 0, none⟩) ls.length cl) (.slice (some ⟨gc, 0, none⟩) ls.length cc) w wi vo (n + 1) k N) (fun _ s17 _ => ls.length - (intOf s17).toNat)
      case atStart => exact ⟨0, by omega, rfl, by rw [← HF.out]; simp; omega, _, _, HN0.out⟩
      case round =>
        obtain ⟨k, hk, rfl, rfl, vo, N, hnum⟩ := hrel
        clear c17 HN0
        have hup := up_le ls hw (n + 1) (by omega)
        have hp15 : 2 ^ (n + 1) ≤ 2 ^ 15 := Nat.pow_le_pow_right (by decide) (by omega)
        have hcl := take_count_le ls k ((n + 1 : Nat) : Int)
        have hce := ct_eq ls (n + 1) (by omega)
        by_cases hlk : k < ls.length
        · have hX : fc ls (n + 1) + (ls.take k).count ((n + 1 : Nat) : Int) ≤ 32768 := by omega
          obtain ⟨X, hXe⟩ : ∃ X : Nat, X = fc ls (n + 1) + (ls.take k).count ((n + 1 : Nat) : Int) := ⟨_, rfl⟩
          have hts := take_count_succ ls k ((n + 1 : Nat) : Int) hlk
          rw [← hXe] at hX ⊢
          have HX : Hid (X = fc ls (n + 1) + (ls.take k).count ((n + 1 : Nat) : Int)) := hXe
          have HT : Hid ((ls.take (k + 1)).count ((n + 1 : Nat) : Int) = (ls.take k).count ((n + 1 : Nat) : Int) + if ln ls k = ((n + 1 : Nat) : Int) then 1 else 0) := hts
          have hlc : wr.cell? ⟨bl, k, none⟩ = some (.int .i64 (ln ls k)) := by
            rw [cells_of (hnum.kept.heap HL.out (by rintro (e | e); exact hlb e; exact hlg e)) k]; exact valA_at ls hlk
          clear hup hp15 hcl hce hts hXe
          by_cases hm : ln ls k = ((n + 1 : Nat) : Int)
          · have c16 := cells_of hnum.block 16
            have c18 := cells_of hnum.block 18
            have f16 := free_of hnum.block 16
            have f19 := free_of hnum.block 19
            have c19 := cells_of hnum.block 19
            have gk := cells_of hnum.codes k
            have gf := free_of hnum.codes k
            rw [codeA_16] at c16
            rw [codeA_18] at c18
            rw [codeA_19] at c19
            rw [valA_at _ (by rw [cds_length]; exact hlk)] at gk
            obtain ⟨ao, co, rfl⟩ := own_form hnum.owns
            have hol := ods_length ls (n + 1) k (by omega) hk hn
            obtain ⟨OD, hOD⟩ : ∃ OD, OD = ods ls (n + 1) k := ⟨_, rfl⟩
            have HR : Hid (Owns wr w.heap.size (.slice ao (ods ls (n + 1) k).length co) (ods ls (n + 1) k)) := hnum.owns
            have HN : Hid _ := hnum
            have hszw := hnum.kept.size
            have hob : (Value.slice ao (ods ls (n + 1) k).length co).ownBlock ≠ some gc := fun e => by have := (ownsRow_lt hnum.owns e).1; omega
            have hob2 : ∀ g, (Value.slice ao (ods ls (n + 1) k).length co).ownBlock = some g → w.heap.size ≤ g := fun g e => (ownsRow_lt hnum.owns e).1
            have HOB : Hid ((Value.slice ao (ods ls (n + 1) k).length co).ownBlock ≠ some gc) := hob
            have HOB2 : Hid (∀ g, (Value.slice ao (ods ls (n + 1) k).length co).ownBlock = some g → w.heap.size ≤ g) := hob2
            have HM : Hid (ln ls k = ((n + 1 : Nat) : Int)) := hm
            rw [hm] at hlc
            clear hnum hob hob2 hm
            go_wp2_with (at_builtin; refine wpList_append_own _ rfl _ _ 43 rfl w.heap.size 3 i0 (.int .i64 0) 1 8 Tryd.underlying43 hi hz0 hz1' hz2' rfl (by decide) _ _ _ rfl (World.ownsRow.alloc (ownsRow_setCell_other HR.out HOB.out _) _) ⟨_, 0, none⟩ 1 1 [.int .i64 (k : Int)] rfl rfl (one_int' _ _ _ (by simp)) (by intro u hu; simp at hu; subst hu; rfl) (by unfold maxLen; omega) (by omega) (by simp; omega) ?_; intro v' w1 hown' hgrow hnil; obtain ⟨a2, cp2, rfl⟩ := own_form hown'; have kb := ((Kept.of_grown hgrow).block bc (by simp; omega) (fun e => by have := HOB2.out bc e.symm; omega)).trans ((Below.heap_alloc _ _ _ (by simp; omega)).trans ((set_other hbg).trans HN.out.block)); have k16 := cells_of kb 16; have kf16 := free_of kb 16; have k19 := cells_of kb 19; have kf19 := free_of kb 19; rw [codeA_16] at k16; rw [codeA_19] at k19; clear kb)
            go_roundw
            case rel =>
              refine ⟨k + 1, by omega, by go_num, ?_, .slice a2 ((ods ls (n + 1) k).length + 1) cp2, n + 1, ?_⟩
              · rw [HT.out, if_pos HM.out, HX.out]; push_cast; go_num
              · have := num_step HN.out hbg hbw hgw hlk (by omega) HM.out (x := (X : Int)) (by rw [HX.out]) hown' hgrow
                simpa using this
            case measure => simp [intOf]; omega
          · obtain ⟨Y, hY⟩ : ∃ Y, Y = ln ls k := ⟨_, rfl⟩
            have HM : Hid (¬ ln ls k = ((n + 1 : Nat) : Int)) := hm
            have hm' : ¬ Y = (n : Int) + 1 := by rw [hY]; push_cast at hm; exact hm
            rw [← hY] at hlc
            have HN : Hid _ := hnum
            clear hY hm hnum
            go_wp2
            go_roundw
            case rel => exact ⟨k + 1, by omega, by go_num, by rw [HT.out, if_neg HM.out, HX.out]; simp, _, N, num_skip HN.out HM.out⟩
            case measure => simp [intOf]; omega
        · obtain rfl : k = ls.length := by omega
          have HC : Hid (ct ls (n + 1) = ls.count ((n + 1 : Nat) : Int)) := hce
          clear hup hp15 hcl hce
          go_wp2
          go_roundw
          case rel => exact ⟨n + 1, by omega, by go_num, by rw [HC.out, List.take_length], vo, N, num_next hnum⟩
          case measure => simp [intOf]; omega
    · obtain rfl : n = 15 := by omega
      go_wp2
      go_end0
      exact ⟨rfl, _, _, hnum0⟩
end Go.Proofs.YtibolmgijaploaaDoor
