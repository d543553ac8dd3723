/- Words in a row of one's own; append to it. The reference's row: contract. The reference's block: contract. -/
import Derived.Test.YtgamfpgejkhbcaaDoorSFill
import Derived.Test.YtgamfpgejkhbcaaDoorSSum
namespace Go.Proofs.YtgamfpgejkhbcaaDoor.S
set_option maxRecDepth 100000
open Go Go.RowKit

def wV (xs : List Nat) : List Value := xs.map fun (x : Nat) => Value.int .u32 (x : Int)
/-- Words in a row of one's own. -/
def OwnsW (w : World) (base : Nat) (v : Value) (xs : List Nat) : Prop := w.ownsRow base 79 1 v xs.length (wV xs)
theorem OwnsW.nil (w : World) (base : Nat) : OwnsW w base (.slice none 0 0) [] := World.ownsRow_nil _ _ _ _
theorem OwnsW.push {w : World} {base : Nat} {v : Value} {xs : List Nat} {x : Nat} (h : w.ownsRow base 79 1 v (xs.length + 1) (wV xs ++ [.int .u32 (x : Int)])) : OwnsW w base v (xs ++ [x]) := by
  unfold OwnsW
  rw [List.length_append, List.length_singleton, show wV (xs ++ [x]) = wV xs ++ [.int .u32 (x : Int)] by simp [wV]]
  exact h
theorem OwnsW.drewN {w : World} {base : Nat} {v : Value} {xs : List Nat} (h : OwnsW w base v xs) (n : Nat) : OwnsW (w.drewN n) base v xs := h
theorem OwnsW.form {w : World} {base : Nat} {v : Value} {xs : List Nat} (h : OwnsW w base v xs) : ∃ a c, v = .slice a xs.length c := by
  rcases h.2 with ⟨rfl, h2⟩ | ⟨g, cap, cur, rfl, _⟩
  · exact ⟨none, 0, by rw [h2]⟩
  · exact ⟨_, _, rfl⟩
theorem OwnsW.cell {w : World} {base : Nat} {a : Option Addr} {n c : Nat} {xs : List Nat} (h : OwnsW w base (.slice a n c) xs) {i : Nat} (hi : i < xs.length) : ∃ g, a = some ⟨g, 0, none⟩ ∧ base ≤ g ∧ g < w.heap.size ∧ ∀ j, j < xs.length → w.cell? ⟨g, j, none⟩ = some (.int .u32 (xs.getD j 0 : Nat)) := by
  rcases h.2 with ⟨e, h2⟩ | ⟨g, cap, cur, e, hb, hh, _⟩
  · omega
  · simp only [Value.slice.injEq] at e
    obtain ⟨rfl, rfl, rfl⟩ := e
    refine ⟨g, rfl, hb, lt_of_block hh, fun j hj => ?_⟩
    rw [World.ownsRow.cellAt h j (by omega)]
    simp [wV, hj]
theorem grow_below {w0 wx wy : World} {v : Value} {xs : List Nat} (h : OwnsW wx w0.heap.size v xs) (hb : Below w0.heap.size w0 wx) (hg : wx.grownBy wy v.ownBlock) : Below w0.heap.size w0 wy :=
  hb.trans ((Kept.of_grown hg).below hb.size (fun i hi e => by have := (ownsRow_lt h e.symm).1; omega))
def fL (f : Nat → Nat) (t : Nat) : List Nat := (List.range t).map f
theorem fL_push (f : Nat → Nat) (t : Nat) : fL f t ++ [f t] = fL f (t + 1) := by simp [fL, List.range_succ]
theorem fL_length (f : Nat → Nat) (t : Nat) : (fL f t).length = t := by simp [fL]
theorem fL_at (f : Nat → Nat) {t i : Nat} (h : i < t) : (fL f t).getD i 0 = f i := by simp [fL, h]
theorem own_draw {w : World} {base : Nat} {v : Value} {xs : List Nat} {n : Nat} (hn : xs.length = n) (h : OwnsW w base v xs) (o : Obj) : (w.alloc o).drew.ownsRow base 79 1 v n (wV xs) := by
  subst hn
  exact World.ownsRow.alloc h o
theorem own_next {w0 w w1 : World} {v v' : Value} {f : Nat → Nat} {t X : Nat} {o : Obj} (hX : X = f t) (h : OwnsW w w0.heap.size v (fL f t)) (hb : Below w0.heap.size w0 w) (ho : w1.ownsRow w0.heap.size 79 1 v' (t + 1) (wV (fL f t) ++ [.int .u32 (X : Int)])) (hg : (w.alloc o).drew.grownBy w1 v.ownBlock) :
    OwnsW w1 w0.heap.size v' (fL f (t + 1)) ∧ Below w0.heap.size w0 w1 := by
  refine ⟨?_, ?_⟩
  · rw [← fL_push, ← hX]
    refine OwnsW.push ?_
    rw [fL_length]
    exact ho
  · have h2 : Below w0.heap.size w0 (w.alloc o).drew := by
      have := hb.alloc hb.size o
      exact ⟨this.os, this.tape, this.output, this.size, this.block⟩
    exact grow_below (wx := (w.alloc o).drew) (World.ownsRow.alloc h o) h2 hg
/-- append of one word to a row of one's own: the elder slice reads as it did. -/
theorem run_app1 (w : World) (ty : TypeId) (base g n cap : Nat) (xs : List Value) (hown : w.ownsRow base 79 1 (.slice (some ⟨g, 0, none⟩) n cap) n xs) (c : Nat) (y : Value) (hy : w.heap[c]? = some (.cells #[y] 79 (0, 0))) (h1 : y.oneCell' = true) (hn : n + 1 ≤ 1000) (hb : base ≤ w.heap.size) :
    ∃ v' w', (Builtin.append_ #[87, 87] ty #[.slice (some ⟨g, 0, none⟩) n cap, .slice (some ⟨c, 0, none⟩) 1 1]).run Tryd.prog w = .ok v' w' ∧ w'.ownsRow base 79 1 v' (n + 1) (xs ++ [y]) ∧ w.grownBy w' (some g) ∧ w'.ownsRow base 79 1 (.slice (some ⟨g, 0, none⟩) n cap) n xs := by
  obtain ⟨i, hi, hz, hs, hby⟩ := info_parts infoW
  have hnews : ∀ j u, [y][j]? = some u → w.cell? ((⟨c, 0, none⟩ : Addr).add j) = some u := World.news_of_block hy
  have hone : ∀ u ∈ [y], u.oneCell' = true := fun u hu => by simp at hu; subst hu; exact h1
  obtain ⟨v', w', hr, h2, h3, _⟩ := run_append_own_at (P := Tryd.prog) w base 87 ty 79 i (.int .u32 0) 1 4 Tryd.underlying87 hi hz hs hby rfl (by decide) _ n xs hown ⟨c, 0, none⟩ 1 1 [y] rfl hnews hone (by unfold maxLen; omega) (by omega) hb
  refine ⟨v', w', hr, h2, h3, ?_⟩
  rcases hown.2 with ⟨e, _⟩ | ⟨g', cap', cur, e, hbg, hg, hnc, hcm, hcs, htake⟩
  · cases e
  · simp only [Value.slice.injEq, Option.some.injEq, Addr.mk.injEq, and_true, true_and] at e
    obtain ⟨rfl, rfl⟩ := e
    by_cases hroom : n + 1 ≤ cap
    · have hr2 := run_append_room (P := Tryd.prog) w 87 ty 79 i Tryd.underlying87 hi g n cap cur hg ⟨c, 0, none⟩ 1 1 [y] (by rw [hs]; rfl) hnews hone hroom (by rw [hs, hcs]; simp; omega)
      rw [hr] at hr2
      simp only [Result.ok.injEq] at hr2
      obtain ⟨_, rfl⟩ := hr2
      refine ⟨hown.1, .inr ⟨g, cap, _, rfl, hbg, setRow_heap' w g _ _ _ _ hg, hnc, hcm, ?_, ?_⟩⟩
      · rw [hs] at *; simp only [List.size_toArray, List.length_append, List.length_take, List.length_drop, Array.length_toList, List.length_singleton]; omega
      · rw [hs]
        simp only [Nat.mul_one] at htake ⊢
        rw [htake]
        have hx : xs.length = n := by have := hown.1; omega
        rw [List.append_assoc, List.take_append_of_le_length (by omega), List.take_of_length_le (by omega)]
    · have holds : ∀ j u, xs[j]? = some u → w.cell? ((⟨g, 0, none⟩ : Addr).add j) = some u := hown.cells (g := g) rfl
      have hr2 := run_append_grow (P := Tryd.prog) w 87 ty 79 i (.int .u32 0) Tryd.underlying87 hi hz ⟨g, 0, none⟩ n cap xs (by rw [hs]; exact hown.1) holds ⟨c, 0, none⟩ 1 1 [y] (by rw [hs]; rfl) hnews (by omega) (by omega) (by rw [hby]; exact growslice_fits (by omega) (by omega))
      rw [hr] at hr2
      simp only [Result.ok.injEq] at hr2
      obtain ⟨_, rfl⟩ := hr2
      exact ⟨hown.1, .inr ⟨g, cap, cur, rfl, hbg, heap_old (w := w.drew) hg, hnc, hcm, hcs, htake⟩⟩
theorem step_app1 {ops : Array Oper} {o : Oper} {a : Act} {K : Act → World → Prop} {Q : Exit → Act → World → Prop} {E : Prop} (w : World) (hgd : o.guard = none) (s x : Operand)
    (ho : o.op = .call { callee := .builtin .append, args := #[s, x], argTypes := #[87, 87] })
    (base g n cap : Nat) (xs : List Value) (hs : a.eval s = .slice (some ⟨g, 0, none⟩) n cap) (hown : w.ownsRow base 79 1 (.slice (some ⟨g, 0, none⟩) n cap) n xs) (c : Nat) (y : Value) (hx : a.eval x = .slice (some ⟨c, 0, none⟩) 1 1) (hy : w.heap[c]? = some (.cells #[y] 79 (0, 0))) (h1 : y.oneCell' = true) (hn : n + 1 ≤ 1000) (hb : base ≤ w.heap.size)
    (h : ∀ v' w', w'.ownsRow base 79 1 v' (n + 1) (xs ++ [y]) → w.grownBy w' (some g) → w'.ownsRow base 79 1 (.slice (some ⟨g, 0, none⟩) n cap) n xs → K (a.put o.dst v') w') :
    if Region.wanted o (yielded ops a.tmps) = true then Oper.wp Tryd.prog o a w K Q else E := by
  have hw : Region.wanted o (yielded ops a.tmps) = true := by simp [Region.wanted, hgd]
  rw [if_pos hw]
  obtain ⟨v', w', hr, h2, h3, h4⟩ := run_app1 w o.type base g n cap xs hown c y hy h1 hn hb
  unfold Oper.wp execOp
  simp only [ho, resolve, invoke, builtin, Sem.run_bind, Sem.run_pure, Result.andThen_ok, List.map_toArray, List.map_cons, List.map_nil, hs, hx, hr]
  exact h v' w' h2 h3 h4
end Go.Proofs.YtgamfpgejkhbcaaDoor.S
namespace Go.Proofs.YtgamfpgejkhbcaaDoor.S
set_option maxRecDepth 100000
open Go Go.RowKit

theorem grown_cell {w0 w w1 : World} {v : Value} {xs : List Nat} {o : Obj} {b i : Nat} {u : Value} (h : OwnsW w w0.heap.size v xs) (hb : b < w0.heap.size) (hs : w0.heap.size ≤ w.heap.size) (hg : (w.alloc o).drew.grownBy w1 v.ownBlock) (hc : w.cell? ⟨b, i, none⟩ = some u) : w1.cell? ⟨b, i, none⟩ = some u := by
  have h1 : (w.alloc o).drew.cell? ⟨b, i, none⟩ = some u := (World.cell?_of_block (w := w) (Below.heap_alloc w o b (by omega))).trans hc
  refine ((Kept.of_grown hg).cell (p := ⟨b, i, none⟩) ?_ ?_).trans h1
  · show b < (w.alloc o).heap.size
    simp; omega
  · intro e
    have := (ownsRow_lt h (g := b) e.symm).1
    omega
/-- What row answers. -/
def QRow (f : Nat → Nat) (w : World) (e : Ending) (w' : World) : Prop := ∃ g c, e = .returned (.slice (some ⟨g, 0, none⟩) 80 c) ∧ g < w'.heap.size ∧ (∀ t, t < 80 → w'.cell? ⟨g, t, none⟩ = some (.int .u32 (f t : Nat))) ∧ Below w.heap.size w w'
theorem own_four {w : World} {base g n c : Nat} {f : Nat → Nat} {t k3 k8 k14 k : Nat} (h : OwnsW w base (.slice (some ⟨g, 0, none⟩) n c) (fL f t)) (h3 : k3 < t) (h8 : k8 < t) (h14 : k14 < t) (h16 : k < t) :
    w.cell? ⟨g, k3, none⟩ = some (.int .u32 (f k3 : Nat)) ∧ w.cell? ⟨g, k8, none⟩ = some (.int .u32 (f k8 : Nat)) ∧ w.cell? ⟨g, k14, none⟩ = some (.int .u32 (f k14 : Nat)) ∧ w.cell? ⟨g, k, none⟩ = some (.int .u32 (f k : Nat)) := by
  obtain ⟨g', e, _, _, hc⟩ := h.cell (i := k3) (by rw [fL_length]; exact h3)
  simp only [Option.some.injEq, Addr.mk.injEq, and_true] at e
  subst e
  refine ⟨?_, ?_, ?_, ?_⟩
  · rw [hc k3 (by rw [fL_length]; exact h3), fL_at f h3]
  · rw [hc k8 (by rw [fL_length]; exact h8), fL_at f h8]
  · rw [hc k14 (by rw [fL_length]; exact h14), fL_at f h14]
  · rw [hc k (by rw [fL_length]; exact h16), fL_at f h16]
theorem own_draw2 {w : World} {base : Nat} {v : Value} {xs : List Nat} {n : Nat} (hn : xs.length = n) (h : OwnsW w base v xs) (m : Nat) (o : Obj) : ((w.drewN m).alloc o).ownsRow base 79 1 v n (wV xs) := by
  subst hn
  exact World.ownsRow.alloc (h.drewN m) o
theorem own_back {w : World} {base : Nat} {v : Value} {xs : List Nat} {n : Nat} (hn : xs.length = n) (h : w.ownsRow base 79 1 v n (wV xs)) : OwnsW w base v xs := by
  subst hn
  exact h
theorem own_next2 {w0 w w1 : World} {v v' : Value} {f : Nat → Nat} {t X m : Nat} {o : Obj} (hX : X = f t) (h : OwnsW w w0.heap.size v (fL f t)) (hb : Below w0.heap.size w0 w) (ho : w1.ownsRow w0.heap.size 79 1 v' (t + 1) (wV (fL f t) ++ [.int .u32 (X : Int)])) (hg : ((w.drewN m).alloc o).grownBy w1 v.ownBlock) :
    OwnsW w1 w0.heap.size v' (fL f (t + 1)) ∧ Below w0.heap.size w0 w1 :=
  own_next (w := w.drewN m) (o := o) hX (h.drewN m) ⟨hb.os, hb.tape, hb.output, hb.size, hb.block⟩ ho ⟨hg.os, hg.tape, hg.output, hg.size, hg.block⟩
set_option maxHeartbeats 4000000 in
theorem row_c (b off cap : Nat) (bs : List Nat) (f : Nat → Nat) (w : World) (hb : Bs w b off bs) (hby : By bs) (hl : bs.length = 64) (hbw : b < w.heap.size) (hf : Wds bs f) :
    Calls Tryd.prog 58 #[.slice (some ⟨b, off, none⟩) 64 cap] w (QRow f w) := by
  obtain ⟨j0, hj0, hj1, hj2, hj3⟩ := info_parts infoW
  have HB := hide hb
  have HY := hide hby
  have HL := hide hl
  have HF := hide hf
  clear hb hby hl hf
  go_enter Tryd.func58, Tryd.ntmps58
  go_wp2_with fail
  go_loopg [3, 4] 16 (fun gk v3 v4 wx => ∃ t : Nat, t + gk = 16 ∧ v4 = .int .i64 t ∧ Hid (OwnsW wx w.heap.size v3 (fL f t)) ∧ Hid (Below w.heap.size w wx))
  case atStart => exact ⟨0, by omega, rfl, OwnsW.nil _ _, Below.refl _ _⟩
  case round =>
    obtain ⟨t, htg, rfl, HO, BX⟩ := hrel
    cases gk with
    | zero =>
      obtain rfl : t = 16 := by omega
      have hge : ¬ ((16 : Nat) : Int) < 16 := by omega
      go_wp2_with fail
      go_loopg [3, 5] 64 (fun gk v3 v5 wx => ∃ k : Nat, k + gk = 64 ∧ v5 = .int .i64 ((k + 16 : Nat) : Int) ∧ Hid (OwnsW wx w.heap.size v3 (fL f (k + 16))) ∧ Hid (Below w.heap.size w wx))
      case atStart => exact ⟨0, by omega, rfl, HO, BX⟩
      case round =>
        clear HO BX
        obtain ⟨k, hkg, rfl, HO, BX⟩ := hrel
        obtain ⟨a3, c3, rfl⟩ := HO.out.form
        obtain ⟨g3, rfl, hg3, hg3w, hcell⟩ := HO.out.cell (i := 0) (by rw [fL_length]; omega)
        rw [fL_length] at *
        cases gk with
        | zero =>
          obtain rfl : k = 64 := by omega
          go_wp2_with fail
          go_ret
          exact ⟨g3, c3, rfl, hg3w, fun t ht => by rw [hcell t (by omega), fL_at f (by omega)], BX.out⟩
        | succ g1 =>
          obtain ⟨t, ht⟩ : ∃ t, t = k + 16 := ⟨_, rfl⟩
          rw [← ht] at HO hcell ⊢
          have hlt : (t : Int) < 80 := by omega
          have q3 := hcell (k + 13) (by omega)
          have q8 := hcell (k + 8) (by omega)
          have q14 := hcell (k + 2) (by omega)
          have q16 := hcell k (by omega)
          rw [fL_at f (by omega)] at q3 q8 q14 q16
          have x1 := xor32 _ _ (HF.out.lt (k + 13)) (HF.out.lt (k + 8))
          have x2 := xor32 _ _ (xor_lt (HF.out.lt (k + 13)) (HF.out.lt (k + 8))) (HF.out.lt (k + 2))
          have x3 := xor32 _ _ (xor_lt (xor_lt (HF.out.lt (k + 13)) (HF.out.lt (k + 8))) (HF.out.lt (k + 2))) (HF.out.lt k)
          have x4 := xor_lt (xor_lt (xor_lt (HF.out.lt (k + 13)) (HF.out.lt (k + 8))) (HF.out.lt (k + 2))) (HF.out.lt k)
          have LF := fun W => hide (left1_c _ x4 W)
          rw [← HF.out.hi k, ← ht] at LF
          obtain ⟨X, hX⟩ : ∃ X, X = f t := ⟨_, rfl⟩
          have HX := hide hX
          rw [← hX] at LF
          have s3 : (t : Int) - 3 = ((k + 13 : Nat) : Int) := by omega
          have s8 : (t : Int) - 8 = ((k + 8 : Nat) : Int) := by omega
          have s14 : (t : Int) - 14 = ((k + 2 : Nat) : Int) := by omega
          have s16 : (t : Int) - 16 = (k : Int) := by omega
          have l3 : k + 13 < t := by omega
          have l8 : k + 8 < t := by omega
          have l14 : k + 2 < t := by omega
          have l16 : k < t := by omega
          have HS := hide (fun W (h : OwnsW W w.heap.size (.slice (some ⟨g3, 0, none⟩) t c3) (fL f t)) => own_four h l3 l8 l14 l16)
          have HK := hide (show k + 16 = t from ht.symm)
          generalize f (k + 13) = F3 at q3 x1 x2 x3 LF HS
          generalize f (k + 8) = F8 at q8 x1 x2 x3 LF HS
          generalize f (k + 2) = F14 at q14 x2 x3 LF HS
          generalize hf16 : f k = F16 at q16 x3 LF HS
          generalize k + 13 = k3 at q3 s3 l3 HS
          generalize k + 8 = k8 at q8 s8 l8 HS
          generalize k + 2 = k14 at q14 s14 l14 HS
          have hsz := BX.out.size
          clear hcell x4 hX hf16 ht
          have w3 : IntKind.i64.wrap (k3 : Int) = (k3 : Int) := wrap_i64_small _ (by omega)
          have w8 : IntKind.i64.wrap (k8 : Int) = (k8 : Int) := wrap_i64_small _ (by omega)
          have w14 : IntKind.i64.wrap (k14 : Int) = (k14 : Int) := wrap_i64_small _ (by omega)
          have w16 : IntKind.i64.wrap (k : Int) = (k : Int) := wrap_i64_small _ (by omega)
          have i3 : (0 : Int) ≤ (k3 : Int) ∧ (k3 : Int) < (t : Int) := ⟨by omega, by omega⟩
          have i8 : (0 : Int) ≤ (k8 : Int) ∧ (k8 : Int) < (t : Int) := ⟨by omega, by omega⟩
          have i14 : (0 : Int) ≤ (k14 : Int) ∧ (k14 : Int) < (t : Int) := ⟨by omega, by omega⟩
          have i16 : (0 : Int) ≤ (k : Int) ∧ (k : Int) < (t : Int) := ⟨by omega, by omega⟩
          have HSd := hide (fun m => HS.out (wr.drewN m) (HO.out.drewN m))
          have HSa := hide (fun m o => HS.out ((wr.drewN m).alloc o) (World.ownsRow.alloc (HO.out.drewN m) o))
          go_upto_region 9 with fail
          go_region_held3 (fun w' => w'.cell? ⟨g3, k3, none⟩ = some (.int .u32 (F3 : Int)) ∧ w'.cell? ⟨g3, k8, none⟩ = some (.int .u32 (F8 : Int)) ∧ w'.cell? ⟨g3, k14, none⟩ = some (.int .u32 (F14 : Int)) ∧ w'.cell? ⟨g3, k, none⟩ = some (.int .u32 (F16 : Int))) (first | exact HSz.out | exact HSd.out 1 | exact HSd.out _ | exact HSa.out _ _ | go_keep | assumption) (first
            | (go_at_call 59; refine (LF _).out.mono ?_; rintro e w' ⟨rfl, m, rfl⟩)
            | (refine step_app1 _ (by rfl) (.tmp 50) (.tmp 75) (by rfl) w.heap.size g3 t c3 (wV (fL f t)) (by rfl) (own_draw2 (fL_length f t) HO.out _ _) wr.heap.size (.int .u32 (X : Int)) (by rfl) (heap_new _ _) rfl (by omega) (by simp; omega) ?_; intro v' w1 hown1 hgrow hold; have HGR := hide hgrow; have HOW := hide hown1; have HSz := hide (HS.out w1 (own_back (fL_length f t) hold)); clear hown1 hgrow hold))
          obtain ⟨N1, N2⟩ := own_next2 HX.out HO.out BX.out HOW.out HGR.out
          have N1' := hide N1
          have N2' := hide N2
          clear HOW HGR N1 N2 HSz
          go_wp2_with fail
          go_roundg g1
          case measure => omega
          case rel => exact ⟨k + 1, by omega, by have := HK.out; go_num, by rw [show k + 1 + 16 = t + 1 by have := HK.out; omega]; exact N1', N2'⟩
    | succ g1 =>
      have hlt : (t : Int) < 16 := by omega
      obtain ⟨a3, c3, rfl⟩ := HO.out.form
      have q := HB.out.below BX.out hbw
      have hL := HL.out
      have z0 := q (4 * t) (by omega)
      have z1 := q (4 * t + 1) (by omega)
      have z2 := q (4 * t + 2) (by omega)
      have z3 := q (4 * t + 3) (by omega)
      have HV := hide (HF.out.lo t (by omega))
      have y0 := HY.out.getD (4 * t)
      have y1 := HY.out.getD (4 * t + 1)
      have y2 := HY.out.getD (4 * t + 2)
      have y3 := HY.out.getD (4 * t + 3)
      generalize bs.getD (4 * t) 0 = x0 at z0 HV y0
      generalize bs.getD (4 * t + 1) 0 = x1 at z1 HV y1
      generalize bs.getD (4 * t + 2) 0 = x2 at z2 HV y2
      generalize bs.getD (4 * t + 3) 0 = x3 at z3 HV y3
      have hsz := BX.out.size
      rw [fL_length] at *
      clear q hL
      obtain ⟨X, hX⟩ : ∃ X, X = f t := ⟨_, rfl⟩
      have HX := hide hX
      have hS3 : x0 * 16777216 + x1 * 65536 + x2 * 256 + x3 = X := by rw [hX, HV.out, word]
      clear hX HV
      obtain ⟨M0, hM0⟩ : ∃ M0, x0 * 16777216 = M0 := ⟨_, rfl⟩
      obtain ⟨M1, hM1⟩ : ∃ M1, x1 * 65536 = M1 := ⟨_, rfl⟩
      obtain ⟨M2, hM2⟩ : ∃ M2, x2 * 256 = M2 := ⟨_, rfl⟩
      obtain ⟨S1, hS1⟩ : ∃ S1, M0 + M1 = S1 := ⟨_, rfl⟩
      obtain ⟨S2, hS2⟩ : ∃ S2, S1 + M2 = S2 := ⟨_, rfl⟩
      rw [hM0, hM1, hM2, hS1, hS2] at hS3
      have hlX : X < 4294967296 := by omega
      have n0 : IntKind.u32.wrap (x0 : Int) = (x0 : Int) := by rw [wrap32']; omega
      have n1 : IntKind.u32.wrap (x1 : Int) = (x1 : Int) := by rw [wrap32']; omega
      have n2 : IntKind.u32.wrap (x2 : Int) = (x2 : Int) := by rw [wrap32']; omega
      have n3 : IntKind.u32.wrap (x3 : Int) = (x3 : Int) := by rw [wrap32']; omega
      have m0 : IntKind.u32.wrap ((x0 : Int) * 16777216) = (M0 : Int) := by rw [wrap32']; omega
      have m1 : IntKind.u32.wrap ((x1 : Int) * 65536) = (M1 : Int) := by rw [wrap32']; omega
      have m2 : IntKind.u32.wrap ((x2 : Int) * 256) = (M2 : Int) := by rw [wrap32']; omega
      have s1 : IntKind.u32.wrap ((M0 : Int) + (M1 : Int)) = (S1 : Int) := by rw [wrap32']; omega
      have s2 : IntKind.u32.wrap ((S1 : Int) + (M2 : Int)) = (S2 : Int) := by rw [wrap32']; omega
      have s3 : IntKind.u32.wrap ((S2 : Int) + (x3 : Int)) = (X : Int) := by rw [wrap32']; omega
      clear hM0 hM1 hM2 hS1 hS2 hS3 hlX
      have p0 : IntKind.i64.wrap (4 * (t : Int)) = ((4 * t : Nat) : Int) := by rw [show 4 * (t : Int) = ((4 * t : Nat) : Int) by omega]; exact wrap_i64_small _ (by omega)
      have p1 : IntKind.i64.wrap (((4 * t : Nat) : Int) + 1) = ((4 * t + 1 : Nat) : Int) := wrap_i64_small (4 * t + 1) (by omega)
      have p2 : IntKind.i64.wrap (((4 * t : Nat) : Int) + 2) = ((4 * t + 2 : Nat) : Int) := wrap_i64_small (4 * t + 2) (by omega)
      have p3 : IntKind.i64.wrap (((4 * t : Nat) : Int) + 3) = ((4 * t + 3 : Nat) : Int) := wrap_i64_small (4 * t + 3) (by omega)
      have l0 : (0 : Int) ≤ ((4 * t : Nat) : Int) ∧ ((4 * t : Nat) : Int) < 64 := ⟨by omega, by omega⟩
      have l1 : (0 : Int) ≤ ((4 * t + 1 : Nat) : Int) ∧ ((4 * t + 1 : Nat) : Int) < 64 := ⟨by omega, by omega⟩
      have l2 : (0 : Int) ≤ ((4 * t + 2 : Nat) : Int) ∧ ((4 * t + 2 : Nat) : Int) < 64 := ⟨by omega, by omega⟩
      have l3 : (0 : Int) ≤ ((4 * t + 3 : Nat) : Int) ∧ ((4 * t + 3 : Nat) : Int) < 64 := ⟨by omega, by omega⟩
      generalize 4 * t + 1 = i1 at z1 p1 l1
      generalize 4 * t + 2 = i2 at z2 p2 l2
      generalize 4 * t + 3 = i3 at z3 p3 l3
      generalize 4 * t = i0 at z0 p0 p1 p2 p3 l0
      have HON := hide (fun o => own_draw (fL_length f t) HO.out o)
      have HFAR := hide (fun o w1 (hg : (wr.alloc o).drew.grownBy w1 (Value.slice a3 t c3).ownBlock) => (⟨grown_cell HO.out hbw hsz hg z0, grown_cell HO.out hbw hsz hg z1, grown_cell HO.out hbw hsz hg z2, grown_cell HO.out hbw hsz hg z3⟩ : w1.cell? ⟨b, off + i0, none⟩ = some (.int .u8 (x0 : Int)) ∧ w1.cell? ⟨b, off + i1, none⟩ = some (.int .u8 (x1 : Int)) ∧ w1.cell? ⟨b, off + i2, none⟩ = some (.int .u8 (x2 : Int)) ∧ w1.cell? ⟨b, off + i3, none⟩ = some (.int .u8 (x3 : Int))))
      go_upto_region 5 with fail
      go_region_held3 (fun w' => w'.cell? ⟨b, off + i0, none⟩ = some (.int .u8 (x0 : Int)) ∧ w'.cell? ⟨b, off + i1, none⟩ = some (.int .u8 (x1 : Int)) ∧ w'.cell? ⟨b, off + i2, none⟩ = some (.int .u8 (x2 : Int)) ∧ w'.cell? ⟨b, off + i3, none⟩ = some (.int .u8 (x3 : Int))) (first | exact HFAR.out _ _ HGR.out | go_keep | assumption) ((refine step_append_lies _ (by rfl) (.tmp 10) (.tmp 44) 87 (by rfl) w.heap.size 79 j0 (.int .u32 0) 1 4 Tryd.underlying87 hj0 hj1 hj2 hj3 (by rfl) (by decide) (.slice a3 t c3) t (wV (fL f t)) (by rfl) (HON.out _) ⟨wr.heap.size, 0, none⟩ 1 1 [.int .u32 (X : Int)] (by rfl) (by rfl) (by exact World.news_of_block (heap_new _ _)) (by intro u hu; simp at hu; subst hu; rfl) (by decide) (by unfold maxLen; omega) (by omega) (by simp; omega) (wr.heap.size + 1) (by simp) ?_; intro g cap w1 hown1 hgrow hat hlt; have HGR := hide hgrow; have HOW := hide hown1; clear hown1 hgrow hat hlt))
      obtain ⟨N1, N2⟩ := own_next HX.out HO.out BX.out HOW.out HGR.out
      have N1' := hide N1
      have N2' := hide N2
      clear HOW HGR N1 N2
      go_wp2_with fail
      go_roundg g1
      case measure => omega
      case rel => exact ⟨t + 1, by omega, by go_num, N1', N2'⟩
end Go.Proofs.YtgamfpgejkhbcaaDoor.S
namespace Go.Proofs.YtgamfpgejkhbcaaDoor.S
set_option maxRecDepth 100000
open Go Go.RowKit

theorem info5w (s : St) : (Tryd.prog.info? 80).map (·.size) = some (stA s).size := by
  have h : (stA s).size = 5 := rfl
  rw [h]; exact (zero_of_info (by kernel_rfl : (Tryd.prog.info? 80).map (fun i => (i.zero, i.size)) = some (some (.agg (stA ⟨0, 0, 0, 0, 0⟩)), 5))).2
theorem zero5i : (Tryd.prog.info? 80).map (fun i => (i.zero, i.size)) = some (some (.agg (stA ⟨0, 0, 0, 0, 0⟩)), 5) := by kernel_rfl
theorem zero5w : (∀ w, (zeroValue 80).run Tryd.prog w = .ok (.agg (stA ⟨0, 0, 0, 0, 0⟩)) w) := (zero_of_info zero5i).1
theorem stA_one (s : St) : (stA s).all (·.oneCell') = true := by simp [stA, Value.oneCell']

theorem built_five (s : St) : Tryd.prog.built 80 [(0, .int .u32 (s.a : Int)), (1, .int .u32 (s.b : Int)), (2, .int .u32 (s.c : Int)), (3, .int .u32 (s.d : Int)), (4, .int .u32 (s.e : Int))] = some (stA s) := by kernel_rfl
set_option maxHeartbeats 4000000 in
theorem block_c (b off cap : Nat) (bs : List Nat) (s : St) (f : Nat → Nat) (w : World) (hs : s.Ok) (hb : Bs w b off bs) (hby : By bs) (hl : bs.length = 64) (hbw : b < w.heap.size) (hf : Wds bs f) :
    Calls Tryd.prog 52 #[.agg (stA s), .slice (some ⟨b, off, none⟩) 64 cap] w fun e w' => e = .returned (.agg (stA (add5 s (rnds f 80 s)))) ∧ Below w.heap.size w w' := by
  have hz := zero5w
  have HS := hide hs
  have HF := hide hf
  have BA := hide (((Below.refl _ w).alloc (Nat.le_refl _) (.cells (stA s) 80)).alloc (by simp) (.cells (stA ⟨0, 0, 0, 0, 0⟩) 80) : Below w.heap.size w _)
  have HRW := hide (row_c b off cap bs f ((w.alloc (.cells (stA s) 80)).alloc (.cells (stA ⟨0, 0, 0, 0, 0⟩) 80)) (hb.below BA.out hbw) hby hl (Nat.lt_of_lt_of_le hbw BA.out.size) hf)
  have R0 := hide (heap_new1 w (.cells (stA s) 80) (.cells (stA ⟨0, 0, 0, 0, 0⟩) 80))
  have R1 := hide (heap_new2 w (.cells (stA s) 80) (.cells (stA ⟨0, 0, 0, 0, 0⟩) 80))
  clear hs hf hb hby hl
  have hsz2 : ((w.alloc (.cells (stA s) 80)).alloc (.cells (stA ⟨0, 0, 0, 0, 0⟩) 80)).heap.size = w.heap.size + 2 := by simp
  go_enter Tryd.func52, Tryd.ntmps52
  go_upto_region 2 with (go_at_call 58; refine HRW.out.mono ?_; rintro e w1 ⟨g, c, rfl, hg, hc, hb1⟩; have HC := hide hc; have B1 := hide hb1; clear hc hb1)
  have S0 : Hid (w1.heap[w.heap.size]? = some (.cells (stA s) 80 (0, 0))) := (B1.out.block _ (by rw [hsz2]; omega)).trans R0.out
  have S1 : Hid (w1.heap[w.heap.size + 1]? = some (.cells (stA ⟨0, 0, 0, 0, 0⟩) 80 (0, 0))) := (B1.out.block _ (by rw [hsz2]; omega)).trans R1.out
  have BW : Hid (Below w.heap.size w w1) := BA.out.trans (B1.out.mono BA.out.size)
  clear HRW R0 R1 BA B1 hsz2
  have c0 : w1.cell? ⟨w.heap.size, 0, none⟩ = some (.int .u32 (s.a : Int)) := cells_of S0.out 0
  have c1 : w1.cell? ⟨w.heap.size, 1, none⟩ = some (.int .u32 (s.b : Int)) := cells_of S0.out 1
  have c2 : w1.cell? ⟨w.heap.size, 2, none⟩ = some (.int .u32 (s.c : Int)) := cells_of S0.out 2
  have c3 : w1.cell? ⟨w.heap.size, 3, none⟩ = some (.int .u32 (s.d : Int)) := cells_of S0.out 3
  have c4 : w1.cell? ⟨w.heap.size, 4, none⟩ = some (.int .u32 (s.e : Int)) := cells_of S0.out 4
  have hs1 := lt_of_block' S1.out
  go_wp2_with fail
  go_loopg [6, 7, 8, 9, 10, 11] 80 (fun gk v6 v7 v8 v9 v10 v11 wx => ∃ t : Nat, t + gk = 80 ∧ v11 = .int .i64 t ∧ v6 = .int .u32 ((rnds f t s).a : Int) ∧ v7 = .int .u32 ((rnds f t s).b : Int) ∧ v8 = .int .u32 ((rnds f t s).c : Int) ∧ v9 = .int .u32 ((rnds f t s).d : Int) ∧ v10 = .int .u32 ((rnds f t s).e : Int) ∧ Hid (Below w1.heap.size w1 wx))
  case atStart => exact ⟨0, by omega, rfl, rfl, rfl, rfl, rfl, rfl, Below.refl _ _⟩
  case round =>
    obtain ⟨t, htg, rfl, rfl, rfl, rfl, rfl, rfl, BX⟩ := hrel
    clear c0 c1 c2 c3 c4
    have HR := hide (rnds_ok f t HS.out)
    obtain ⟨r, hr⟩ : ∃ r, r = rnds f t s := ⟨_, rfl⟩
    have HRE := hide hr
    rw [← hr] at HR ⊢
    clear hr
    obtain ⟨ra, rb, rc, rd, re⟩ := r
    simp only at *
    have hra := HR.out.a
    have hrb := HR.out.b
    have hrc := HR.out.c
    have hrd := HR.out.d
    have hre := HR.out.e
    simp only at hra hrb hrc hrd hre
    cases gk with
    | zero =>
      obtain rfl : t = 80 := by omega
      have HE := hide (show add5 s (rnds f 80 s) = ⟨(s.a + ra) % 4294967296, (s.b + rb) % 4294967296, (s.c + rc) % 4294967296, (s.d + rd) % 4294967296, (s.e + re) % 4294967296⟩ by rw [← HRE.out]; rfl)
      have T0 : Hid (wr.heap[w.heap.size]? = some (.cells (stA s) 80 (0, 0))) := (BX.out.block _ (by omega)).trans S0.out
      have T1 : Hid (wr.heap[w.heap.size + 1]? = some (.cells (stA ⟨0, 0, 0, 0, 0⟩) 80 (0, 0))) := (BX.out.block _ hs1).trans S1.out
      have BR : Hid (Below w.heap.size w wr) := BW.out.trans (BX.out.mono BW.out.size)
      clear HRE S0 S1 BW BX HR HS HF HC
      obtain ⟨sa, sb, sc, sd, se⟩ := s
      simp only at *
      have c0 : wr.cell? ⟨w.heap.size, 0, none⟩ = some (.int .u32 (sa : Int)) := cells_of T0.out 0
      have c1 : wr.cell? ⟨w.heap.size, 1, none⟩ = some (.int .u32 (sb : Int)) := cells_of T0.out 1
      have c2 : wr.cell? ⟨w.heap.size, 2, none⟩ = some (.int .u32 (sc : Int)) := cells_of T0.out 2
      have c3 : wr.cell? ⟨w.heap.size, 3, none⟩ = some (.int .u32 (sd : Int)) := cells_of T0.out 3
      have c4 : wr.cell? ⟨w.heap.size, 4, none⟩ = some (.int .u32 (se : Int)) := cells_of T0.out 4
      have hge : ¬ ((80 : Nat) : Int) < 80 := by omega
      have HI := hide (info5w ⟨(sa + ra) % 4294967296, (sb + rb) % 4294967296, (sc + rc) % 4294967296, (sd + rd) % 4294967296, (se + re) % 4294967296⟩)
      have HON := hide (stA_one ⟨(sa + ra) % 4294967296, (sb + rb) % 4294967296, (sc + rc) % 4294967296, (sd + rd) % 4294967296, (se + re) % 4294967296⟩)
      have HBU := hide (built_five ⟨(sa + ra) % 4294967296, (sb + rb) % 4294967296, (sc + rc) % 4294967296, (sd + rd) % 4294967296, (se + re) % 4294967296⟩)
      obtain ⟨oc, hoc⟩ : ∃ oc, oc = stA ⟨(sa + ra) % 4294967296, (sb + rb) % 4294967296, (sc + rc) % 4294967296, (sd + rd) % 4294967296, (se + re) % 4294967296⟩ := ⟨_, rfl⟩
      have HSZ := hide (show (stA ⟨0, 0, 0, 0, 0⟩).size = oc.size by rw [hoc]; rfl)
      have HOC := hide (show Value.agg oc = .agg (stA (add5 ⟨sa, sb, sc, sd, se⟩ (rnds f 80 ⟨sa, sb, sc, sd, se⟩))) by rw [hoc, ← HE.out])
      rw [← hoc] at HI HON HBU
      clear hoc HE
      have e0 := add32 sa ra
      have e1 := add32 sb rb
      have e2 := add32 sc rc
      have e3 := add32 sd rd
      have e4 := add32 se re
      generalize (sa + ra) % 4294967296 = y0 at *
      generalize (sb + rb) % 4294967296 = y1 at *
      generalize (sc + rc) % 4294967296 = y2 at *
      generalize (sd + rd) % 4294967296 = y3 at *
      generalize (se + re) % 4294967296 = y4 at *
      go_wp2_with (first
        | (refine wpList_build rfl 80 _ rfl _ oc HBU.out (by simp [Act.eval]; exact ⟨e0, e1, e2, e3, e4⟩) ?_)
        | (refine wpList_store_row rfl 80 (.tmp 4) (.tmp 100) rfl (w.heap.size + 1) oc (by rfl) (by rfl) (stA ⟨0, 0, 0, 0, 0⟩) 80 T1.out HI.out HSZ.out HON.out ?_; intro w6 G6 K6))
      have hld : (loadVar 80 ⟨w.heap.size + 1, 0, none⟩).run Tryd.prog w6 = .ok (.agg oc) w6 :=
        run_loadVar_row _ _ 80 80 oc (0, 0) _ G6.out Tryd.underlying80 rfl HI.out
      refine bodyPost_ret (v := .agg oc) ?_ rfl ⟨by rw [HOC.out], BR.out.trans (K6.out.below BR.out.size (fun i hi e => by omega))⟩
      simp [results, asAddr, hld]
    | succ g1 =>
      have hlt : (t : Int) < 80 := by omega
      have HL5 := fun W => hide (left5_c ra hra W)
      have HL30 := fun W => hide (left30_c rb hrb W)
      have ct : wr.cell? ⟨g, t, none⟩ = some (.int .u32 (f t : Nat)) := (BX.out.cell (p := ⟨g, t, none⟩) hg).trans (HC.out t (by omega))
      have HN := hide (show rnds f (t + 1) s = ⟨(rot 5 ra + fF t rb rc rd + re + kF t + f t) % 4294967296, ra, rot 30 rb, rc, rd⟩ by rw [rnds, ← HRE.out]; rfl)
      have hfl := fF_lt t hrb hrc hrd
      have hkl := kF_lt t
      have h5l := rot_lt 5 hra
      have hwl := HF.out.lt t
      have i0 : (0 : Int) ≤ (t : Int) := by omega
      generalize rot 5 ra = R5 at *
      generalize rot 30 rb = R30 at *
      generalize f t = Fw at *
      have n1 : bits .xor .u32 4294967295 (rb : Int) = ((4294967295 ^^^ rb : Nat) : Int) := xor32 4294967295 rb (by omega) hrb
      have hnb : 4294967295 ^^^ rb < 4294967296 := xor_lt (by omega) hrb
      have a1 := and32 rb rc hrb hrc
      have a2 := and32 _ rd hnb hrd
      have o1 := or32 _ _ (@and_lt rb rc hrc) (@and_lt (4294967295 ^^^ rb) rd hrd)
      have x1 := xor32 rb rc hrb hrc
      have x2 := xor32 _ rd (xor_lt hrb hrc) hrd
      have a3 := and32 rb rd hrb hrd
      have a4 := and32 rc rd hrc hrd
      have o2 := or32 _ _ (@and_lt rb rc hrc) (@and_lt rb rd hrd)
      have o3 := or32 _ _ (or_lt (@and_lt rb rc hrc) (@and_lt rb rd hrd)) (@and_lt rc rd hrd)
      by_cases h1 : t < 20
      · have hf : fF t rb rc rd = (rb &&& rc) ||| ((4294967295 ^^^ rb) &&& rd) := if_pos h1
        have hk : kF t = 1518500249 := if_pos h1
        have h1' : (t : Int) < 20 := by omega
        rw [← hf] at o1
        rw [hk] at HN hkl
        generalize fF t rb rc rd = Ff at *
        clear hf hk a3 a4 o2 o3 h1
        go_upto_region 20 with fail
        go_quiet ((go_at_call 59; exact Calls.quiet_of (HL5 _).out))
        go_wp2_with (go_at_call 59; refine (HL30 _).out.mono ?_; rintro e w' ⟨rfl, m, rfl⟩)
        go_roundg g1
        case measure => omega
        case rel => exact ⟨t + 1, by omega, by go_num, by rw [HN.out]; rfl, by rw [HN.out], by rw [HN.out], by rw [HN.out], by rw [HN.out], (⟨BX.out.os, BX.out.tape, BX.out.output, BX.out.size, BX.out.block⟩ : Below w1.heap.size w1 (wr.drewN (nq + m)))⟩
      · have h1' : ¬ (t : Int) < 20 := by omega
        by_cases h2 : t < 40
        · have hf : fF t rb rc rd = (rb ^^^ rc) ^^^ rd := by unfold fF; rw [if_neg h1, if_pos h2]
          have hk : kF t = 1859775393 := by unfold kF; rw [if_neg h1, if_pos h2]
          have h2' : (t : Int) < 40 := by omega
          rw [← hf] at x2
          rw [hk] at HN hkl
          generalize fF t rb rc rd = Ff at *
          clear hf hk a1 a2 a3 a4 o1 o2 o3 h1 h2
          go_upto_region 20 with fail
          go_quiet ((go_at_call 59; exact Calls.quiet_of (HL5 _).out))
          go_wp2_with (go_at_call 59; refine (HL30 _).out.mono ?_; rintro e w' ⟨rfl, m, rfl⟩)
          go_roundg g1
          case measure => omega
          case rel => exact ⟨t + 1, by omega, by go_num, by rw [HN.out]; rfl, by rw [HN.out], by rw [HN.out], by rw [HN.out], by rw [HN.out], (⟨BX.out.os, BX.out.tape, BX.out.output, BX.out.size, BX.out.block⟩ : Below w1.heap.size w1 (wr.drewN (nq + m)))⟩
        · have h2' : ¬ (t : Int) < 40 := by omega
          by_cases h3 : t < 60
          · have hf : fF t rb rc rd = ((rb &&& rc) ||| (rb &&& rd)) ||| (rc &&& rd) := by unfold fF; rw [if_neg h1, if_neg h2, if_pos h3]
            have hk : kF t = 2400959708 := by unfold kF; rw [if_neg h1, if_neg h2, if_pos h3]
            have h3' : (t : Int) < 60 := by omega
            rw [← hf] at o3
            rw [hk] at HN hkl
            generalize fF t rb rc rd = Ff at *
            clear hf hk a2 o1 h1 h2 h3
            go_upto_region 20 with fail
            go_quiet ((go_at_call 59; exact Calls.quiet_of (HL5 _).out))
            go_wp2_with (go_at_call 59; refine (HL30 _).out.mono ?_; rintro e w' ⟨rfl, m, rfl⟩)
            go_roundg g1
            case measure => omega
            case rel => exact ⟨t + 1, by omega, by go_num, by rw [HN.out]; rfl, by rw [HN.out], by rw [HN.out], by rw [HN.out], by rw [HN.out], (⟨BX.out.os, BX.out.tape, BX.out.output, BX.out.size, BX.out.block⟩ : Below w1.heap.size w1 (wr.drewN (nq + m)))⟩
          · have hf : fF t rb rc rd = (rb ^^^ rc) ^^^ rd := by unfold fF; rw [if_neg h1, if_neg h2, if_neg h3]
            have hk : kF t = 3395469782 := by unfold kF; rw [if_neg h1, if_neg h2, if_neg h3]
            have h3' : ¬ (t : Int) < 60 := by omega
            rw [← hf] at x2
            rw [hk] at HN hkl
            generalize fF t rb rc rd = Ff at *
            clear hf hk a1 a2 a3 a4 o1 o2 o3 h1 h2 h3
            go_upto_region 20 with fail
            go_quiet ((go_at_call 59; exact Calls.quiet_of (HL5 _).out))
            go_wp2_with (go_at_call 59; refine (HL30 _).out.mono ?_; rintro e w' ⟨rfl, m, rfl⟩)
            go_roundg g1
            case measure => omega
            case rel => exact ⟨t + 1, by omega, by go_num, by rw [HN.out]; rfl, by rw [HN.out], by rw [HN.out], by rw [HN.out], by rw [HN.out], (⟨BX.out.os, BX.out.tape, BX.out.output, BX.out.size, BX.out.block⟩ : Below w1.heap.size w1 (wr.drewN (nq + m)))⟩
end Go.Proofs.YtgamfpgejkhbcaaDoor.S
