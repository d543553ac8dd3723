/- The reference's row: contract. -/
import Derived.Test.YtgafejgmjenfaaaSApp
namespace Go.Proofs.Ytgafejgmjenfaaa.S
set_option maxRecDepth 100000
open Go Go.RowKit

theorem grown_cell {w0 w w1 : World} {v : Value} {xs : List Nat} {o : Obj} {b i : Nat} {u : Value} (h : OwnsW w w0.heap.size v xs) (hb : b < w0.heap.size) (hs : w0.heap.size ≤ w.heap.size) (hg : (w.alloc o).drew.grownBy w1 v.ownBlock) (hc : w.cell? ⟨b, i, none⟩ = some u) : w1.cell? ⟨b, i, none⟩ = some u := by
  have h1 : (w.alloc o).drew.cell? ⟨b, i, none⟩ = some u := (World.cell?_of_block (w := w) (Below.heap_alloc w o b (by omega))).trans hc
  refine ((Kept.of_grown hg).cell (p := ⟨b, i, none⟩) ?_ ?_).trans h1
  · show b < (w.alloc o).heap.size
    simp; omega
  · intro e
    have := (ownsRow_lt h (g := b) e.symm).1
    omega
/-- What row answers. -/
def QRow (f : Nat → Nat) (w : World) (e : Ending) (w' : World) : Prop := ∃ g c, e = .returned (.slice (some ⟨g, 0, none⟩) 80 c) ∧ g < w'.heap.size ∧ (∀ t, t < 80 → w'.cell? ⟨g, t, none⟩ = some (.int .u32 (f t : Nat))) ∧ Below w.heap.size w w'
theorem own_four {w : World} {base g n c : Nat} {f : Nat → Nat} {t k3 k8 k14 k : Nat} (h : OwnsW w base (.slice (some ⟨g, 0, none⟩) n c) (fL f t)) (h3 : k3 < t) (h8 : k8 < t) (h14 : k14 < t) (h16 : k < t) :
    w.cell? ⟨g, k3, none⟩ = some (.int .u32 (f k3 : Nat)) ∧ w.cell? ⟨g, k8, none⟩ = some (.int .u32 (f k8 : Nat)) ∧ w.cell? ⟨g, k14, none⟩ = some (.int .u32 (f k14 : Nat)) ∧ w.cell? ⟨g, k, none⟩ = some (.int .u32 (f k : Nat)) := by
  obtain ⟨g', e, _, _, hc⟩ := h.cell (i := k3) (by rw [fL_length]; exact h3)
  simp only [Option.some.injEq, Addr.mk.injEq, and_true] at e
  subst e
  refine ⟨?_, ?_, ?_, ?_⟩
  · rw [hc k3 (by rw [fL_length]; exact h3), fL_at f h3]
  · rw [hc k8 (by rw [fL_length]; exact h8), fL_at f h8]
  · rw [hc k14 (by rw [fL_length]; exact h14), fL_at f h14]
  · rw [hc k (by rw [fL_length]; exact h16), fL_at f h16]
theorem own_draw2 {w : World} {base : Nat} {v : Value} {xs : List Nat} {n : Nat} (hn : xs.length = n) (h : OwnsW w base v xs) (m : Nat) (o : Obj) : ((w.drewN m).alloc o).ownsRow base 37 1 v n (wV xs) := by
  subst hn
  exact World.ownsRow.alloc (h.drewN m) o
theorem own_back {w : World} {base : Nat} {v : Value} {xs : List Nat} {n : Nat} (hn : xs.length = n) (h : w.ownsRow base 37 1 v n (wV xs)) : OwnsW w base v xs := by
  subst hn
  exact h
theorem own_next2 {w0 w w1 : World} {v v' : Value} {f : Nat → Nat} {t X m : Nat} {o : Obj} (hX : X = f t) (h : OwnsW w w0.heap.size v (fL f t)) (hb : Below w0.heap.size w0 w) (ho : w1.ownsRow w0.heap.size 37 1 v' (t + 1) (wV (fL f t) ++ [.int .u32 (X : Int)])) (hg : ((w.drewN m).alloc o).grownBy w1 v.ownBlock) :
    OwnsW w1 w0.heap.size v' (fL f (t + 1)) ∧ Below w0.heap.size w0 w1 :=
  own_next (w := w.drewN m) (o := o) hX (h.drewN m) ⟨hb.os, hb.tape, hb.output, hb.size, hb.block⟩ ho ⟨hg.os, hg.tape, hg.output, hg.size, hg.block⟩
set_option maxHeartbeats 4000000 in
theorem row_c (b off cap : Nat) (bs : List Nat) (f : Nat → Nat) (w : World) (hb : Bs w b off bs) (hby : By bs) (hl : bs.length = 64) (hbw : b < w.heap.size) (hf : Wds bs f) :
    Calls Try.prog 26 #[.slice (some ⟨b, off, none⟩) 64 cap] w (QRow f w) := by
  obtain ⟨j0, hj0, hj1, hj2, hj3⟩ := info_parts infoW
  have HB := hide hb
  have HY := hide hby
  have HL := hide hl
  have HF := hide hf
  clear hb hby hl hf
  go_enter Try.func26, Try.ntmps26
  go_wp2_with fail
  go_loopg [3, 4] 16 (fun gk v3 v4 wx => ∃ t : Nat, t + gk = 16 ∧ v4 = .int .i64 t ∧ Hid (OwnsW wx w.heap.size v3 (fL f t)) ∧ Hid (Below w.heap.size w wx))
  case atStart => exact ⟨0, by omega, rfl, OwnsW.nil _ _, Below.refl _ _⟩
  case round =>
    obtain ⟨t, htg, rfl, HO, BX⟩ := hrel
    cases gk with
    | zero =>
      obtain rfl : t = 16 := by omega
      have hge : ¬ ((16 : Nat) : Int) < 16 := by omega
      go_wp2_with fail
      go_loopg [3, 5] 64 (fun gk v3 v5 wx => ∃ k : Nat, k + gk = 64 ∧ v5 = .int .i64 ((k + 16 : Nat) : Int) ∧ Hid (OwnsW wx w.heap.size v3 (fL f (k + 16))) ∧ Hid (Below w.heap.size w wx))
      case atStart => exact ⟨0, by omega, rfl, HO, BX⟩
      case round =>
        clear HO BX
        obtain ⟨k, hkg, rfl, HO, BX⟩ := hrel
        obtain ⟨a3, c3, rfl⟩ := HO.out.form
        obtain ⟨g3, rfl, hg3, hg3w, hcell⟩ := HO.out.cell (i := 0) (by rw [fL_length]; omega)
        rw [fL_length] at *
        cases gk with
        | zero =>
          obtain rfl : k = 64 := by omega
          go_wp2_with fail
          go_ret
          exact ⟨g3, c3, rfl, hg3w, fun t ht => by rw [hcell t (by omega), fL_at f (by omega)], BX.out⟩
        | succ g1 =>
          obtain ⟨t, ht⟩ : ∃ t, t = k + 16 := ⟨_, rfl⟩
          rw [← ht] at HO hcell ⊢
          have hlt : (t : Int) < 80 := by omega
          have q3 := hcell (k + 13) (by omega)
          have q8 := hcell (k + 8) (by omega)
          have q14 := hcell (k + 2) (by omega)
          have q16 := hcell k (by omega)
          rw [fL_at f (by omega)] at q3 q8 q14 q16
          have x1 := xor32 _ _ (HF.out.lt (k + 13)) (HF.out.lt (k + 8))
          have x2 := xor32 _ _ (xor_lt (HF.out.lt (k + 13)) (HF.out.lt (k + 8))) (HF.out.lt (k + 2))
          have x3 := xor32 _ _ (xor_lt (xor_lt (HF.out.lt (k + 13)) (HF.out.lt (k + 8))) (HF.out.lt (k + 2))) (HF.out.lt k)
          have x4 := xor_lt (xor_lt (xor_lt (HF.out.lt (k + 13)) (HF.out.lt (k + 8))) (HF.out.lt (k + 2))) (HF.out.lt k)
          have LF := fun W => hide (left1_c _ x4 W)
          rw [← HF.out.hi k, ← ht] at LF
          obtain ⟨X, hX⟩ : ∃ X, X = f t := ⟨_, rfl⟩
          have HX := hide hX
          rw [← hX] at LF
          have s3 : (t : Int) - 3 = ((k + 13 : Nat) : Int) := by omega
          have s8 : (t : Int) - 8 = ((k + 8 : Nat) : Int) := by omega
          have s14 : (t : Int) - 14 = ((k + 2 : Nat) : Int) := by omega
          have s16 : (t : Int) - 16 = (k : Int) := by omega
          have l3 : k + 13 < t := by omega
          have l8 : k + 8 < t := by omega
          have l14 : k + 2 < t := by omega
          have l16 : k < t := by omega
          have HS := hide (fun W (h : OwnsW W w.heap.size (.slice (some ⟨g3, 0, none⟩) t c3) (fL f t)) => own_four h l3 l8 l14 l16)
          have HK := hide (show k + 16 = t from ht.symm)
          generalize f (k + 13) = F3 at q3 x1 x2 x3 LF HS
          generalize f (k + 8) = F8 at q8 x1 x2 x3 LF HS
          generalize f (k + 2) = F14 at q14 x2 x3 LF HS
          generalize hf16 : f k = F16 at q16 x3 LF HS
          generalize k + 13 = k3 at q3 s3 l3 HS
          generalize k + 8 = k8 at q8 s8 l8 HS
          generalize k + 2 = k14 at q14 s14 l14 HS
          have hsz := BX.out.size
          clear hcell x4 hX hf16 ht
          have w3 : IntKind.i64.wrap (k3 : Int) = (k3 : Int) := wrap_i64_small _ (by omega)
          have w8 : IntKind.i64.wrap (k8 : Int) = (k8 : Int) := wrap_i64_small _ (by omega)
          have w14 : IntKind.i64.wrap (k14 : Int) = (k14 : Int) := wrap_i64_small _ (by omega)
          have w16 : IntKind.i64.wrap (k : Int) = (k : Int) := wrap_i64_small _ (by omega)
          have i3 : (0 : Int) ≤ (k3 : Int) ∧ (k3 : Int) < (t : Int) := ⟨by omega, by omega⟩
          have i8 : (0 : Int) ≤ (k8 : Int) ∧ (k8 : Int) < (t : Int) := ⟨by omega, by omega⟩
          have i14 : (0 : Int) ≤ (k14 : Int) ∧ (k14 : Int) < (t : Int) := ⟨by omega, by omega⟩
          have i16 : (0 : Int) ≤ (k : Int) ∧ (k : Int) < (t : Int) := ⟨by omega, by omega⟩
          have HSd := hide (fun m => HS.out (wr.drewN m) (HO.out.drewN m))
          have HSa := hide (fun m o => HS.out ((wr.drewN m).alloc o) (World.ownsRow.alloc (HO.out.drewN m) o))
          go_upto_region 9 with fail
          go_region_held3 (fun w' => w'.cell? ⟨g3, k3, none⟩ = some (.int .u32 (F3 : Int)) ∧ w'.cell? ⟨g3, k8, none⟩ = some (.int .u32 (F8 : Int)) ∧ w'.cell? ⟨g3, k14, none⟩ = some (.int .u32 (F14 : Int)) ∧ w'.cell? ⟨g3, k, none⟩ = some (.int .u32 (F16 : Int))) (first | exact HSz.out | exact HSd.out 1 | exact HSd.out _ | exact HSa.out _ _ | go_keep | assumption) (first
            | (go_at_call 27; refine (LF _).out.mono ?_; rintro e w' ⟨rfl, m, rfl⟩)
            | (refine step_app1 _ (by rfl) (.tmp 50) (.tmp 75) (by rfl) w.heap.size g3 t c3 (wV (fL f t)) (by rfl) (own_draw2 (fL_length f t) HO.out _ _) wr.heap.size (.int .u32 (X : Int)) (by rfl) (heap_new _ _) rfl (by omega) (by simp; omega) ?_; intro v' w1 hown1 hgrow hold; have HGR := hide hgrow; have HOW := hide hown1; have HSz := hide (HS.out w1 (own_back (fL_length f t) hold)); clear hown1 hgrow hold))
          obtain ⟨N1, N2⟩ := own_next2 HX.out HO.out BX.out HOW.out HGR.out
          have N1' := hide N1
          have N2' := hide N2
          clear HOW HGR N1 N2 HSz
          go_wp2_with fail
          go_roundg g1
          case measure => omega
          case rel => exact ⟨k + 1, by omega, by have := HK.out; go_num, by rw [show k + 1 + 16 = t + 1 by have := HK.out; omega]; exact N1', N2'⟩
    | succ g1 =>
      have hlt : (t : Int) < 16 := by omega
      obtain ⟨a3, c3, rfl⟩ := HO.out.form
      have q := HB.out.below BX.out hbw
      have hL := HL.out
      have z0 := q (4 * t) (by omega)
      have z1 := q (4 * t + 1) (by omega)
      have z2 := q (4 * t + 2) (by omega)
      have z3 := q (4 * t + 3) (by omega)
      have HV := hide (HF.out.lo t (by omega))
      have y0 := HY.out.getD (4 * t)
      have y1 := HY.out.getD (4 * t + 1)
      have y2 := HY.out.getD (4 * t + 2)
      have y3 := HY.out.getD (4 * t + 3)
      generalize bs.getD (4 * t) 0 = x0 at z0 HV y0
      generalize bs.getD (4 * t + 1) 0 = x1 at z1 HV y1
      generalize bs.getD (4 * t + 2) 0 = x2 at z2 HV y2
      generalize bs.getD (4 * t + 3) 0 = x3 at z3 HV y3
      have hsz := BX.out.size
      rw [fL_length] at *
      clear q hL
      obtain ⟨X, hX⟩ : ∃ X, X = f t := ⟨_, rfl⟩
      have HX := hide hX
      have hS3 : x0 * 16777216 + x1 * 65536 + x2 * 256 + x3 = X := by rw [hX, HV.out, word]
      clear hX HV
      obtain ⟨M0, hM0⟩ : ∃ M0, x0 * 16777216 = M0 := ⟨_, rfl⟩
      obtain ⟨M1, hM1⟩ : ∃ M1, x1 * 65536 = M1 := ⟨_, rfl⟩
      obtain ⟨M2, hM2⟩ : ∃ M2, x2 * 256 = M2 := ⟨_, rfl⟩
      obtain ⟨S1, hS1⟩ : ∃ S1, M0 + M1 = S1 := ⟨_, rfl⟩
      obtain ⟨S2, hS2⟩ : ∃ S2, S1 + M2 = S2 := ⟨_, rfl⟩
      rw [hM0, hM1, hM2, hS1, hS2] at hS3
      have hlX : X < 4294967296 := by omega
      have n0 : IntKind.u32.wrap (x0 : Int) = (x0 : Int) := by rw [wrap32']; omega
      have n1 : IntKind.u32.wrap (x1 : Int) = (x1 : Int) := by rw [wrap32']; omega
      have n2 : IntKind.u32.wrap (x2 : Int) = (x2 : Int) := by rw [wrap32']; omega
      have n3 : IntKind.u32.wrap (x3 : Int) = (x3 : Int) := by rw [wrap32']; omega
      have m0 : IntKind.u32.wrap ((x0 : Int) * 16777216) = (M0 : Int) := by rw [wrap32']; omega
      have m1 : IntKind.u32.wrap ((x1 : Int) * 65536) = (M1 : Int) := by rw [wrap32']; omega
      have m2 : IntKind.u32.wrap ((x2 : Int) * 256) = (M2 : Int) := by rw [wrap32']; omega
      have s1 : IntKind.u32.wrap ((M0 : Int) + (M1 : Int)) = (S1 : Int) := by rw [wrap32']; omega
      have s2 : IntKind.u32.wrap ((S1 : Int) + (M2 : Int)) = (S2 : Int) := by rw [wrap32']; omega
      have s3 : IntKind.u32.wrap ((S2 : Int) + (x3 : Int)) = (X : Int) := by rw [wrap32']; omega
      clear hM0 hM1 hM2 hS1 hS2 hS3 hlX
      have p0 : IntKind.i64.wrap (4 * (t : Int)) = ((4 * t : Nat) : Int) := by rw [show 4 * (t : Int) = ((4 * t : Nat) : Int) by omega]; exact wrap_i64_small _ (by omega)
      have p1 : IntKind.i64.wrap (((4 * t : Nat) : Int) + 1) = ((4 * t + 1 : Nat) : Int) := wrap_i64_small (4 * t + 1) (by omega)
      have p2 : IntKind.i64.wrap (((4 * t : Nat) : Int) + 2) = ((4 * t + 2 : Nat) : Int) := wrap_i64_small (4 * t + 2) (by omega)
      have p3 : IntKind.i64.wrap (((4 * t : Nat) : Int) + 3) = ((4 * t + 3 : Nat) : Int) := wrap_i64_small (4 * t + 3) (by omega)
      have l0 : (0 : Int) ≤ ((4 * t : Nat) : Int) ∧ ((4 * t : Nat) : Int) < 64 := ⟨by omega, by omega⟩
      have l1 : (0 : Int) ≤ ((4 * t + 1 : Nat) : Int) ∧ ((4 * t + 1 : Nat) : Int) < 64 := ⟨by omega, by omega⟩
      have l2 : (0 : Int) ≤ ((4 * t + 2 : Nat) : Int) ∧ ((4 * t + 2 : Nat) : Int) < 64 := ⟨by omega, by omega⟩
      have l3 : (0 : Int) ≤ ((4 * t + 3 : Nat) : Int) ∧ ((4 * t + 3 : Nat) : Int) < 64 := ⟨by omega, by omega⟩
      generalize 4 * t + 1 = i1 at z1 p1 l1
      generalize 4 * t + 2 = i2 at z2 p2 l2
      generalize 4 * t + 3 = i3 at z3 p3 l3
      generalize 4 * t = i0 at z0 p0 p1 p2 p3 l0
      have HON := hide (fun o => own_draw (fL_length f t) HO.out o)
      have HFAR := hide (fun o w1 (hg : (wr.alloc o).drew.grownBy w1 (Value.slice a3 t c3).ownBlock) => (⟨grown_cell HO.out hbw hsz hg z0, grown_cell HO.out hbw hsz hg z1, grown_cell HO.out hbw hsz hg z2, grown_cell HO.out hbw hsz hg z3⟩ : w1.cell? ⟨b, off + i0, none⟩ = some (.int .u8 (x0 : Int)) ∧ w1.cell? ⟨b, off + i1, none⟩ = some (.int .u8 (x1 : Int)) ∧ w1.cell? ⟨b, off + i2, none⟩ = some (.int .u8 (x2 : Int)) ∧ w1.cell? ⟨b, off + i3, none⟩ = some (.int .u8 (x3 : Int))))
      go_upto_region 5 with fail
      go_region_held3 (fun w' => w'.cell? ⟨b, off + i0, none⟩ = some (.int .u8 (x0 : Int)) ∧ w'.cell? ⟨b, off + i1, none⟩ = some (.int .u8 (x1 : Int)) ∧ w'.cell? ⟨b, off + i2, none⟩ = some (.int .u8 (x2 : Int)) ∧ w'.cell? ⟨b, off + i3, none⟩ = some (.int .u8 (x3 : Int))) (first | exact HFAR.out _ _ HGR.out | go_keep | assumption) ((refine step_append_lies _ (by rfl) (.tmp 10) (.tmp 44) 48 (by rfl) w.heap.size 37 j0 (.int .u32 0) 1 4 Try.underlying48 hj0 hj1 hj2 hj3 (by rfl) (by decide) (.slice a3 t c3) t (wV (fL f t)) (by rfl) (HON.out _) ⟨wr.heap.size, 0, none⟩ 1 1 [.int .u32 (X : Int)] (by rfl) (by rfl) (by exact World.news_of_block (heap_new _ _)) (by intro u hu; simp at hu; subst hu; rfl) (by decide) (by unfold maxLen; omega) (by omega) (by simp; omega) (wr.heap.size + 1) (by simp) ?_; intro g cap w1 hown1 hgrow hat hlt; have HGR := hide hgrow; have HOW := hide hown1; clear hown1 hgrow hat hlt))
      obtain ⟨N1, N2⟩ := own_next HX.out HO.out BX.out HOW.out HGR.out
      have N1' := hide N1
      have N2' := hide N2
      clear HOW HGR N1 N2
      go_wp2_with fail
      go_roundg g1
      case measure => omega
      case rel => exact ⟨t + 1, by omega, by go_num, N1', N2'⟩
end Go.Proofs.Ytgafejgmjenfaaa.S
