/- The reference's Fixed. -/
import Derived.Test.YtlakgbckopjelaaGreatDoorDQFix
import Derived.Deep.AppendLies
namespace Go.Proofs.YtlakgbckopjelaaGreatDoor
set_option maxRecDepth 100000
open Go Go.RowKit

/-- The bits so far. -/
def fxB (ts : List M.Tk) : List Int := [1, 1, 0] ++ ts.flatMap (tokB iFix iFive)
theorem fxB_all (ts : List M.Tk) : fxB ts ++ rowL (cd iFix 256) 7 = blB 1 true [] iFix iFive ts := by
  unfold fxB blB datB mkB
  rw [show knd true 1 = [1, 1, 0] by decide, show (ln iFix 256).toNat = 7 by decide +kernel]
  simp [bitsN]
theorem fxB_snoc (ts : List M.Tk) (t : M.Tk) : fxB (ts ++ [t]) = fxB ts ++ tokB iFix iFive t := by simp [fxB]
/-- A distance's code in the fixed block is the number itself. -/
theorem five_cd : ∀ d : Fin 30, cd iFive d.val = d.val ∧ (ln iFive d.val).toNat = 5 := by decide +kernel
theorem fxB_byte {t : M.Tk} (h : t.2.1 = 0) : tokB iFix iFive t = rowL (cd iFix t.1.toNat) (ln iFix t.1.toNat).toNat := by
  unfold tokB mkB
  rw [if_pos h]
  simp [bitsN]
theorem fxB_run {t : M.Tk} (h : ¬ t.2.1 = 0) (h2 : 1 ≤ t.2.2.toNat ∧ t.2.2.toNat ≤ 32768) : tokB iFix iFive t = rowL (cd iFix (lmk t.2.1.toNat).1) (ln iFix (lmk t.2.1.toNat).1).toNat ++ bitsN ((lmk t.2.1.toNat).2.1 : Int) (lmk t.2.1.toNat).2.2 ++ rowL (bmk t.2.2.toNat).1 5 ++ bitsN ((bmk t.2.2.toNat).2.1 : Int) (bmk t.2.2.toNat).2.2 := by
  have := five_cd ⟨(bmk t.2.2.toNat).1, by have := (bmk_ok _ h2).1; omega⟩
  simp only at this
  unfold tokB mkB
  rw [if_neg h, this.1, this.2]
  simp only [List.append_assoc]
theorem fx_codes (w1 : World) (a3 : Option Addr) (c3 : Nat) (h : Ints 0 w1.heap.size w1 a3 iFix) : Calls Tryz.prog 33 #[.slice a3 288 c3] w1 fun e w' => e = .returned (.slice (some ⟨w1.heap.size, 0, none⟩) 288 288) ∧ w' = w1.alloc (.cells (valA (codesL iFix)) 3) := by
  have := refCodes_c _ a3 c3 iFix w1 (by rw [iFix_length]; omega) iFix_good.fit iFix_good.le h
  rwa [iFix_length] at this
theorem fx_fixed (w : World) : Calls Tryz.prog 32 #[] w fun e w' => ∃ a3 c3, e = .returned (.slice a3 288 c3) ∧ Ints 0 w'.heap.size w' a3 iFix ∧ Below w.heap.size w w' := by
  refine (rFixed_c w).mono ?_
  rintro e w1 ⟨v, rfl, o1, b1⟩
  obtain ⟨a3, c3, rfl, _⟩ := o1.form
  have h := (owns_ints o1).1
  refine ⟨a3, c3, by rw [iFix_length], h, b1⟩
theorem fix_one : ∀ v : Fin 288, 1 ≤ ln iFix v.val := by decide +kernel
theorem fx_cells {w1 w2 : World} {a3 : Option Addr} (hi : Ints 0 w1.heap.size w1 a3 iFix) (h2 : w2 = w1.alloc (.cells (valA (codesL iFix)) 3)) : ∃ b off, a3 = some ⟨b, off, none⟩ ∧ b < w1.heap.size ∧ ∀ wx, Below w2.heap.size w2 wx → ∀ v, v < 288 → ∃ n : Nat, (ln iFix v).toNat = n ∧ 1 ≤ n ∧ n ≤ 15 ∧ cd iFix v ≤ 32768 ∧ wx.cell? ⟨b, off + v, none⟩ = some (.int .i64 (n : Int)) ∧ wx.cell? ⟨w1.heap.size, v, none⟩ = some (.int .i64 (cd iFix v : Int)) := by
  obtain ⟨b, off, _, hb1, hbw, rfl, hcell⟩ := hi.resolve_left (by rw [iFix_length]; omega)
  refine ⟨b, off, rfl, hb1, fun wx hx v hv => ?_⟩
  have h1 := fix_one ⟨v, hv⟩
  simp only at h1
  have hfit := ln_fit iFix_good.fit v
  have hvl : v < iFix.length := by rw [iFix_length]; exact hv
  have hlt := (cd_lt iFix_good.le iFix_good.fit hvl h1).2
  have p15 : 2 ^ (ln iFix v).toNat ≤ 2 ^ 15 := Nat.pow_le_pow_right (by decide) (by omega)
  have hs : w2.heap.size = w1.heap.size + 1 := by rw [h2]; simp
  have hk : Below w1.heap.size w1 w2 := by rw [h2]; exact (Below.refl _ w1).alloc (Nat.le_refl _) _
  refine ⟨_, rfl, by omega, by omega, by omega, ?_, ?_⟩
  · rw [hx.cell (p := ⟨b, off + v, none⟩) (by show b < _; omega), hk.cell (p := ⟨b, off + v, none⟩) (by show b < _; omega), hcell v hvl]
    rw [Int.toNat_of_nonneg (by omega)]
  · have hh : w2.heap[w1.heap.size]? = some (.cells (valA (codesL iFix)) 3 (0, 0)) := by rw [h2]; exact heap_new _ _
    rw [hx.cell (p := ⟨w1.heap.size, v, none⟩) (by show w1.heap.size < _; omega), cells_of hh v, valA_at _ (by rw [codesL_length]; exact hvl), codesL_at iFix hvl, if_pos h1]
theorem row_cells (wr : World) (L : List Int) : ∀ j u, (L.map (Value.int .i64))[j]? = some u → ((wr.alloc (.cells (valA L) 3)).drew).cell? ((⟨wr.heap.size, 0, none⟩ : Addr).add j) = some u := by
  intro j u hu
  have hj : j < L.length := by
    have := List.getElem?_eq_some_iff.1 hu
    obtain ⟨h, _⟩ := this
    simpa using h
  have e := cells_of (heap_new wr (.cells (valA L) 3)) j
  rw [valA_at _ hj] at e
  have e2 : (L.map (Value.int .i64))[j]? = some (.int .i64 (ln L j)) := by simp [ln, hj]
  rw [e2] at hu
  cases hu
  have ea : (⟨wr.heap.size, 0, none⟩ : Addr).add j = ⟨wr.heap.size, j, none⟩ := by cases j <;> simp [Addr.add]
  rw [ea]
  exact e
theorem tokB_len {t : M.Tk} (h : t.2.1 = 0 ∨ (3 ≤ t.2.1 ∧ t.2.1 ≤ 258 ∧ 1 ≤ t.2.2 ∧ t.2.2 ≤ 32768)) : (tokB iFix iFive t).length ≤ 48 := by
  have l1 : ∀ v, (ln iFix v).toNat ≤ 15 := fun v => by have := ln_fit iFix_good.fit v; omega
  have l2 : ∀ v, (ln iFive v).toNat ≤ 15 := fun v => by have := ln_fit iFive_good.fit v; omega
  unfold tokB
  split
  · rw [mkB_length]; have := l1 t.1.toNat; simp only; omega
  · rename_i h0
    have h' := h.resolve_left h0
    have a1 := lmk_ok t.2.1.toNat (by omega)
    have a2 := bmk_ok t.2.2.toNat (by omega)
    have a3 := l1 (lmk t.2.1.toNat).1
    have a4 := l2 (bmk t.2.2.toNat).1
    rw [List.length_append, mkB_length, mkB_length]
    omega
theorem fxB_len {ts : List M.Tk} (hr : M.Rt ts) (i : Nat) (hi : i ≤ ts.length) : (fxB (ts.take i)).length ≤ 3 + 48 * i := by
  induction i with
  | zero => simp [fxB]
  | succ i ih =>
    rw [M.tk_take_snoc (by omega), fxB_snoc, List.length_append]
    have h1 := ih (by omega)
    have h2 := hr i (by omega)
    have h3 := tokB_len (t := M.tk ts i) (by rcases h2 with h | h; exact .inl h.1; exact .inr ⟨h.2.1, h.2.2.1, h.2.2.2.1, h.2.2.2.2.1⟩)
    omega
theorem owns_nums {w : World} {base : Nat} {v : Value} {X : List Int} (h : Owns w base v X) : ∃ a c, v = .slice a X.length c ∧ Nums w a X := by
  obtain ⟨a, c, rfl, _⟩ := h.form
  refine ⟨a, c, rfl, ?_⟩
  rcases (owns_ints h).1 with h | ⟨b, off, _, _, hbw, ha, hc⟩
  · exact .inl h
  · exact .inr ⟨b, off, hbw, ha, hc⟩
/-- Behind the last append: the bytes. -/
theorem fx_end {w2 w4 w6 : World} {v5 v6 : Value} {X Z ST : List Int} {c : Nat} (hA : Owns w4 w2.heap.size v5 X) (hB : Below w2.heap.size w2 w4) (h6 : w6.ownsRow w2.heap.size 3 1 v6 (X.length + 7) (X.map (Value.int .i64) ++ (rowL c 7).map (Value.int .i64))) (g6 : w4.grownBy w6 v5.ownBlock) (hall : X ++ rowL c 7 = Z) (hbin : Bin Z) (hst : bytesL Z ((Z.length + 7) / 8) = ST) (hl : Z.length ≤ 1000000000) :
    Below w2.heap.size w2 w6 ∧ Calls Tryz.prog 38 #[v6] w6 fun e w' => ∃ a' c', e = .returned (.slice a' ST.length c') ∧ OwnsB w' w6.heap.size (.slice a' ST.length c') ST ∧ Below w6.heap.size w6 w' := by
  have ho : Owns w6 w2.heap.size v6 Z := by
    subst hall
    unfold Owns
    rw [List.length_append, rowL_length, List.map_append]
    exact h6
  have hk := Kept.of_grown g6
  have hb : Below w2.heap.size w2 w6 := hB.trans (hk.below hB.size (fun x hx e => by have := (ownsRow_lt hA e.symm).1; omega))
  refine ⟨hb, ?_⟩
  obtain ⟨a6, c6, rfl, hn⟩ := owns_nums ho
  refine (bytes_any a6 c6 Z w6 hn hbin (by omega)).mono ?_
  rintro e w' ⟨v, rfl, o, b⟩
  rw [hst] at o
  obtain ⟨a', c', rfl⟩ := own_form o
  exact ⟨a', c', rfl, o, b⟩
/-- A row appended, then laid further. -/
theorem fx_lay1 {w4 : World} {base g4 c6 nn c k : Nat} {X : List Int} {x e : Int} (h : w4.ownsRow base 3 1 (.slice (some ⟨g4, 0, none⟩) (X.length + nn) c6) (X.length + nn) (X.map (Value.int .i64) ++ (rowL c nn).map (Value.int .i64))) (hx : x = e) (hk : k ≤ 24) (hl : X.length + nn ≤ 1000000000) :
    Calls Tryz.prog 36 #[.slice (some ⟨g4, 0, none⟩) (X.length + nn) c6, .int .i64 x, .int .i64 (k : Int)] w4 fun y w' => ∃ v', y = .returned v' ∧ Owns w' w4.heap.size v' (X ++ rowL c nn ++ bitsN e k) ∧ Below w4.heap.size w4 w' := by
  subst hx
  have ho : Owns w4 base (.slice (some ⟨g4, 0, none⟩) (X.length + nn) c6) (X ++ rowL c nn) := by
    unfold Owns
    rw [List.length_append, rowL_length, List.map_append]
    exact h
  exact lay_yes base _ _ x k w4 ho hk (by rw [List.length_append, rowL_length]; omega)
theorem fx_lay2 {w2 w5 w6 : World} {v5 v6 : Value} {q k : Nat} {Y : List Int} {x e : Int} (hA : Owns w5 w2.heap.size v5 Y) (hB : Below w2.heap.size w2 w5) (h6 : w6.ownsRow w2.heap.size 3 1 v6 (Y.length + 5) (Y.map (Value.int .i64) ++ (rowL q 5).map (Value.int .i64))) (g6 : w5.grownBy w6 v5.ownBlock) (hx : x = e) (hk : k ≤ 24) (hl : Y.length ≤ 1000000000) :
    Below w2.heap.size w2 w6 ∧ Calls Tryz.prog 36 #[v6, .int .i64 x, .int .i64 (k : Int)] w6 fun y w' => ∃ v', y = .returned v' ∧ Owns w' w6.heap.size v' (Y ++ rowL q 5 ++ bitsN e k) ∧ Below w6.heap.size w6 w' := by
  subst hx
  have ho : Owns w6 w2.heap.size v6 (Y ++ rowL q 5) := by
    unfold Owns
    rw [List.length_append, rowL_length, List.map_append]
    exact h6
  have hk' := Kept.of_grown g6
  exact ⟨hB.trans (hk'.below hB.size (fun x hx e => by have := (ownsRow_lt hA e.symm).1; omega)), lay_yes _ _ _ x k w6 ho hk (by rw [List.length_append, rowL_length]; omega)⟩
set_option maxHeartbeats 1000000 in
theorem q8Fixed_c (w : World) (ta : Option Addr) (ct : Nat) (ts : List M.Tk) (hI : M.Toks w ta ts) (hr : M.Rt ts) (h8 : M.Bt ts) (hl : ts.length ≤ 1000000) :
    Calls Tryz.prog 15 #[.slice ta ts.length ct] w fun e w' => ∃ a' c', e = .returned (.slice a' (dataL (blB 1 true [] iFix iFive ts)).length c') ∧ OwnsB w' w.heap.size (.slice a' (dataL (blB 1 true [] iFix iFive ts)).length c') (dataL (blB 1 true [] iFix iFive ts)) ∧ Below w.heap.size w w' := by
  have HT := hide hI
  have HRT := hide hr
  have H8 := hide h8
  have HF := hide (fx_fixed w)
  obtain ⟨i0, hi0, hz0, hz1', hz2'⟩ := info_parts Tryz.info3
  have HC : Hid (∀ (w1 : World) (a3 : Option Addr) (c3 : Nat), Ints 0 w1.heap.size w1 a3 iFix → Calls Tryz.prog 33 #[.slice a3 288 c3] w1 fun e w' => e = .returned (.slice (some ⟨w1.heap.size, 0, none⟩) 288 288) ∧ w' = w1.alloc (.cells (valA (codesL iFix)) 3)) := fx_codes
  obtain ⟨CO, hCO⟩ : ∃ CO, codesL iFix = CO := ⟨_, rfl⟩
  obtain ⟨FX, hFX⟩ : ∃ FX, iFix = FX := ⟨_, rfl⟩
  obtain ⟨ST, hST⟩ : ∃ ST, dataL (blB 1 true [] iFix iFive ts) = ST := ⟨_, rfl⟩
  have HCO := hide hCO
  have HFX := hide hFX
  have HST := hide hST
  rw [hST]
  rw [hCO, hFX] at HC
  rw [hFX] at HF
  clear hI hr h8 hCO hFX hST
  go_enter Tryz.func15, Tryz.ntmps15
  go_upto_region 3 with (first
    | (go_at_call 32; refine HF.out.mono ?_; rintro e w1 ⟨a3, c3, rfl, i1, b1⟩; have I3 := hide i1; have B1 := hide b1; have H1 := hide (HC.out w1 a3 c3 i1); clear i1 b1 HF HC)
    | (go_at_call 33; refine H1.out.mono ?_; rintro e w2 ⟨rfl, hw2⟩; have HW2 := hide hw2; clear hw2 H1))
  have i3' : Ints 0 w1.heap.size w1 a3 iFix := by rw [HFX.out]; exact I3.out
  have hw2' : w2 = w1.alloc (.cells (valA (codesL iFix)) 3) := by rw [HCO.out]; exact HW2.out
  obtain ⟨b3, f3, rfl, hb3, hcl⟩ := fx_cells i3' hw2'
  have HCL := hide hcl
  have hb2 : Below w1.heap.size w1 w2 := by rw [HW2.out]; exact (Below.refl _ w1).alloc (Nat.le_refl _) _
  have hs2 : w1.heap.size + 1 ≤ w2.heap.size := by rw [HW2.out]; simp
  have HB2 := hide (B1.out.trans (hb2.mono B1.out.size))
  have HL0 : Hid (Owns (w2.alloc (.cells #[.int .i64 1, .int .i64 1, .int .i64 0] 3)) w2.heap.size (.slice (some ⟨w2.heap.size, 0, none⟩) 3 3) (fxB [])) := hide (by
    have := World.ownsRow_lit (e := 3) (size := 1) (base := w2.heap.size) w2 #[.int .i64 1, .int .i64 1, .int .i64 0] 3 (Nat.le_refl _) (by unfold maxLen; omega) rfl
    simpa [Owns, fxB] using this)
  have HB3 : Hid (Below w2.heap.size w2 (w2.alloc (.cells #[.int .i64 1, .int .i64 1, .int .i64 0] 3))) := (Below.refl _ w2).alloc (Nat.le_refl _) _
  clear hcl hb2 I3 B1 HW2 HCO i3' hw2'
  go_wp2_with fail
  generalize w2.alloc (.cells #[.int .i64 1, .int .i64 1, .int .i64 0] 3) = w3 at HL0 HB3 ⊢
  go_loopg [5, 6] ts.length (fun gk v5 v6 wx => ∃ (i : Nat) (a5 : Option Addr) (c5 : Nat), i + gk = ts.length ∧ v6 = .int .i64 i ∧ v5 = .slice a5 (fxB (ts.take i)).length c5 ∧ Hid (Owns wx w2.heap.size v5 (fxB (ts.take i)) ∧ Below w2.heap.size w2 wx))
  case atStart => exact ⟨0, some ⟨w2.heap.size, 0, none⟩, 3, by omega, rfl, rfl, HL0.out, HB3.out⟩
  case round =>
    obtain ⟨i, a5, c5, hig, rfl, rfl, HS⟩ := hrel
    cases gk with
    | zero =>
      obtain rfl : i = ts.length := by omega
      rw [List.take_length] at HS ⊢
      obtain ⟨n, _, _, _, hc, _, hco⟩ := HCL.out wr HS.out.2 256 (by omega)
      obtain ⟨c, hcd⟩ : ∃ c, cd iFix 256 = c := ⟨_, rfl⟩
      have hall := fxB_all ts
      have hbin : Bin (blB 1 true [] iFix iFive ts) := bin_bl (.inl ⟨rfl, rfl⟩)
      have hst : bytesL (blB 1 true [] iFix iFive ts) (((blB 1 true [] iFix iFive ts).length + 7) / 8) = ST := HST.out
      rw [hcd] at hc hco hall
      obtain ⟨X, hX⟩ : ∃ X, fxB ts = X := ⟨_, rfl⟩
      obtain ⟨Z, hZ⟩ : ∃ Z, blB 1 true [] iFix iFive ts = Z := ⟨_, rfl⟩
      rw [hX] at HS hall ⊢
      rw [hZ] at hall hbin hst
      have hXl : X.length ≤ 100000000 := by
        have := fxB_len HRT.out ts.length (Nat.le_refl _)
        rw [List.take_length, hX] at this
        omega
      have hZl : Z.length ≤ 1000000000 := by rw [← hall, List.length_append, rowL_length]; omega
      have HALL := hide hall
      have HBIN := hide hbin
      have HSTB := hide hst
      have hlt : ¬ (ts.length : Int) < (ts.length : Int) := by omega
      clear hX hZ hall hbin hst hcd HST HT HL0 HB3
      have HA : Hid (Owns (wr.alloc (.cells (valA (rowL c 7)) 3)) w2.heap.size (.slice a5 X.length c5) X) := World.ownsRow.alloc HS.out.1 _
      have HBA : Hid (Below w2.heap.size w2 (wr.alloc (.cells (valA (rowL c 7)) 3))) := HS.out.2.alloc HS.out.2.size _
      have hNews : Hid (∀ j u, ((rowL c 7).map (Value.int .i64))[j]? = some u → (wr.alloc (.cells (valA (rowL c 7)) 3)).cell? ((⟨wr.heap.size, 0, none⟩ : Addr).add j) = some u) := row_cells wr _
      have hrl : Hid (((rowL c 7).map (Value.int .i64)).length = 7 * 1) := hide (by simp [rowL_length])
      clear HCL
      go_wp2_with (first
        | (go_at_call 34; refine (refRow_c c 7 _ (by omega) (by omega)).mono ?_; rintro e w5 ⟨rfl, rfl⟩)
        | (at_builtin; refine wpList_append_own _ rfl (.tmp 104) (.tmp 108) 32 rfl w2.heap.size 3 i0 (.int .i64 0) 1 8 Tryz.underlying32 hi0 hz0 hz1' hz2' rfl (by decide) _ X.length (X.map (Value.int .i64)) (by rfl) HA.out ⟨wr.heap.size, 0, none⟩ 7 7 ((rowL c 7).map (Value.int .i64)) (by rfl) hrl.out hNews.out (ints_one _) (by unfold maxLen; omega) (by omega) HBA.out.size ?_; intro v6 w6 h6 g6 _; have HE6 := hide (fx_end HA.out HBA.out h6 g6 HALL.out HBIN.out HSTB.out hZl); clear h6 g6)
        | (go_at_call 38; refine HE6.out.2.mono ?_; rintro e w7 ⟨a7, c7, rfl, o7, b7⟩; have O7 := hide o7; have B6 := hide (HB2.out.trans (HE6.out.1.mono HB2.out.size)); have B7 := hide (B6.out.trans (b7.mono B6.out.size)); clear o7 b7 HE6))
      go_ret
      exact ⟨a7, c7, rfl, OwnsB.low O7.out B6.out.size, B7.out⟩
    | succ g1 =>
      have hlt : (i : Int) < (ts.length : Int) := by omega
      obtain ⟨b, off, rfl, hbl, c0, c1, c2⟩ := HT.out.three (HB2.out.trans (HS.out.2.mono HB2.out.size)) (i := i) (by omega)
      obtain ⟨t, ht⟩ : ∃ t, M.tk ts i = t := ⟨_, rfl⟩
      have HTK := hide ht
      have hok := HRT.out i (by omega)
      have hby := H8.out i
      have HN : Hid (fxB (ts.take (i + 1)) = fxB (ts.take i) ++ tokB iFix iFive t) := by rw [M.tk_take_snoc (by omega), fxB_snoc, ht]; exact rfl
      rw [ht] at c0 c1 c2 hok hby
      obtain ⟨Bb, L, K⟩ := t
      simp only at c0 c1 c2 hby
      obtain ⟨X, hX⟩ : ∃ X, fxB (ts.take i) = X := ⟨_, rfl⟩
      rw [hX] at HS HN ⊢
      have hXl : X.length ≤ 100000000 := by
        have := fxB_len HRT.out i (by omega)
        rw [hX] at this
        omega
      have HTC : Hid (∀ W, Below w2.heap.size w2 W → W.cell? ⟨b, off + i * 3 + 1, none⟩ = some (.int .i64 L) ∧ W.cell? ⟨b, off + i * 3 + 2, none⟩ = some (.int .i64 K)) := fun W hW => by
        obtain ⟨b', off', e', _, _, d1, d2⟩ := HT.out.three (HB2.out.trans (hW.mono HB2.out.size)) (i := i) (by omega)
        simp only [Option.some.injEq, Addr.mk.injEq, and_true] at e'
        obtain ⟨rfl, rfl⟩ := e'
        rw [HTK.out] at d1 d2
        exact ⟨d1, d2⟩
      clear ht hX HTK HL0 HB3 HT
      by_cases h0 : L = 0
      · subst h0
        obtain ⟨v, rfl⟩ := Int.eq_ofNat_of_zero_le hby.1
        obtain ⟨n, hn, hn1, hn15, hc, hcs, hco⟩ := HCL.out wr HS.out.2 v (by omega)
        obtain ⟨c, hcd⟩ : ∃ c, cd iFix v = c := ⟨_, rfl⟩
        rw [hcd] at hc hco
        have HE : Hid (tokB iFix iFive ((v : Int), 0, K) = rowL c n) := hide (by rw [fxB_byte rfl]; simp only [Int.toNat_natCast]; rw [hcd, hn])
        rw [HE.out] at HN
        have hws := HS.out.2.size
        have hv : (v : Int) < 288 := by omega
        have hv0 : (0 : Int) ≤ (v : Int) := by omega
        have hfar : ∀ (o1 : Obj) (w4 : World), ((wr.alloc o1).drew).grownBy w4 (Value.slice a5 X.length c5).ownBlock → w4.cell? ⟨w1.heap.size, v, none⟩ = some (.int .i64 (c : Int)) ∧ w4.cell? ⟨b3, f3 + v, none⟩ = some (.int .i64 (n : Int)) := fun o1 w4 hgr => by
          have hk := Kept.of_grown hgr
          have hW : Below wr.heap.size wr ((wr.alloc o1).drew) := ((Below.refl _ wr).alloc (Nat.le_refl _) _).drew
          have hz := hW.size
          have hap : ∀ x, x < w2.heap.size → ¬ some x = (Value.slice a5 X.length c5).ownBlock := fun x hx e => by have := (ownsRow_lt HS.out.1 e.symm).1; omega
          refine ⟨?_, ?_⟩
          · exact (hk.cell (p := ⟨w1.heap.size, v, none⟩) (by show w1.heap.size < _; omega) (hap _ (by show w1.heap.size < _; omega))).trans ((hW.cell (p := ⟨w1.heap.size, v, none⟩) (by show w1.heap.size < _; omega)).trans hco)
          · exact (hk.cell (p := ⟨b3, f3 + v, none⟩) (by show b3 < _; omega) (hap _ (by show b3 < _; omega))).trans ((hW.cell (p := ⟨b3, f3 + v, none⟩) (by show b3 < _; omega)).trans hcs)
        clear hn hcd HE
        go_upto_region 9 with fail
        have hOW : ∀ o1 : Obj, ((wr.alloc o1).drew).ownsRow w2.heap.size 3 1 (.slice a5 X.length c5) X.length (X.map (Value.int .i64)) := fun o1 => (World.ownsRow.alloc HS.out.1 o1).drew
        have hNews : ∀ j u, ((rowL c n).map (Value.int .i64))[j]? = some u → ((wr.alloc (.cells (valA (rowL c n)) 3)).drew).cell? ((⟨wr.heap.size, 0, none⟩ : Addr).add j) = some u := row_cells wr _
        have hrl : ((rowL c n).map (Value.int .i64)).length = n * 1 := by simp [rowL_length]
        go_region_held3 (fun w' => w'.cell? ⟨w1.heap.size, v, none⟩ = some (.int .i64 (c : Int)) ∧ w'.cell? ⟨b3, f3 + v, none⟩ = some (.int .i64 (n : Int))) (first | exact hfar _ _ HGR.out | go_keep | assumption) (first
          | (go_at_call 34; refine (refRow_c c n _ hn15 (by omega)).mono ?_; rintro e w5 ⟨rfl, rfl⟩)
          | (refine step_append_lies _ (by rfl) _ _ 32 (by rfl) w2.heap.size 3 i0 (.int .i64 0) 1 8 Tryz.underlying32 hi0 hz0 hz1' hz2' rfl (by omega) _ X.length (X.map (Value.int .i64)) (by rfl) (hOW _) ⟨wr.heap.size, 0, none⟩ n n ((rowL c n).map (Value.int .i64)) (by rfl) hrl hNews (ints_one _) (by omega) (by unfold maxLen; omega) (by omega) (by simp; omega) (wr.heap.size + 1) (by simp) ?_; intro g4 c6 w4 hown' hgrow hat hlt4; have HO4 := hide hown'; have HGR := hide hgrow; clear hown' hgrow hat hlt4))
        go_wp2
        go_roundg g1
        case measure => omega
        case rel =>
          refine ⟨i + 1, some ⟨g4, 0, none⟩, c6, by omega, by go_num, ?_, ?_⟩
          · rw [HN.out, List.length_append, rowL_length]
          · rw [HN.out]
            refine ⟨?_, ?_⟩
            · have h := HO4.out
              unfold Owns
              rw [List.length_append, rowL_length, List.map_append]
              exact h
            · have hk := Kept.of_grown HGR.out
              have hW : Below w2.heap.size w2 ((wr.alloc (.cells (valA (rowL c n)) 3)).drew) := (HS.out.2.alloc HS.out.2.size _).drew
              exact hW.trans (hk.below hW.size (fun x hx e => by have := (ownsRow_lt HS.out.1 e.symm).1; omega))
      · rcases hok with hbad | ⟨-, hL3, hL258, hK1, hK2, -⟩
        · exact absurd hbad.1 h0
        simp only at hL3 hL258 hK1 hK2
        obtain ⟨n, rfl⟩ := Int.eq_ofNat_of_zero_le (show 0 ≤ L by omega)
        obtain ⟨d, rfl⟩ := Int.eq_ofNat_of_zero_le (show 0 ≤ K by omega)
        have k1 := lmk_ok n (by omega)
        have k2 := bmk_ok d (by omega)
        have HE : Hid (tokB iFix iFive (Bb, (n : Int), (d : Int)) = rowL (cd iFix (lmk n).1) (ln iFix (lmk n).1).toNat ++ bitsN ((lmk n).2.1 : Int) (lmk n).2.2 ++ rowL (bmk d).1 5 ++ bitsN ((bmk d).2.1 : Int) (bmk d).2.2) := hide (by
          have := fxB_run (t := (Bb, (n : Int), (d : Int))) h0 (by simp only [Int.toNat_natCast]; omega)
          simpa only [Int.toNat_natCast] using this)
        have HQ1 : Hid (∀ W, Calls Tryz.prog 19 #[.int .i64 (n : Int)] W fun x w' => x = .returned (.int .i64 ((lmk n).1 : Int)) ∧ W = w') := fun W => (q8Long_c n W (by omega) (by omega)).mono fun _ _ h => ⟨h.1, h.2.symm⟩
        have HQ2 : Hid (∀ W, Calls Tryz.prog 35 #[.int .i64 ((lmk n).1 : Int)] W fun x w' => x = .returned (.tuple #[.int .i64 (iLb (lmk n).1 : Int), .int .i64 ((lmk n).2.2 : Int)]) ∧ W = w') := fun W => (rLong_c _ W k1.1 k1.2.1).mono fun _ _ h => ⟨by rw [h.1, k1.2.2.1], h.2.symm⟩
        have HQ3 : Hid (∀ W, Calls Tryz.prog 20 #[.int .i64 (d : Int)] W fun x w' => x = .returned (.int .i64 ((bmk d).1 : Int)) ∧ W = w') := fun W => (q8Far_c d W (by omega) (by omega)).mono fun _ _ h => ⟨h.1, h.2.symm⟩
        have HQ4 : Hid (∀ W, Calls Tryz.prog 37 #[.int .i64 ((bmk d).1 : Int)] W fun x w' => x = .returned (.tuple #[.int .i64 (iDb (bmk d).1 : Int), .int .i64 ((bmk d).2.2 : Int)]) ∧ W = w') := fun W => (rFar_c _ W (by omega)).mono fun _ _ h => ⟨by rw [h.1, k2.2.1], h.2.symm⟩
        obtain ⟨nn, hn, hn1, hn15, hc, hcs, hco⟩ := HCL.out wr HS.out.2 (lmk n).1 (by omega)
        obtain ⟨c, hcd⟩ : ∃ c, cd iFix (lmk n).1 = c := ⟨_, rfl⟩
        rw [hcd] at hc hco
        rw [HE.out, hcd, hn] at HN
        obtain ⟨s, hs⟩ : ∃ s, (lmk n).1 = s := ⟨_, rfl⟩
        obtain ⟨e1, he1⟩ : ∃ s, (lmk n).2.1 = s := ⟨_, rfl⟩
        obtain ⟨x1, hx1⟩ : ∃ s, (lmk n).2.2 = s := ⟨_, rfl⟩
        obtain ⟨A, hA⟩ : ∃ s, iLb (lmk n).1 = s := ⟨_, rfl⟩
        obtain ⟨q, hq⟩ : ∃ s, (bmk d).1 = s := ⟨_, rfl⟩
        obtain ⟨e2, he2⟩ : ∃ s, (bmk d).2.1 = s := ⟨_, rfl⟩
        obtain ⟨x2, hx2⟩ : ∃ s, (bmk d).2.2 = s := ⟨_, rfl⟩
        obtain ⟨F, hF⟩ : ∃ s, iDb (bmk d).1 = s := ⟨_, rfl⟩
        obtain ⟨k11, k12, -, k13, -, k14⟩ := k1
        obtain ⟨k21, -, k22, -, k23⟩ := k2
        rw [hs] at HQ1 k11 k12 hcs hco
        rw [hs, hx1, ← hs, hA, hs] at HQ2
        rw [hq] at HQ3 k21
        rw [hq, hx2, ← hq, hF, hq] at HQ4
        rw [hA, he1] at k13
        rw [hx1] at k14
        rw [hF, he2] at k22
        rw [hx2] at k23
        rw [he1, hx1, hq, he2, hx2] at HN
        clear hs he1 hx1 hA hq he2 hx2 hF hcd HE hn HCL
        have hnb : ((n : Int) == 0) = false := by simp; omega
        have hws := HS.out.2.size
        have hs2 : (s : Int) < 288 := by omega
        have hs0 : (0 : Int) ≤ (s : Int) := by omega
        have hfar : ∀ (o1 : Obj) (w4 : World), ((wr.alloc o1).drew).grownBy w4 (Value.slice a5 X.length c5).ownBlock → w4.cell? ⟨w1.heap.size, s, none⟩ = some (.int .i64 (c : Int)) ∧ w4.cell? ⟨b3, f3 + s, none⟩ = some (.int .i64 (nn : Int)) := fun o1 w4 hgr => by
          have hk := Kept.of_grown hgr
          have hW : Below wr.heap.size wr ((wr.alloc o1).drew) := ((Below.refl _ wr).alloc (Nat.le_refl _) _).drew
          have hz := hW.size
          have hap : ∀ x, x < w2.heap.size → ¬ some x = (Value.slice a5 X.length c5).ownBlock := fun x hx e => by have := (ownsRow_lt HS.out.1 e.symm).1; omega
          refine ⟨?_, ?_⟩
          · exact (hk.cell (p := ⟨w1.heap.size, s, none⟩) (by show w1.heap.size < _; omega) (hap _ (by show w1.heap.size < _; omega))).trans ((hW.cell (p := ⟨w1.heap.size, s, none⟩) (by show w1.heap.size < _; omega)).trans hco)
          · exact (hk.cell (p := ⟨b3, f3 + s, none⟩) (by show b3 < _; omega) (hap _ (by show b3 < _; omega))).trans ((hW.cell (p := ⟨b3, f3 + s, none⟩) (by show b3 < _; omega)).trans hcs)
        go_upto_region 12 with (first
          | (go_at_call 19; refine (HQ1.out _).mono ?_; rintro e w5 ⟨rfl, rfl⟩; clear HQ1)
          | (go_at_call 35; refine (HQ2.out _).mono ?_; rintro e w5 ⟨rfl, rfl⟩; clear HQ2))
        have hOW : ∀ o1 : Obj, ((wr.alloc o1).drew).ownsRow w2.heap.size 3 1 (.slice a5 X.length c5) X.length (X.map (Value.int .i64)) := fun o1 => (World.ownsRow.alloc HS.out.1 o1).drew
        have hNews : ∀ j u, ((rowL c nn).map (Value.int .i64))[j]? = some u → ((wr.alloc (.cells (valA (rowL c nn)) 3)).drew).cell? ((⟨wr.heap.size, 0, none⟩ : Addr).add j) = some u := row_cells wr _
        have hrl : ((rowL c nn).map (Value.int .i64)).length = nn * 1 := by simp [rowL_length]
        go_region_held3 (fun w' => w'.cell? ⟨w1.heap.size, s, none⟩ = some (.int .i64 (c : Int)) ∧ w'.cell? ⟨b3, f3 + s, none⟩ = some (.int .i64 (nn : Int))) (first | exact hfar _ _ HGR.out | go_keep | assumption) (first
          | (go_at_call 34; refine (refRow_c c nn _ hn15 (by omega)).mono ?_; rintro e w5 ⟨rfl, rfl⟩)
          | (refine step_append_lies _ (by rfl) _ _ 32 (by rfl) w2.heap.size 3 i0 (.int .i64 0) 1 8 Tryz.underlying32 hi0 hz0 hz1' hz2' rfl (by omega) _ X.length (X.map (Value.int .i64)) (by rfl) (hOW _) ⟨wr.heap.size, 0, none⟩ nn nn ((rowL c nn).map (Value.int .i64)) (by rfl) hrl hNews (ints_one _) (by omega) (by unfold maxLen; omega) (by omega) (by simp; omega) (wr.heap.size + 1) (by simp) ?_; intro g4 c6 w4 hown' hgrow hat hlt4; have HO4 := hide hown'; have HGR := hide hgrow; clear hown' hgrow hat hlt4))
        have hB4 : Below w2.heap.size w2 w4 := by
          have hk := Kept.of_grown HGR.out
          have hW : Below w2.heap.size w2 ((wr.alloc (.cells (valA (rowL c nn)) 3)).drew) := (HS.out.2.alloc HS.out.2.size _).drew
          exact hW.trans (hk.below hW.size (fun x hx e => by have := (ownsRow_lt HS.out.1 e.symm).1; omega))
        have HL1 := hide (fx_lay1 (x := (n : Int) - (A : Int)) (e := (e1 : Int)) (k := x1) HO4.out (by omega) (by omega) (by omega))
        have B4 := hide hB4
        obtain ⟨t1, -⟩ := HTC.out w4 hB4
        clear hOW hNews hrl hfar HO4 HGR HS hB4 hco hcs c0 c1 c2 hws
        go_upto_region 14 with (go_at_call 36; refine HL1.out.mono ?_; rintro e w5 ⟨v5, rfl, o5, b5⟩; have O5 := hide (o5.low B4.out.size); have B5 := hide (B4.out.trans (b5.mono B4.out.size)); clear o5 b5 HL1)
        obtain ⟨-, t2⟩ := HTC.out w5 B5.out
        have hYl : (X ++ rowL c nn ++ bitsN (e1 : Int) x1).length ≤ 200000000 := by rw [List.length_append, List.length_append, rowL_length, bitsN_length]; omega
        have HNY : Hid (fxB (ts.take (i + 1)) = X ++ rowL c nn ++ bitsN (e1 : Int) x1 ++ rowL q 5 ++ bitsN (e2 : Int) x2) := hide (by rw [HN.out]; simp only [List.append_assoc])
        generalize X ++ rowL c nn ++ bitsN (e1 : Int) x1 = Y at O5 HNY hYl
        clear HN t1 B4
        go_upto_region 16 with (first
          | (go_at_call 20; refine (HQ3.out _).mono ?_; rintro e w6 ⟨rfl, rfl⟩; clear HQ3)
          | (go_at_call 37; refine (HQ4.out _).mono ?_; rintro e w6 ⟨rfl, rfl⟩; clear HQ4))
        have HA5 : Hid (Owns (w5.alloc (.cells (valA (rowL q 5)) 3)) w2.heap.size v5 Y) := World.ownsRow.alloc O5.out _
        have HBA5 : Hid (Below w2.heap.size w2 (w5.alloc (.cells (valA (rowL q 5)) 3))) := B5.out.alloc B5.out.size _
        have hNews5 : Hid (∀ j u, ((rowL q 5).map (Value.int .i64))[j]? = some u → (w5.alloc (.cells (valA (rowL q 5)) 3)).cell? ((⟨w5.heap.size, 0, none⟩ : Addr).add j) = some u) := row_cells w5 _
        have hrl5 : Hid (((rowL q 5).map (Value.int .i64)).length = 5 * 1) := hide (by simp [rowL_length])
        clear t2 O5 B5
        go_upto_region 17 with (first
          | (go_at_call 34; refine (refRow_c q 5 _ (by omega) (by omega)).mono ?_; rintro e w6 ⟨rfl, rfl⟩)
          | (at_builtin; refine wpList_append_own _ rfl (.tmp 90) (.tmp 92) 32 rfl w2.heap.size 3 i0 (.int .i64 0) 1 8 Tryz.underlying32 hi0 hz0 hz1' hz2' rfl (by decide) _ Y.length (Y.map (Value.int .i64)) (by rfl) HA5.out ⟨w5.heap.size, 0, none⟩ 5 5 ((rowL q 5).map (Value.int .i64)) (by rfl) hrl5.out hNews5.out (ints_one _) (by unfold maxLen; omega) (by omega) HBA5.out.size ?_; intro v6 w6 h6 g6 _; have HL2 := hide (fx_lay2 (x := (d : Int) - (F : Int)) (e := (e2 : Int)) (k := x2) HA5.out HBA5.out h6 g6 (by omega) (by omega) (by omega)); clear h6 g6))
        obtain ⟨-, t3⟩ := HTC.out w6 HL2.out.1
        clear HA5 HBA5 hNews5 hrl5
        generalize Y ++ rowL q 5 ++ bitsN (e2 : Int) x2 = V at HL2 HNY
        go_wp2_with (go_at_call 36; refine HL2.out.2.mono ?_; rintro e w8 ⟨v8, rfl, o8, b8⟩; obtain ⟨a8, c8, rfl, -⟩ := o8.form; have O8 := hide (o8.low HL2.out.1.size); have B8 := hide (HL2.out.1.trans (b8.mono HL2.out.1.size)); clear o8 b8 HL2)
        go_roundg g1
        case measure => omega
        case rel =>
          refine ⟨i + 1, a8, c8, by omega, by go_num, ?_, ?_⟩
          · rw [HNY.out]
          · rw [HNY.out]
            exact ⟨O8.out, B8.out⟩
end Go.Proofs.YtlakgbckopjelaaGreatDoor
