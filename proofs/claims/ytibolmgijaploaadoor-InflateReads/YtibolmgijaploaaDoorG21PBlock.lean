/- Several texts, laid together: PDyn, PBlock. -/
import Derived.Test.YtibolmgijaploaaDoorPLens
/- The stream's dynamicBlock: contract. -/
namespace Go.Proofs.YtibolmgijaploaaDoor
set_option maxRecDepth 100000
open Go Go.RowKit

theorem ints_take {w : World} {base g ac : Nat} {all : List Int} (h : Owns w base (.slice (some ⟨g, 0, none⟩) all.length ac) all) (k : Nat) : Ints 0 w.heap.size w (some ⟨g, 0, none⟩) (all.take k) := by
  by_cases h0 : (all.take k).length = 0
  · exact .inl h0
  · have hpos : 0 < all.length := by rw [List.length_take] at h0; omega
    obtain ⟨g', c9, hv9, _, hlt9⟩ := World.ownsRow.form h hpos
    simp at hv9
    obtain ⟨rfl, rfl⟩ := hv9
    refine .inr ⟨g, 0, Nat.zero_le _, hlt9, hlt9, rfl, fun i hi => ?_⟩
    have hi2 : i < all.length ∧ i < k := by simp at hi; omega
    rw [Nat.zero_add, World.ownsRow.cellAt h i (by omega)]
    simp [ln, List.getD, hi2]
theorem ints_drop {w : World} {base g ac : Nat} {all : List Int} (h : Owns w base (.slice (some ⟨g, 0, none⟩) all.length ac) all) (k : Nat) : Ints 0 w.heap.size w (some ⟨g, k, none⟩) (all.drop k) := by
  by_cases h0 : (all.drop k).length = 0
  · exact .inl h0
  · have hpos : 0 < all.length := by simp at h0; omega
    obtain ⟨g', c9, hv9, _, hlt9⟩ := World.ownsRow.form h hpos
    simp at hv9
    obtain ⟨rfl, rfl⟩ := hv9
    refine .inr ⟨g, k, Nat.zero_le _, hlt9, hlt9, rfl, fun i hi => ?_⟩
    have hi2 : k + i < all.length := by simp at hi; omega
    rw [World.ownsRow.cellAt h (k + i) (by omega)]
    simp [ln, List.getD, hi2]
theorem ints_if {w : World} {g k c : Nat} {L : List Int} (h : Ints 0 w.heap.size w (some ⟨g, k, none⟩) L) (hk : k < c) : Ints 0 w.heap.size w.drew (if c = k then some ⟨g, 0, none⟩ else some ⟨g, k, none⟩) L := by
  rw [if_neg (by omega)]; exact h
theorem mv_drew {bs br : Nat} {ov : Value} {w w3 w4 : World} (k : Kept (fun b => b = br) w w3) (b : Below w3.drew.heap.size w3.drew w4) : Kept (Mv bs br ov) w w4 :=
  Kept.trans (b := w3.drew) (Kept.drew (Mv.rd k)) (Kept.of_below b) (fun i hi e => by have := k.size; have e' : w3.heap.size ≤ i := e; omega)
theorem own_cap {w : World} {base g ac : Nat} {all : List Int} (h : Owns w base (.slice (some ⟨g, 0, none⟩) all.length ac) all) : all.length ≤ ac := by
  rcases h.2 with ⟨h', _⟩ | ⟨g', cap', cur, h', _, hg, hc, _⟩
  · simp at h'
  · simp at h'; omega

section
variable {B bs br : Nat} {a : Option Addr} {len cap : Nat} {zs : List Int} {m : Nat} {w w' : World} {p : Nat} {o : Option Addr} {oc : Nat} {fc : Value} {out : List Int}
set_option maxHeartbeats 8000000 in
theorem dynamic_c (h : SS B bs br a len cap zs m w p o oc fc out) (hf : FcAt w bs br (.slice o out.length oc) fc) (hT : Tab w) (hB : 0 < B) (hl8 : len * 8 ≤ 9223372036854775000) (hm : m ≤ 10000000) (ho : out.length ≤ m) :
    Calls Tryd.prog 26 #[.pointer (some ⟨bs, 0, none⟩)] w (BOk B bs br a len cap zs m w (.slice o out.length oc) (iThen (iHdr (ib zs) (len * 8) p) fun q sd => iDat sd.1 sd.2 (ib zs) (len * 8) m q out)) := by
  obtain ⟨R, hR⟩ : ∃ R, R = iThen (iHdr (ib zs) (len * 8) p) fun q sd => iDat sd.1 sd.2 (ib zs) (len * 8) m q out := ⟨_, rfl⟩
  rw [← hR]
  have HRR := hide hR
  have H0 := hide h
  have HF := hide hf
  have HT := hide hT
  have hC := counts_c h hl8
  have hbrw := lt_of_block h.rd
  have hbr0 : br ≠ 0 := by have := h.inb; omega
  have hH := iHdr_eq (ib zs) (len * 8) p
  clear h hf hT hR
  rcases h1 : iCnt (ib zs) (len * 8) p with e | ⟨q1, x, y, z⟩
  · rw [h1] at hC
    have HC := hide (hC.mono fun _ _ => COk.bad rfl)
    rw [iThen_of_err h1] at hH
    have HR := hide (HRR.out.trans (iThen_of_err hH))
    clear hC h1 hH HRR
    go_enter Tryd.func26, Tryd.ntmps26
    go_wp2_with (go_at_call 39; refine HC.out.mono ?_; rintro x w1 ⟨rfl, k1, e1, e2⟩; have K1 := hide k1; clear k1)
    go_ret
    exact DBad.block HR.out ⟨rfl, Mv.rd K1.out, e1, e2⟩
  obtain ⟨hx, hy, hz⟩ := iCnt_got (ib_le zs) h1
  rw [h1] at hC
  have HC := hide (hC.mono fun _ _ => COk.got rfl)
  rw [iThen_of_ok h1] at hH
  simp only at hx hy hz hH HC
  have hI := fun w1 (s : SS B bs br a len cap zs m w1 q1 o oc fc out) (t : Tab w1) => inner_c s t hB hl8 z ((z + 4 : Nat) : Int) (by omega) hz
  clear hC h1
  rcases h2 : iInn (ib zs) (len * 8) q1 z with e | ⟨q2, first⟩
  · rw [h2] at hI
    have HI := fun w1 s t => hide ((hI w1 s t).mono fun _ _ => IOk.bad rfl)
    rw [iThen_of_err h2] at hH
    have HR := hide (HRR.out.trans (iThen_of_err hH))
    clear hI h2 hH HRR
    go_enter Tryd.func26, Tryd.ntmps26
    go_wp2_with (first
      | (go_at_call 39; refine HC.out.mono ?_; rintro x w1 ⟨rfl, k1, r1, l1⟩; have K1 := hide k1; have S1 := hide (H0.out.move k1 r1 l1); clear k1 r1)
      | (go_at_call 40; refine (HI w1 S1.out (HT.out.kept K1.out (fun e => hbr0 e.symm))).out.mono ?_; rintro x w2 ⟨rfl, k2, e1, e2⟩; have K2 := hide (K1.out.trans k2 (fun _ _ e => e)); clear k2))
    go_ret
    exact DBad.block HR.out ⟨rfl, Mv.rd K2.out, e1, e2⟩
  have hfirst : check first false = 0 ∧ first.length = 19 := by
    unfold iInn at h2
    obtain ⟨q', f, h3, h4⟩ := iThen_ok h2
    have := iRd3_fit (ib_le zs) (first := List.replicate 19 0) (fun y hy => by rw [List.eq_of_mem_replicate hy]; decide) h3
    split at h4
    · cases h4
    · rename_i hck
      cases h4
      exact ⟨Decidable.not_not.1 hck, by rw [this.1]; simp⟩
  obtain ⟨hck, h19⟩ := hfirst
  have HG := hide (check_good hck)
  rw [h2] at hI
  have HI := fun w1 s t => hide ((hI w1 s t).mono fun _ _ => IOk.got rfl)
  rw [iThen_of_ok h2] at hH
  clear hI h2 hck
  obtain ⟨many, hmany⟩ : ∃ many, many = x + 258 + y := ⟨_, rfl⟩
  rw [← hmany] at hH
  obtain ⟨sy, hsy⟩ : ∃ sy, sy = x + 257 := ⟨_, rfl⟩
  obtain ⟨sb, hsb⟩ : ∃ sb, sb = y + 1 := ⟨_, rfl⟩
  obtain ⟨sn, hsn⟩ : ∃ sn, sn = z + 4 := ⟨_, rfl⟩
  unfold CGot at HC
  rw [← hsy, ← hsb, ← hsn] at HC
  rw [← hsn] at HI
  rw [← hsy] at hH
  have hmany2 : many = sy + sb := by omega
  have hsy1 : sy ≤ 286 := by omega
  have hsb1 : sb ≤ 30 := by omega
  have hsy0 : 257 ≤ sy := by omega
  have hsb0 : 1 ≤ sb := by omega
  clear hsy hsb hsn hx hy hz hmany
  have hL := fun w2 (s : SS B bs br a len cap zs m w2 q2 o oc fc out) lo hi bc gl gc vo N (hc : CodeAt lo hi w2 bc gl gc vo N first) hb => lengths_c s hl8 hc HG.out h19 hb many ((sy : Int) + (sb : Int)) (by omega) (by omega) (by omega)
  rcases h3 : iAll first many (ib zs) (len * 8) q2 with e | ⟨q3, all⟩
  · rw [h3] at hL
    have HL := fun w2 s lo hi bc gl gc vo N hc hb => hide ((hL w2 s lo hi bc gl gc vo N hc hb).mono fun _ _ => LOk.bad rfl)
    rw [iThen_of_err h3] at hH
    have HR := hide (HRR.out.trans (iThen_of_err hH))
    clear hL h3 hH HRR hmany2 h19
    go_enter Tryd.func26, Tryd.ntmps26
    go_wp2_with (first
      | (go_at_call 39; refine HC.out.mono ?_; rintro x w1 ⟨rfl, k1, r1, l1⟩; have K1 := hide k1; have S1 := hide (H0.out.move k1 r1 l1); clear k1 r1)
      | (go_at_call 40; refine (HI w1 S1.out (HT.out.kept K1.out (fun e => hbr0 e.symm))).out.mono ?_; rintro x w2 ⟨bc, rfl, k2, r2, l2, gl, gc, vo, N, c2⟩; have C2 := hide c2; have S2 := hide (S1.out.move k2 r2 l2); have K2 := hide (K1.out.trans k2 (fun _ _ e => e)); clear k2 r2 c2)
      | (go_at_call 41; refine (HL w2 S2.out _ _ bc gl gc vo N C2.out (.inl (lt_of_block S1.out.rd))).out.mono ?_; rintro x w3 ⟨rfl, k3, e1, e2⟩; have K3 := hide (K2.out.trans k3 (fun _ _ e => e)); clear k3))
    go_ret
    exact DBad.block HR.out ⟨rfl, Mv.rd K3.out, e1, e2⟩
  have hall : all.length = many := by
    have := iLens_got (first := first) (b := ib zs) (T := len * 8) (p := q2) (by omega : 0 < many) h3
    exact this.1
  rw [h3] at hL
  have HL := fun w2 s lo hi bc gl gc vo N hc hb => hide ((hL w2 s lo hi bc gl gc vo N hc hb).mono fun _ _ => LOk.got rfl)
  rw [iThen_of_ok h3] at hH
  clear hL h3 h19
  have hc256 : ∀ (wz : World) g ac base, Owns wz base (.slice (some ⟨g, 0, none⟩) all.length ac) all → wz.cell? ⟨g, 256, none⟩ = some (.int .i64 (ln all 256)) := fun wz g ac base hw => by
    rw [World.ownsRow.cellAt hw 256 (by omega)]
    simp [ln, List.getD, show 256 < all.length by omega]
  have HC256 := hide hc256
  have hsome : ∀ (wz : World) al ac base, Owns wz base (.slice al all.length ac) all → ∃ g, al = some ⟨g, 0, none⟩ := fun wz al ac base hw => by
    obtain ⟨g', c9, hv9, _, hlt9⟩ := World.ownsRow.form hw (by omega)
    simp at hv9
    exact ⟨g', hv9.1⟩
  have HSM := hide hsome
  have hal : (256 : Int) < (all.length : Int) := by omega
  by_cases h256 : ln all 256 = 0
  · rw [if_pos (.inl h256)] at hH
    have HR := hide (HRR.out.trans (iThen_of_err hH))
    rw [h256] at HC256
    clear hH HRR hmany2 hc256 hsome hall
    go_enter Tryd.func26, Tryd.ntmps26
    go_wp2_with (first
      | (go_at_call 39; refine HC.out.mono ?_; rintro x w1 ⟨rfl, k1, r1, l1⟩; have K1 := hide k1; have S1 := hide (H0.out.move k1 r1 l1); clear k1 r1)
      | (go_at_call 40; refine (HI w1 S1.out (HT.out.kept K1.out (fun e => hbr0 e.symm))).out.mono ?_; rintro x w2 ⟨bc, rfl, k2, r2, l2, gl, gc, vo, N, c2⟩; have C2 := hide c2; have S2 := hide (S1.out.move k2 r2 l2); have K2 := hide (K1.out.trans k2 (fun _ _ e => e)); clear k2 r2 c2)
      | (go_at_call 41; refine (HL w2 S2.out _ _ bc gl gc vo N C2.out (.inl (lt_of_block S1.out.rd))).out.mono ?_; rintro x w3 ⟨al, ac, rfl, l3⟩; obtain ⟨g, rfl⟩ := HSM.out _ _ _ _ l3.owns; have K3 := hide (K2.out.trans l3.kept (fun _ _ e => e)); have c256 := HC256.out _ _ _ _ l3.owns; clear l3))
    go_ret
    exact DBad.block HR.out ⟨rfl, Mv.rd K3.out, by decide, by decide⟩
  obtain ⟨S, hS⟩ : ∃ S, S = all.take (sy) := ⟨_, rfl⟩
  obtain ⟨D, hD⟩ : ∃ D, D = all.drop (sy) := ⟨_, rfl⟩
  have hSl : S.length = sy := by rw [hS]; simp; omega
  have hDl : D.length = all.length - (sy) := by rw [hD]; simp
  rw [← hS, ← hD] at hH
  have hST : ∀ (wz : World) g ac base, Owns wz base (.slice (some ⟨g, 0, none⟩) all.length ac) all → Ints 0 wz.heap.size wz (some ⟨g, 0, none⟩) S ∧ Ints 0 wz.heap.size wz (some ⟨g, sy, none⟩) D ∧ all.length ≤ ac := fun wz g ac base hw => ⟨by rw [hS]; exact ints_take hw _, by rw [hD]; exact ints_drop hw _, own_cap hw⟩
  have HST := hide hST
  clear hST hc256 hsome hS hD
  by_cases hck : ¬ check S true = 0 ∨ ¬ check D true = 0
  · rw [if_pos (.inr hck)] at hH
    have HR := hide (HRR.out.trans (iThen_of_err hH))
    have hM := fun B a a' cap cap' w3 => makeCodes_no B a a' cap cap' S D w3 hck
    rw [hSl, hDl] at hM
    have HM := fun B a a' cap cap' w3 h1 h2 => hide (hM B a a' cap cap' w3 h1 h2)
    have hxa : (sy : Int) ≤ (all.length : Int) := by omega
    have hxa0 : (0 : Int) ≤ (sy : Int) := by omega
    have hxL : sy < all.length := by omega
    clear hH HRR hck hM hmany2 hall
    go_enter Tryd.func26, Tryd.ntmps26
    go_wp2_with (first
      | (go_at_call 39; refine HC.out.mono ?_; rintro x w1 ⟨rfl, k1, r1, l1⟩; have K1 := hide k1; have S1 := hide (H0.out.move k1 r1 l1); clear k1 r1)
      | (go_at_call 40; refine (HI w1 S1.out (HT.out.kept K1.out (fun e => hbr0 e.symm))).out.mono ?_; rintro x w2 ⟨bc, rfl, k2, r2, l2, gl, gc, vo, N, c2⟩; have C2 := hide c2; have S2 := hide (S1.out.move k2 r2 l2); have K2 := hide (K1.out.trans k2 (fun _ _ e => e)); clear k2 r2 c2)
      | (go_at_call 41; refine (HL w2 S2.out _ _ bc gl gc vo N C2.out (.inl (lt_of_block S1.out.rd))).out.mono ?_; rintro x w3 ⟨al, ac, rfl, l3⟩; obtain ⟨g, rfl⟩ := HSM.out _ _ _ _ l3.owns; have K3 := hide (K2.out.trans l3.kept (fun _ _ e => e)); have c256 := HC256.out _ _ _ _ l3.owns; obtain ⟨i3, j3, hac⟩ := HST.out _ _ _ _ l3.owns; have I3 := hide i3; have J3 := hide (ints_if j3 (Nat.lt_of_lt_of_le hxL hac)); have hacL : (sy : Int) < (ac : Int) := (by omega); have hacI : (sy : Int) ≤ (ac : Int) := (by omega); have hacA : (all.length : Int) ≤ (ac : Int) := (by omega); clear l3 i3 j3 hac))
    go_region_held3 (fun _ => True) (trivial) (first
      | (go_at_call 35; refine (HM w3.heap.size (some ⟨g, 0, none⟩) (if ac = sy then some ⟨g, 0, none⟩ else some ⟨g, sy, none⟩) ac (ac - sy) w3.drew I3.out J3.out).out.mono ?_; rintro x w4 ⟨rfl, b4⟩; have B4 := hide b4; clear b4))
    go_wp2_with fail
    go_ret
    exact DBad.block HR.out ⟨rfl, mv_drew K3.out B4.out, by decide, by decide⟩
  · have hc1 : check S true = 0 := Decidable.not_not.1 fun e => hck (.inl e)
    have hc2 : check D true = 0 := Decidable.not_not.1 fun e => hck (.inr e)
    rw [if_neg (by rintro (e | e); exact h256 e; exact hck e)] at hH
    have HR := hide (HRR.out.trans (iThen_of_ok hH))
    have hM := fun B a a' cap cap' w3 => makeCodes_yes B a a' cap cap' S D w3 hc1 hc2
    have HG1 := hide (check_good hc1)
    have HG2 := hide (check_good hc2)
    have h31 : S.length ≤ 320 := by omega
    have h32 : D.length ≤ 320 := by omega
    have H31 := hide h31
    have H32 := hide h32
    rw [hSl, hDl] at hM
    have HM := fun B a a' cap cap' w3 h1 h2 => hide (hM B a a' cap cap' w3 h1 h2)
    have hxa : (sy : Int) ≤ (all.length : Int) := by omega
    have hxa0 : (0 : Int) ≤ (sy : Int) := by omega
    have hxL : sy < all.length := by omega
    clear hH HRR hck hM hmany2 hall hc1 hc2 hSl hDl h31 h32
    go_enter Tryd.func26, Tryd.ntmps26
    go_wp2_with (first
      | (go_at_call 39; refine HC.out.mono ?_; rintro x w1 ⟨rfl, k1, r1, l1⟩; have K1 := hide k1; have S1 := hide (H0.out.move k1 r1 l1); clear k1 r1)
      | (go_at_call 40; refine (HI w1 S1.out (HT.out.kept K1.out (fun e => hbr0 e.symm))).out.mono ?_; rintro x w2 ⟨bc, rfl, k2, r2, l2, gl, gc, vo, N, c2⟩; have C2 := hide c2; have S2 := hide (S1.out.move k2 r2 l2); have K2 := hide (K1.out.trans k2 (fun _ _ e => e)); clear k2 r2 c2)
      | (go_at_call 41; refine (HL w2 S2.out _ _ bc gl gc vo N C2.out (.inl (lt_of_block S1.out.rd))).out.mono ?_; rintro x w3 ⟨al, ac, rfl, l3⟩; obtain ⟨g, rfl⟩ := HSM.out _ _ _ _ l3.owns; have K3 := hide (K2.out.trans l3.kept (fun _ _ e => e)); have c256 := HC256.out _ _ _ _ l3.owns; have S3 := hide (S2.out.move l3.kept l3.rd l3.pl); obtain ⟨i3, j3, hac⟩ := HST.out _ _ _ _ l3.owns; have I3 := hide i3; have J3 := hide (ints_if j3 (Nat.lt_of_lt_of_le hxL hac)); have hacL : (sy : Int) < (ac : Int) := (by omega); have hacI : (sy : Int) ≤ (ac : Int) := (by omega); have hacA : (all.length : Int) ≤ (ac : Int) := (by omega); clear l3 i3 j3 hac))
    go_region_held3 (fun _ => True) (trivial) (first
      | (go_at_call 35; refine (HM w3.heap.size (some ⟨g, 0, none⟩) (if ac = sy then some ⟨g, 0, none⟩ else some ⟨g, sy, none⟩) ac (ac - sy) w3.drew I3.out J3.out).out.mono ?_; rintro x w4 ⟨bk, rfl, cx, b4⟩; have CX := hide cx; have B4 := hide b4; clear cx b4))
    have S3' : Hid (SS B bs br a len cap zs m w3.drew q3 o oc fc out) := S3.out.drew 1
    have S4 := hide (S3'.out.stay B4.out)
    have D9 := CX.out
    obtain ⟨bc1, gl1, gc1, vo1, N1, bc2, gl2, gc2, vo2, N2, D9⟩ := D9
    have HD := hide (data_c S4.out hl8 hm ho D9 (Aw.new S3'.out (Nat.le_refl _)) HG1.out H31.out HG2.out H32.out)
    have K4 : Hid (Kept (Mv bs br (.slice o out.length oc)) w w4) := mv_drew K3.out B4.out
    clear D9 CX
    go_wp2_with (go_at_call 38; refine HD.out.mono ?_; intro x w5 h5; obtain ⟨ev, rfl⟩ := h5.form; have H5 := hide h5; clear h5)
    go_ret
    have hb := (H5.out.block (HF.out.on K4.out (fun g hg _ => hg))).after K4.out (fun g hg _ => hg)
    rw [HR.out]
    exact hb
end
end Go.Proofs.YtibolmgijaploaaDoor

/- The stream's block, and Inflate: contracts. -/
namespace Go.Proofs.YtibolmgijaploaaDoor
set_option maxRecDepth 100000
open Go Go.RowKit

theorem BOk.form {B bs br : Nat} {a : Option Addr} {len cap : Nat} {zs : List Int} {m : Nat} {w w' : World} {ov : Value} {r : Except Int (Nat × List Int)} {x : Ending} (h : BOk B bs br a len cap zs m w ov r x w') : ∃ ev : Int, x = .returned (.int .i64 ev) := by
  obtain ⟨_, ⟨_, _, _, _, _, _, rfl, _⟩ | ⟨e, _, _, _, rfl⟩⟩ := h
  · exact ⟨0, rfl⟩
  · exact ⟨e, rfl⟩

/-- Where a stream stands between blocks. -/
structure BS (B bs br : Nat) (a : Option Addr) (len cap : Nat) (zs : List Int) (m : Nat) (w : World) (p : Nat) (out : List Int) (o : Option Addr) (oc : Nat) (fc : Value) : Prop where
  ss : SS B bs br a len cap zs m w p o oc fc out
  fcs : FcAt w bs br (.slice o out.length oc) fc
  tab : Tab w
/-- What block answers. -/
def KGot (B bs br : Nat) (a : Option Addr) (len cap : Nat) (zs : List Int) (m : Nat) (w : World) (q : Nat) (more : Bool) (out : List Int) (x : Ending) (w' : World) : Prop :=
  x = .returned (.tuple #[.bool (!more), .int .i64 0]) ∧ Below B w w' ∧ ∃ o oc fc, BS B bs br a len cap zs m w' q out o oc fc
def KBad (B : Nat) (w : World) (e : Int) (x : Ending) (w' : World) : Prop := (∃ b : Bool, x = .returned (.tuple #[.bool b, .int .i64 e])) ∧ Below B w w' ∧ 60 ≤ e ∧ e ≤ 65
def KOk (B bs br : Nat) (a : Option Addr) (len cap : Nat) (zs : List Int) (m : Nat) (w : World) (r : Except Int (Nat × (Bool × List Int))) (x : Ending) (w' : World) : Prop := (∃ q c o, r = .ok (q, (c, o)) ∧ KGot B bs br a len cap zs m w q c o x w') ∨ (∃ e, r = .error e ∧ KBad B w e x w')
section
variable {B bs br : Nat} {a : Option Addr} {len cap : Nat} {zs : List Int} {m : Nat} {w w' : World} {p : Nat} {o : Option Addr} {oc : Nat} {fc : Value} {out : List Int}
theorem KOk.got {r : Except Int (Nat × (Bool × List Int))} {x : Ending} {q : Nat} {c : Bool} {f : List Int} (hr : r = .ok (q, (c, f))) (h : KOk B bs br a len cap zs m w r x w') : KGot B bs br a len cap zs m w q c f x w' := by
  subst hr
  obtain ⟨q', c', o', e, h⟩ | ⟨e, h', _⟩ := h
  · cases e; exact h
  · cases h'
theorem KOk.bad {r : Except Int (Nat × (Bool × List Int))} {x : Ending} {e : Int} (hr : r = .error e) (h : KOk B bs br a len cap zs m w r x w') : KBad B w e x w' := by
  subst hr
  obtain ⟨q', c', o', e, h⟩ | ⟨e, h', h⟩ := h
  · cases e
  · cases h'; exact h
/-- Nothing ahead of B is written. -/
theorem SS.low (h : SS B bs br a len cap zs m w p o oc fc out) (k : Kept (Mv bs br (.slice o out.length oc)) w w') : Below B w w' := by
  have hb := lt_of_block h.s0
  have hi := h.inb
  refine k.below (by omega) fun i hi' hM => ?_
  rcases hM with e | e | e
  · omega
  · omega
  · have := (ownsRow_lt h.owns e).1; omega
theorem BS.rd (h : BS B bs br a len cap zs m w p out o oc fc) (hB : 0 < B) (k : Kept (fun b => b = br) w w') {q : Nat} (hr : w'.heap[br]? = some (.cells (rA a len cap q) 54 (0, 0))) (hq : q ≤ len * 8) : BS B bs br a len cap zs m w' q out o oc fc :=
  ⟨h.ss.move k hr hq, h.fcs.on (Mv.rd k) (fun _ hg _ => hg), h.tab.kept k (by have := h.ss.inb; omega)⟩
theorem BS.kept (h : BS B bs br a len cap zs m w p out o oc fc) (hB : 0 < B) (k : Kept (Mv bs br (.slice o out.length oc)) w w') : Below B w w' ∧ Tab w' := ⟨h.ss.low k, h.tab.below (h.ss.low k) hB⟩

/-- What a kind of block asks for, whichever it is. -/
theorem kind_walk (hS : BS B bs br a len cap zs m w p out o oc fc) (hB : 0 < B) {w2 : World} {q2 l : Nat} (hS2 : BS B bs br a len cap zs m w2 q2 out o oc fc) (hk : Kept (fun b => b = br) w w2) (hl : l ≤ 1) {r : Except Int (Nat × List Int)} {ev : Int} {w3 : World} (h3 : BOk B bs br a len cap zs m w2 (.slice o out.length oc) r (.returned (.int .i64 ev)) w3) :
    KOk B bs br a len cap zs m w (iThen r fun q o => .ok (q, (decide (l = 0), o))) (.returned (.tuple #[.bool (decide ((l : Int) = 1)), .int .i64 ev])) w3 := by
  have hb1 : Below B w w2 := hS.ss.low (Mv.rd hk)
  obtain ⟨k, ⟨q', out', o', oc', fc', e, hx, h1, h2, h4⟩ | ⟨e, e1, e2, e', hx⟩⟩ := h3
  · obtain ⟨hb, ht⟩ := hS2.kept hB k
    cases hx
    subst e
    refine .inl ⟨q', decide (l = 0), out', rfl, ?_, hb1.trans hb, o', oc', fc', h1, h2, ht⟩
    have : decide ((l : Int) = 1) = !decide (l = 0) := by
      rcases (show l = 0 ∨ l = 1 by omega) with rfl | rfl <;> rfl
    rw [this]
  · obtain ⟨hb, ht⟩ := hS2.kept hB k
    cases hx
    subst e'
    exact .inr ⟨ev, rfl, ⟨_, rfl⟩, hb1.trans hb, e1, e2⟩

set_option maxHeartbeats 4000000 in
theorem block_c (h : BS B bs br a len cap zs m w p out o oc fc) (hB : 0 < B) (hl : len ≤ 140737488351232) (hcap : len ≤ cap) (hm : m ≤ 10000000) (ho : out.length ≤ m) :
    Calls Tryd.prog 13 #[.pointer (some ⟨bs, 0, none⟩)] w (KOk B bs br a len cap zs m w (iBlk (ib zs) (len * 8) m p out)) := by
  have hl8 : len * 8 ≤ 9223372036854775000 := by omega
  obtain ⟨R, hR⟩ : ∃ R, R = iBlk (ib zs) (len * 8) m p out := ⟨_, rfl⟩
  rw [← hR]
  have H0 := hide h
  have hA := number_c h.ss hl8 1 1 rfl (by decide)
  have hN := fun w1 q (s : SS B bs br a len cap zs m w1 q o oc fc out) => number_c s hl8 2 2 rfl (by decide)
  clear h
  unfold iBlk at hR
  rcases h1 : iTk (ib zs) (len * 8) p 1 with e | ⟨q1, l⟩
  · rw [h1] at hA
    have HA := hide (hA.mono fun _ _ => NOk.bad rfl)
    rw [iThen_of_err h1] at hR
    have HR := hide hR
    clear hA hN hR h1
    go_enter Tryd.func13, Tryd.ntmps13
    go_wp2_with (go_at_call 23; refine HA.out.mono ?_; rintro x w1 ⟨rfl, k1, e1, e2⟩; have K1 := hide k1; clear k1)
    go_ret2
    exact .inr ⟨e, HR.out, ⟨false, rfl⟩, H0.out.ss.low (Mv.rd K1.out), e1, e2⟩
  have hl1 := iTk_lt (ib_le zs) h1
  rw [h1] at hA
  have HA := hide (hA.mono fun _ _ => NOk.got rfl)
  rw [iThen_of_ok h1] at hR
  have hN1 := fun w1 s => hN w1 q1 s
  clear hA hN h1
  rcases h2 : iTk (ib zs) (len * 8) q1 2 with e | ⟨q2, kind⟩
  · rw [h2] at hN1
    have HN := fun w1 s => hide ((hN1 w1 s).mono fun _ _ => NOk.bad rfl)
    rw [iThen_of_err h2] at hR
    have HR := hide hR
    clear hN1 hR h2
    go_enter Tryd.func13, Tryd.ntmps13
    go_wp2_with (first
      | (go_at_call 23; refine HA.out.mono ?_; rintro x w1 ⟨rfl, k1, r1, l1⟩; have K1 := hide k1; have S1 := hide (H0.out.rd hB k1 r1 l1); clear k1 r1 HA)
      | (go_at_call 23; refine (HN w1 S1.out.ss).out.mono ?_; rintro x w2 ⟨rfl, k2, e1, e2⟩; have K2 := hide (K1.out.trans k2 (fun _ _ e => e)); clear k2))
    go_ret2
    exact .inr ⟨e, HR.out, ⟨false, rfl⟩, H0.out.ss.low (Mv.rd K2.out), e1, e2⟩
  have hk4 := iTk_lt (ib_le zs) h2
  rw [h2] at hN1
  have HN := fun w1 s => hide ((hN1 w1 s).mono fun _ _ => NOk.got rfl)
  rw [iThen_of_ok h2] at hR
  have HR := hide hR
  have hl1' : l ≤ 1 := by omega
  unfold iKind at HR
  clear hN1 hR h2
  rcases (show kind = 0 ∨ kind = 1 ∨ kind = 2 ∨ kind = 3 by omega) with rfl | rfl | rfl | rfl
  · rw [if_pos rfl] at HR
    go_enter Tryd.func13, Tryd.ntmps13
    go_wp2_with (first
      | (go_at_call 23; refine HA.out.mono ?_; rintro x w1 ⟨rfl, k1, r1, l1⟩; have K1 := hide k1; have S1 := hide (H0.out.rd hB k1 r1 l1); clear k1 r1 HA)
      | (go_at_call 23; refine (HN w1 S1.out.ss).out.mono ?_; rintro x w2 ⟨rfl, k2, r2, l2⟩; have K2 := hide (K1.out.trans k2 (fun _ _ e => e)); have S2 := hide (S1.out.rd hB k2 r2 l2); clear k2 r2 HN)
      | (go_at_call 24; refine (stored_c S2.out.ss hl hcap hm ho).mono ?_; intro x w3 h3; obtain ⟨ev, rfl⟩ := h3.form; have H3 := hide (h3.block S2.out.fcs); clear h3))
    go_ret2
    rw [HR.out]
    exact kind_walk H0.out hB S2.out K2.out hl1' H3.out
  · rw [if_neg (by decide), if_pos rfl] at HR
    go_enter Tryd.func13, Tryd.ntmps13
    go_wp2_with (first
      | (go_at_call 23; refine HA.out.mono ?_; rintro x w1 ⟨rfl, k1, r1, l1⟩; have K1 := hide k1; have S1 := hide (H0.out.rd hB k1 r1 l1); clear k1 r1 HA)
      | (go_at_call 23; refine (HN w1 S1.out.ss).out.mono ?_; rintro x w2 ⟨rfl, k2, r2, l2⟩; have K2 := hide (K1.out.trans k2 (fun _ _ e => e)); have S2 := hide (S1.out.rd hB k2 r2 l2); clear k2 r2 HN)
      | (go_at_call 25; refine (fixed_c S2.out.ss S2.out.fcs hl8 hm ho).mono ?_; intro x w3 h3; obtain ⟨ev, rfl⟩ := h3.form; have H3 := hide h3; clear h3))
    go_ret2
    rw [HR.out]
    exact kind_walk H0.out hB S2.out K2.out hl1' H3.out
  · rw [if_neg (by decide), if_neg (by decide), if_pos rfl] at HR
    go_enter Tryd.func13, Tryd.ntmps13
    go_wp2_with (first
      | (go_at_call 23; refine HA.out.mono ?_; rintro x w1 ⟨rfl, k1, r1, l1⟩; have K1 := hide k1; have S1 := hide (H0.out.rd hB k1 r1 l1); clear k1 r1 HA)
      | (go_at_call 23; refine (HN w1 S1.out.ss).out.mono ?_; rintro x w2 ⟨rfl, k2, r2, l2⟩; have K2 := hide (K1.out.trans k2 (fun _ _ e => e)); have S2 := hide (S1.out.rd hB k2 r2 l2); clear k2 r2 HN)
      | (go_at_call 26; refine (dynamic_c S2.out.ss S2.out.fcs S2.out.tab hB hl8 hm ho).mono ?_; intro x w3 h3; obtain ⟨ev, rfl⟩ := h3.form; have H3 := hide h3; clear h3))
    go_ret2
    rw [HR.out]
    exact kind_walk H0.out hB S2.out K2.out hl1' H3.out
  · rw [if_neg (by decide), if_neg (by decide), if_neg (by decide)] at HR
    go_enter Tryd.func13, Tryd.ntmps13
    go_wp2_with (first
      | (go_at_call 23; refine HA.out.mono ?_; rintro x w1 ⟨rfl, k1, r1, l1⟩; have K1 := hide k1; have S1 := hide (H0.out.rd hB k1 r1 l1); clear k1 r1 HA)
      | (go_at_call 23; refine (HN w1 S1.out.ss).out.mono ?_; rintro x w2 ⟨rfl, k2, r2, l2⟩; have K2 := hide (K1.out.trans k2 (fun _ _ e => e)); clear k2 r2 HN))
    go_ret2
    exact .inr ⟨61, HR.out, ⟨_, rfl⟩, H0.out.ss.low (Mv.rd K2.out), by decide, by decide⟩
end
end Go.Proofs.YtibolmgijaploaaDoor
