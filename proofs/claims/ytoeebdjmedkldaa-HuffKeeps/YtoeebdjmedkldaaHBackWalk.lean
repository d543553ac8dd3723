/- HuffBack's walk. -/
import Derived.Test.YtoeebdjmedkldaaHBackMath
import Derived.Test.YtoeebdjmedkldaaHReadsWalk
namespace Go.Proofs.Ytoeebdjmedkldaa
open Go Go.RowKit

theorem len_at (base bw : Nat) (v : Value) (bs : List Int) (t : Int) (m X : Nat) (hX : X = bs.length * 8 + m) (w : World) (h : Wr base bw w v bs t m) (hb : bs.length ≤ 1000000000000) :
    Calls Try.prog 19 #[.pointer (some ⟨bw, 0, none⟩)] w fun e w' => e = .returned (.int .i64 (X : Int)) ∧ ∃ q, w' = w.drewN q := by
  rw [hX]; exact len_any base bw v bs t m w h hb
theorem wr_drewN {base bw : Nat} {w : World} {v : Value} {bs : List Int} {t : Int} {m : Nat} (h : Wr base bw w v bs t m) (q : Nat) : Wr base bw (w.drewN q) v bs t m :=
  ⟨h.block, ownsRow_kept h.owns (Kept.drewN (Kept.refl (fun _ => False) w) q) (fun _ _ e => e), h.t0, h.t1, h.m1, h.bytes⟩
theorem wr_same {base bw : Nat} {w w' : World} {v : Value} {bs : List Int} {t : Int} {m : Nat} (e : w'.heap = w.heap) (h : Wr base bw w v bs t m) : Wr base bw w' v bs t m := by
  refine ⟨by rw [e]; exact h.block, ?_, h.t0, h.t1, h.m1, h.bytes⟩
  obtain ⟨h1, h2⟩ := h.owns
  refine ⟨h1, ?_⟩
  rcases h2 with h2 | ⟨g, c, cur, hv, hg, hh, r⟩
  · exact Or.inl h2
  · exact Or.inr ⟨g, c, cur, hv, hg, by rw [e]; exact hh, r⟩
theorem own_text {w : World} {B g cap : Nat} {zs : List Int} (h : w.ownsRow B 5 1 (.slice (some ⟨g, 0, none⟩) zs.length cap) zs.length (zs.map (Value.int .u8))) (hb : ∀ i, 0 ≤ zs.getD i 0 ∧ zs.getD i 0 ≤ 255) : Text w.heap.size w (some ⟨g, 0, none⟩) zs.length zs := by
  refine ⟨rfl, hb, ?_⟩
  by_cases h0 : zs.length = 0
  · exact .inl h0
  · right
    refine ⟨g, 0, (ownsRow_lt h rfl).2, rfl, fun i hi => ?_⟩
    have := h.cellAt i (by omega)
    rw [Nat.zero_add, this]
    simp [List.getD, hi]

theorem bk_push {ls : List Int} {w2 w4 w6 : World} {bw i s n q : Nat} {vO v' v6 : Value} {O bs' : List Int} {t' : Int} {m' : Nat} {o : Obj} (hw : Wr w2.heap.size bw w4 v' bs' t' m') (hr : rowOf bs' ++ bitsN t' m' = bo ls O ++ rowL (cd ls s) n) (ho : Owns w4 w2.heap.size vO O) (hk : Kept (fun k => k = bw) w2 w4) (hh : Have ls O) (hbw : bw < w2.heap.size)
    (hs : s < ls.length) (hl : ln ls s = (n : Int)) (hn : 1 ≤ n) (hi : O.length ≤ i) (hown : w6.ownsRow w2.heap.size 3 1 v6 (O.length + 1) (O.map (Value.int .i64) ++ [.int .i64 (s : Int)])) (hgrow : ((w4.drewN q).alloc o).grownBy w6 vO.ownBlock) :
    Bk ls w2 w6 bw v6 v' (O ++ [(s : Int)]) bs' t' m' (i + 1) := by
  have kg : Kept (fun k => vO.ownBlock = some k) w4 w6 := (((Kept.refl (fun k => vO.ownBlock = some k) w4).drewN q).alloc _ o).trans (Kept.of_grown hgrow) (fun k _ e => e.symm)
  refine ⟨⟨kg.heap hw.block (fun e => ?_), ownsRow_kept hw.owns kg (fun g hg e => ?_), hw.t0, hw.t1, hw.m1, hw.bytes⟩, ?_, Owns.push hown, hh.push hs hl hn, by simp; omega, hk.trans kg (fun k hk' e => ?_)⟩
  · have := (ownsRow_lt ho e).1; omega
  · exact rows_apart hw ho g e hg
  · rw [hr, bo_push ls O s n hl]
  · have := (ownsRow_lt ho e).1; omega

set_option maxHeartbeats 4000000 in
set_option maxRecDepth 100000 in
theorem back_walk (B BS : Nat) (a as_ : Option Addr) (cap caps : Nat) (ls ss : List Int) (lone : Bool) (w : World) (hB : B ≤ w.heap.size) (hi : Ints 0 B w a ls) (hsy : Ints 0 BS w as_ ss) :
    Calls Try.prog 6 #[.slice a ls.length cap, .slice as_ ss.length caps, .bool lone] w fun e w' => e = .returned (.bool true) ∧ Below w.heap.size w w' := by
  obtain ⟨i0, hi0, hz0, hz1', hz2'⟩ := info_parts Try.info3
  by_cases hc : check ls lone = 0
  · have HH : Hid (Calls Try.prog 9 #[.slice a ls.length cap, .bool lone] w fun e w' => ∃ bc gl gc vo N, e = .returned (.tuple #[.pointer (some ⟨bc, 0, none⟩), .int .i64 0]) ∧ CodeAt w.heap.size w'.heap.size w' bc gl gc vo N ls ∧ Below w.heap.size w w') := make_ok B a cap ls lone w hc hi
    by_cases hlen : ss.length ≤ 1000
    · have h3 := (check_ok hc).1
      have HG : Hid (Good ls) := check_good hc
      have HI : Hid (Ints 0 B w a ls) := hi
      have HSy : Hid (Ints 0 BS w as_ ss) := hsy
      clear hc hi hsy
      go_enter Try.func6, Try.ntmps6
      go_wp2_with (first
        | (go_at_call 9; refine HH.out.mono ?_; rintro e w1 ⟨bc, gl, gc, vo, N, rfl, c1, b1⟩; have B1 : Hid (Below w.heap.size w w1) := b1; have C1 : Hid (CodeAt w.heap.size w1.heap.size w1 bc gl gc vo N ls) := c1; clear b1 c1)
        | (go_at_call 18; refine (newWriter_any _).mono ?_; rintro e wn ⟨rfl, rfl⟩))
      have hbw2 : Below w1.heap.size w1 (w1.alloc (.cells #[.slice none 0 0, .int .i64 0, .int .i64 0] 68)) := (Below.refl _ w1).alloc (Nat.le_refl _) _
      have BK0 : Hid (Bk ls (w1.alloc (.cells #[.slice none 0 0, .int .i64 0, .int .i64 0] 68)) (w1.alloc (.cells #[.slice none 0 0, .int .i64 0, .int .i64 0] 68)) w1.heap.size (.slice none 0 0) (.slice none 0 0) [] [] 0 0 0) :=
        ⟨⟨heap_new _ _, World.ownsRow_nil _ _ _ _, by decide, by decide, by decide, by simp⟩, by simp [rowOf, bitsN, bo], Owns.nil _ _, fun x hx => by simp at hx, by simp, Kept.refl _ _⟩
      have C2 : Hid (CodeAt w.heap.size w1.heap.size (w1.alloc (.cells #[.slice none 0 0, .int .i64 0, .int .i64 0] 68)) bc gl gc vo N ls) := C1.out.below hbw2 (Nat.le_refl _)
      have B2 : Hid (Below w.heap.size w (w1.alloc (.cells #[.slice none 0 0, .int .i64 0, .int .i64 0] 68))) := B1.out.trans (hbw2.mono B1.out.size)
      have hs1 := B1.out.size
      have hbr : w1.heap.size < (w1.alloc (.cells #[.slice none 0 0, .int .i64 0, .int .i64 0] 68)).heap.size := by simp
      have HLo : Hid (Longest ls N) := C1.out.long
      clear hbw2 C1 B1
      generalize w1.alloc (.cells #[.slice none 0 0, .int .i64 0, .int .i64 0] 68) = w2 at BK0 C2 B2 hbr ⊢
      generalize w1.heap.size = bw at BK0 C2 hs1 hbr ⊢
      have IL2 : Hid (Ints 0 B w2 a ls) := HI.out.stay B2.out
      have IS2 : Hid (Ints 0 BS w2 as_ ss) := HSy.out.stay B2.out
      go_loopw [10, 49] (fun v10 v49 wr => ∃ (i : Nat) (v : Value) (O bs : List Int) (t : Int) (m : Nat), i ≤ ss.length ∧ v49 = .int .i64 i ∧ Bk ls w2 wr bw v10 v O bs t m i) (fun _ v49 _ => ss.length - (intOf v49).toNat)
      case atStart => exact ⟨0, _, [], [], 0, 0, by omega, rfl, BK0.out⟩
      case round =>
        obtain ⟨i, v, O, bs, t, m, hi, rfl, hbk⟩ := hrel
        clear BK0
        have HBK : Hid (Bk ls w2 wr bw u10 v O bs t m i) := hbk
        have hbo := bo_length_le ls O HG.out.fit
        have hlw := hbk.lenw
        have hOi := hbk.len
        have hbsl : bs.length ≤ 2000 := by omega
        have KR : Hid (Kept (fun k => k = bw) w2 wr) := hbk.kept
        have BR : Hid (Below w.heap.size w wr) := B2.out.trans (hbk.kept.below (by have := B2.out.size; omega) (fun k hk e => by omega))
        have hsr := hbk.kept.size
        obtain ⟨a10, c10, rfl⟩ := own_form hbk.owns
        obtain ⟨X1, hX1⟩ : ∃ X1, X1 = bs.length * 8 + m := ⟨_, rfl⟩
        have HX1 : Hid (X1 = bs.length * 8 + m) := hX1
        have hX1b : X1 ≤ 15000 := by omega
        clear hbk hX1
        by_cases hlt : i < ss.length
        · obtain ⟨bS, offS, _, _, hbS, rfl, hcS⟩ := (HSy.out.stay BR.out).resolve_left (by omega)
          have hcx := hcS i hlt
          clear hcS
          obtain ⟨x, hx⟩ : ∃ x, x = ln ss i := ⟨_, rfl⟩
          rw [← hx] at hcx
          clear hx
          have CR : ∀ q, Hid (CodeAt w.heap.size bw (wr.drewN q) bc gl gc vo N ls) := fun q => C2.out.kept (KR.out.drewN q) (fun k h1 h2 e => by omega)
          by_cases his : 0 ≤ x ∧ x < (ls.length : Int) ∧ 0 < ln ls x.toNat
          · obtain ⟨h0, h1, h2⟩ := his
            obtain ⟨s, rfl⟩ := Int.eq_ofNat_of_zero_le h0
            rw [Int.toNat_natCast] at h2
            have hs : s < ls.length := by omega
            obtain ⟨n, hn⟩ := Int.eq_ofNat_of_zero_le (show 0 ≤ ln ls s by omega)
            obtain ⟨bl, offl, _, hblB, hbl, rfl, hcl⟩ := (HI.out.stay BR.out).resolve_left (by omega)
            have hcs := hcl s hs
            have HLN : Hid (ln ls s = (n : Int)) := hn
            have hn1 : 1 ≤ n := by omega
            have hn15 : n ≤ 15 := by have := ln_fit HG.out.fit s; omega
            rw [hn] at hcs
            have i1 : (0 : Int) ≤ (s : Int) := by omega
            have i2 : (s : Int) < (ls.length : Int) := by omega
            have i3 : 0 < n := by omega
            clear hcl hn h0 h1 h2
            go_upto_region 10 with (go_at_call 19; refine (len_at w2.heap.size bw v bs t m X1 HX1.out _ HBK.out.wri (by omega)).mono ?_; rintro e w3 ⟨rfl, q, rfl⟩)
            go_cut [14] (fun v14 wx => v14 = .bool true ∧ wx = wr.drewN q)
            case' first =>
              go_wp2
              go_meet
              exact ⟨by simp, rfl⟩
            case' rest =>
              obtain ⟨rfl, rfl⟩ := hcut
            go_upto_region 13 with (first
              | (go_at_call 20; refine (put_yes w.heap.size bw bc gl gc bw w2.heap.size vo v N ls bs t m s n _ (CR q).out HG.out hs HLN.out hn1 (wr_drewN HBK.out.wri q) (by omega) (by simpa using hsr) (Nat.le_refl _) (by omega)).mono ?_; rintro e w4 ⟨rfl, v', bs', t', m', hwr', hrow', hk', hob'⟩))
            obtain ⟨OO, ROW, KK⟩ := (HBK.out.drewN q).put hbr hrow' hk'
            have HX2 : Hid (X1 + n = bs'.length * 8 + m') := by
              have := congrArg List.length hrow'
              simp only [List.length_append, rowOf_length, bitsN_length, rowL_length] at this
              show _ = _
              rw [HX1.out]; omega
            have hcs4 : w4.cell? ⟨bl, offl + s, none⟩ = some (.int .i64 (n : Int)) := (hk'.cell (p := ⟨bl, offl + s, none⟩) (by exact hbl) (fun e => by
              rcases e with e | e
              · have e' : bl = bw := e
                omega
              · have e' : w2.heap.size ≤ bl := (ownsRow_lt HBK.out.wri.owns e).1
                omega)).trans hcs
            have hbs2 : bs'.length ≤ 1000000 := by have := HX2.out; omega
            have HWR : Hid (Wr w2.heap.size bw w4 v' bs' t' m') := hwr'
            have HOO : Hid (Owns w4 w2.heap.size (.slice a10 O.length c10) O) := OO
            have HROW : Hid (rowOf bs' ++ bitsN t' m' = bo ls O ++ rowL (cd ls s) n) := ROW
            have HKK : Hid (Kept (fun k => k = bw) w2 w4) := KK
            clear OO ROW KK hrow' hk' hob'
            go_wp2
            go_quiet ((go_at_call 19; exact Calls.quiet_of (len_at w2.heap.size bw v' bs' t' m' (X1 + n) HX2.out _ (wr_same (w := w4) rfl HWR.out) (by omega))))
            go_wp2_with (at_builtin; refine wpList_append_own _ rfl _ _ 22 rfl w2.heap.size 3 i0 (.int .i64 0) 1 8 Try.underlying22 hi0 hz0 hz1' hz2' rfl (by decide) _ _ _ rfl (World.ownsRow.alloc (ownsRow_kept HOO.out (Kept.drewN (Kept.refl (fun _ => False) w4) _) (fun _ _ e => e)) _) ⟨_, 0, none⟩ 1 1 [.int .i64 (s : Int)] rfl rfl (one_int' _ _ _ (by simp)) (by intro u hu; simp at hu; subst hu; rfl) (by unfold maxLen; omega) (by omega) (by have := HKK.out.size; simp; omega) ?_; intro v6 w6 hown6 hgrow6 hnil6; obtain ⟨a6, c6, rfl⟩ := own_form hown6)
            go_roundw
            case rel => exact ⟨i + 1, v', O ++ [(s : Int)], bs', t', m', by omega, by go_num, bk_push HWR.out HROW.out HOO.out HKK.out HBK.out.have_ hbr hs HLN.out hn1 hOi hown6 hgrow6⟩
            case measure => simp [intOf]; omega
          · have hno : x < 0 ∨ (ls.length : Int) ≤ x ∨ ln ls x.toNat = 0 := by
              have := ln_fit HG.out.fit x.toNat; omega
            have HNO : Hid (x < 0 ∨ (ls.length : Int) ≤ x ∨ ln ls x.toNat = 0) := hno
            clear his
            go_upto_region 10 with (go_at_call 19; refine (len_at w2.heap.size bw v bs t m X1 HX1.out _ HBK.out.wri (by omega)).mono ?_; rintro e w3 ⟨rfl, q, rfl⟩)
            go_cut [14] (fun v14 wx => v14 = .bool false ∧ wx = wr.drewN q)
            case first =>
              by_cases h0 : x < 0
              · go_wp2
                go_meet
                case rel => exact ⟨rfl, rfl⟩
              · by_cases h1 : (ls.length : Int) ≤ x
                · have h0' : 0 ≤ x := by omega
                  have d1 : decide (x < (ls.length : Int)) = false := by simp; omega
                  go_wp2
                  go_meet
                  case rel => exact ⟨by simp, rfl⟩
                · obtain ⟨s, rfl⟩ := Int.eq_ofNat_of_zero_le (show 0 ≤ x by omega)
                  have hs : s < ls.length := by omega
                  obtain ⟨bl, offl, _, _, hbl, rfl, hcl⟩ := (HI.out.stay BR.out).resolve_left (by omega)
                  have hcs := hcl s hs
                  have hz : ln ls s = 0 := by rcases HNO.out with q | q | q; omega; omega; simpa using q
                  rw [hz] at hcs
                  have i1 : (0 : Int) ≤ (s : Int) := by omega
                  have i2 : (s : Int) < (ls.length : Int) := by omega
                  clear hcl hz h0 h1 hno
                  go_wp2
                  go_meet
                  case rel => exact ⟨rfl, rfl⟩
            case rest =>
              obtain ⟨rfl, rfl⟩ := hcut
              have HBQ : Hid (Bk ls w2 (wr.drewN q) bw (.slice a10 O.length c10) v O bs t m i) := HBK.out.drewN q
              have CQ := CR q
              clear CR HBK
              generalize wr.drewN q = wq at HBQ CQ ⊢
              go_upto_region 13 with (go_at_call 20; refine (put_no w.heap.size bw bc gl gc bw vo N ls x _ CQ.out HNO.out).mono ?_; rintro e w4 ⟨rfl, hw4⟩; obtain rfl : wq = w4 := hw4.symm)
              go_quiet ((go_at_call 19; exact Calls.quiet_of (len_at w2.heap.size bw v bs t m X1 HX1.out _ (wr_same (w := wq) rfl HBQ.out.wri) (by omega))))
              go_wp2
              go_roundw
              case rel =>
                have hb := HBQ.out.drewN nq
                exact ⟨i + 1, v, O, bs, t, m, by omega, by go_num, ⟨hb.wri, hb.row, hb.owns, hb.have_, by omega, hb.kept⟩⟩
              case measure => simp [intOf]; omega
        · obtain rfl : i = ss.length := by omega
          have hne : (bo ls O).length ≤ 15000 := by omega
          have HD : Hid (dataOf bs t m = dataL (bo ls O)) := by
            have h := HBK.out.wri
            show _ = _
            rw [← HBK.out.row, dataL_row bs t m h.bytes h.t0 h.t1 h.m1]
          have HDA : Hid (Calls Try.prog 21 #[.pointer (some ⟨bw, 0, none⟩)] wr fun e w' => ∃ g cap, e = .returned (.slice (some ⟨g, 0, none⟩) (dataOf bs t m).length cap) ∧ w'.ownsRow wr.heap.size 5 1 (.slice (some ⟨g, 0, none⟩) (dataOf bs t m).length cap) (dataOf bs t m).length ((dataOf bs t m).map (Value.int .u8)) ∧ Below wr.heap.size wr w') := data_any w2.heap.size bw v bs t m wr HBK.out.wri (by omega)
          have HOW : Hid (Owns wr w2.heap.size (.slice a10 O.length c10) O) := HBK.out.owns
          have HHV : Hid (Have ls O) := HBK.out.have_
          generalize dataOf bs t m = Z at HD HDA
          have HZ : Hid (∀ i, 0 ≤ Z.getD i 0 ∧ Z.getD i 0 ≤ 255) := by rw [HD.out]; exact dataL_bytes _ (bin_bo ls O)
          have hZl : (bo ls O).length ≤ Z.length * 8 := by rw [HD.out, dataL_length]; omega
          have hZu : Z.length ≤ 2000 := by rw [HD.out, dataL_length]; omega
          have hOu : O.length ≤ 1000 := by omega
          clear HBK HX1 hX1b
          go_wp2_with (first
            | (go_at_call 21; refine HDA.out.mono ?_; rintro e w5 ⟨g, cap5, rfl, hown5, b5⟩; have D5 : Hid (w5.ownsRow wr.heap.size 5 1 (.slice (some ⟨g, 0, none⟩) Z.length cap5) Z.length (Z.map (Value.int .u8))) := hown5; have B5 : Hid (Below wr.heap.size wr w5) := b5; clear hown5 b5)
            | (go_at_call 15; refine (newReader_any _ _ _ _).mono ?_; rintro e wn ⟨rfl, rfl⟩))
          have T5 : Text w5.heap.size w5 (some ⟨g, 0, none⟩) Z.length Z := own_text D5.out HZ.out
          have b6 : Below w5.heap.size w5 (w5.alloc (.cells #[.slice (some ⟨g, 0, none⟩) Z.length cap5, .int .i64 0] 60)) := (Below.refl _ w5).alloc (Nat.le_refl _) _
          have T6 : Hid (Text w5.heap.size (w5.alloc (.cells #[.slice (some ⟨g, 0, none⟩) Z.length cap5, .int .i64 0] 60)) (some ⟨g, 0, none⟩) Z.length Z) := T5.kept (Kept.of_below b6) (fun b hb e => by omega)
          have b46 : Below wr.heap.size wr (w5.alloc (.cells #[.slice (some ⟨g, 0, none⟩) Z.length cap5, .int .i64 0] 60)) := B5.out.trans (b6.mono B5.out.size)
          have B6 : Hid (Below w.heap.size w (w5.alloc (.cells #[.slice (some ⟨g, 0, none⟩) Z.length cap5, .int .i64 0] 60))) := BR.out.trans (b46.mono BR.out.size)
          have O6 : Hid (Owns (w5.alloc (.cells #[.slice (some ⟨g, 0, none⟩) Z.length cap5, .int .i64 0] 60)) w2.heap.size (.slice a10 O.length c10) O) := HOW.out.kept (Kept.of_below b46) (fun k hk e => by have := (ownsRow_lt HOW.out hk).2; omega)
          have OLT : Hid (∀ k, (Value.slice a10 O.length c10).ownBlock = some k → k < w5.heap.size) := fun k hk => by have := (ownsRow_lt HOW.out hk).2; have := B5.out.size; omega
          have C6 : Hid (CodeAt w.heap.size bw (w5.alloc (.cells #[.slice (some ⟨g, 0, none⟩) Z.length cap5, .int .i64 0] 60)) bc gl gc vo N ls) := (C2.out.kept KR.out (fun k h1 h2 e => by omega)).below b46 (by omega)
          have R6 : Hid ((w5.alloc (.cells #[.slice (some ⟨g, 0, none⟩) Z.length cap5, .int .i64 0] 60)).heap[w5.heap.size]? = some (.cells #[.slice (some ⟨g, 0, none⟩) Z.length cap5, .int .i64 ((bp ls O 0 : Nat) : Int)] 60 (0, 0))) := heap_new _ _
          have hbr5 : bw ≤ w5.heap.size := by have := B5.out.size; omega
          have hw5 : w.heap.size ≤ w5.heap.size := by omega
          have hbr6 : w5.heap.size < (w5.alloc (.cells #[.slice (some ⟨g, 0, none⟩) Z.length cap5, .int .i64 0] 60)).heap.size := by simp
          clear T5 b6 b46 D5 B5
          generalize w5.alloc (.cells #[.slice (some ⟨g, 0, none⟩) Z.length cap5, .int .i64 0] 60) = w6 at T6 B6 O6 C6 R6 hbr6 ⊢
          generalize w5.heap.size = br at T6 R6 OLT hbr5 hw5 hbr6 ⊢
          go_loopw [111] (fun v111 wx => ∃ j : Nat, j ≤ O.length ∧ v111 = .int .i64 j ∧ wx.heap[br]? = some (.cells #[.slice (some ⟨g, 0, none⟩) Z.length cap5, .int .i64 ((bp ls O j : Nat) : Int)] 60 (0, 0)) ∧ Kept (fun k => k = br) w6 wx) (fun v111 _ => O.length - (intOf v111).toNat)
          case atStart => exact ⟨0, by omega, rfl, R6.out, Kept.refl _ _⟩
          case round =>
            obtain ⟨j, hj, rfl, hrx, hkx⟩ := hrel
            have KX : Hid (Kept (fun k => k = br) w6 wr) := hkx
            have BX : Hid (Below w.heap.size w wr) := B6.out.trans (hkx.below (by omega) (fun k hk e => by omega))
            by_cases hjl : j < O.length
            · have hOx : Owns wr w2.heap.size (.slice a10 O.length c10) O := O6.out.kept hkx (fun k hk e => by have := OLT.out k hk; omega)
              obtain ⟨ax, cx, ex, ix⟩ := hOx.ints
              simp at ex
              obtain ⟨rfl, rfl⟩ := ex
              obtain ⟨bx, offx, _, _, hbx, rfl, hcx⟩ := ix.resolve_left (by omega)
              have hcj := hcx j hjl
              have hmem : ln O j ∈ O := by
                have : ln O j = O[j] := by simp [ln, List.getD, hjl]
                rw [this]; exact List.getElem_mem hjl
              obtain ⟨h0, h1, h2⟩ := HHV.out _ hmem
              have hbn := back_next HG.out HHV.out j N hjl Z HD.out (Z.length * 8) hZl
              have hbs := bp_succ ls O j hjl
              have hble := bp_le ls O j
              obtain ⟨s, hs⟩ := Int.eq_ofNat_of_zero_le h0
              rw [hs] at hcj hbn hbs
              rw [Int.toNat_natCast] at hbn hbs
              have HNXT : Hid (Calls Try.prog 16 #[.pointer (some ⟨bc, 0, none⟩), .pointer (some ⟨br, 0, none⟩)] wr fun e w' => e = .returned (.tuple #[.int .i64 (s : Int), .int .i64 0]) ∧ w'.heap[br]? = some (.cells #[.slice (some ⟨g, 0, none⟩) Z.length cap5, .int .i64 ((bp ls O (j + 1) : Nat) : Int)] 60 (0, 0)) ∧ Kept (fun k => k = br) wr w') := by
                refine (next_any w.heap.size bw bc gl gc vo N ls br _ Z.length cap5 (bp ls O j) Z br wr (C6.out.kept hkx (fun b q1 q2 e => by omega)) HG.out h3 hrx (T6.out.kept hkx (fun b q1 e => by omega)) (by omega) (by omega) (.inr hbr5) (Nat.le_refl _)).mono ?_
                rintro e w' ⟨s', n', err, hnx, rfl, ⟨q, hq1, hq2, hq3⟩, hk⟩
                obtain ⟨rfl, rfl, rfl⟩ := NextIs.one (bz_le _ _) hnx hbn
                rw [hq3 rfl, ← hbs] at hq1
                exact ⟨rfl, hq1, hk⟩
              clear hcx hbn hbs hrx hkx hmem h0 h1 h2 hs hOx
              go_wp2_with (go_at_call 16; refine HNXT.out.mono ?_; rintro e w7 ⟨rfl, hr7, k7⟩; have R7 : Hid (w7.heap[br]? = some (.cells #[.slice (some ⟨g, 0, none⟩) Z.length cap5, .int .i64 ((bp ls O (j + 1) : Nat) : Int)] 60 (0, 0))) := hr7; have K7 : Hid (Kept (fun k => k = br) w6 w7) := KX.out.trans k7 (fun _ _ h => h); clear hr7 k7)
              go_roundw
              case rel => exact ⟨j + 1, by omega, by go_num, R7.out, K7.out⟩
              case measure => simp [intOf]; omega
            · obtain rfl : j = O.length := by omega
              clear hrx hkx
              go_wp2_with (go_at_call 10; refine (alive_any _).mono ?_; rintro e w8 ⟨rfl, b8⟩; have B8 : Hid (Below w.heap.size w w8) := BX.out.trans (b8.mono BX.out.size); clear b8)
              go_ret
              exact ⟨rfl, B8.out⟩
    · have hlen' : 1000 < (ss.length : Int) := by omega
      clear hc hi hsy hlen
      go_enter Try.func6, Try.ntmps6
      go_wp2_with (first
        | (go_at_call 9; refine HH.out.mono ?_; rintro e w1 ⟨bc, gl, gc, vo, N, rfl, c1, b1⟩; have B1 : Hid (Below w.heap.size w (w1.alloc (.cells #[.slice none 0 0, .int .i64 0, .int .i64 0] 68))) := b1.alloc b1.size _; clear b1 c1)
        | (go_at_call 18; refine (newWriter_any _).mono ?_; rintro e wn ⟨rfl, rfl⟩)
        | (go_at_call 10; refine (alive_any _).mono ?_; rintro e w6 ⟨rfl, b6⟩; have B6 : Hid (Below w.heap.size w w6) := B1.out.trans (b6.mono B1.out.size); clear b6))
      go_ret
      exact ⟨rfl, B6.out⟩
  · have HH : Hid (Calls Try.prog 9 #[.slice a ls.length cap, .bool lone] w fun e w' => e = .returned (.tuple #[.pointer none, .int .i64 (check ls lone)]) ∧ Below w.heap.size w w') := make_err B a cap ls lone w hc hi
    generalize check ls lone = C at hc HH
    go_enter Try.func6, Try.ntmps6
    go_wp2_with (first
      | (go_at_call 9; refine HH.out.mono ?_; rintro e w1 ⟨rfl, b1⟩; have B1 : Hid (Below w.heap.size w (w1.alloc (.cells #[.slice none 0 0, .int .i64 0, .int .i64 0] 68))) := b1.alloc b1.size _; clear b1)
      | (go_at_call 18; refine (newWriter_any _).mono ?_; rintro e wn ⟨rfl, rfl⟩)
      | (go_at_call 10; refine (alive_any _).mono ?_; rintro e w6 ⟨rfl, b6⟩; have B6 : Hid (Below w.heap.size w w6) := B1.out.trans (b6.mono B1.out.size); clear b6))
    go_ret
    exact ⟨rfl, B6.out⟩
end Go.Proofs.Ytoeebdjmedkldaa
