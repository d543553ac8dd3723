/- HuffKeeps' walk. -/
import Derived.Test.YtoeebdjmedkldaaHBackWalk
import Derived.Test.YtoeebdjmedkldaaHCodesWalk
namespace Go.Proofs.Ytoeebdjmedkldaa
open Go Go.RowKit

/-- The bits of the codes of the first k symbols, one behind the other. -/
def bol (ls : List Int) (k : Nat) : List Int := (List.range k).flatMap fun (s : Nat) => rowL (cd ls s) (ln ls s).toNat
theorem bol_succ (ls : List Int) (k : Nat) : bol ls (k + 1) = bol ls k ++ rowL (cd ls k) (ln ls k).toNat := by simp [bol, List.range_succ]
theorem bin_bol (ls : List Int) (k : Nat) : Bin (bol ls k) := by
  induction k with
  | zero => exact bin_nil
  | succ k ih => rw [bol_succ]; exact bin_append ih (bin_rowL _ _)
theorem bol_length_le (ls : List Int) (hf : Fit ls) (k : Nat) : (bol ls k).length ≤ 15 * k := by
  induction k with
  | zero => simp [bol]
  | succ k ih =>
    rw [bol_succ, List.length_append, rowL_length]
    have := ln_fit hf k
    omega

/-- A row of one's own, as a block. -/
theorem own_block {w : World} {base cap : Nat} {a : Option Addr} {L : List Int} (h : Owns w base (.slice a L.length cap) L) (h0 : 0 < L.length) : ∃ (g : Nat) (cur : Array Value), a = some ⟨g, 0, none⟩ ∧ base ≤ g ∧ w.heap[g]? = some (.cells cur 3 (0, 0)) ∧ L.length ≤ cur.size := by
  rcases h.2 with ⟨hv, h2⟩ | ⟨g, c, cur, hv, hg, hh, h4, h5, h6, h7⟩
  · omega
  · simp at hv
    refine ⟨g, cur, hv.1, hg, hh, ?_⟩
    omega

/-- own := append([]int{}, lens...) -/
theorem own_new (w : World) : Owns (w.alloc (.cells #[] 3)) w.heap.size (.slice (some ⟨w.heap.size, 0, none⟩) 0 0) [] := by
  have := World.ownsRow_lit (e := 3) (size := 1) (base := w.heap.size) w #[] 0 (Nat.le_refl _) (by unfold maxLen; omega) rfl
  simpa [Owns] using this

theorem rowL_zero (c c' : Nat) : rowL c 0 = rowL c' 0 := rfl

/-- What stands ahead of the last statement. -/
structure Kz (ls : List Int) (w W : World) (bw base : Nat) (v : Value) (bs : List Int) (t : Int) (m : Nat) (aR : Option Addr) (cR base3 gcod : Nat) (L : List Int) : Prop where
  wri : Wr base bw W v bs t m
  row : rowOf bs ++ bitsN t m = L
  own : Owns W base3 (.slice aR L.length cR) L
  cod : W.heap[gcod]? = some (.cells (valA (codesL ls)) 3 (0, 0))
  bel : Below w.heap.size w W
  bin : Bin L
theorem Kz.below {ls : List Int} {w W W' : World} {bw base : Nat} {v : Value} {bs : List Int} {t : Int} {m : Nat} {aR : Option Addr} {cR base3 gcod : Nat} {L : List Int} (h : Kz ls w W bw base v bs t m aR cR base3 gcod L) (b : Below W.heap.size W W') : Kz ls w W' bw base v bs t m aR cR base3 gcod L := by
  have k := Kept.of_below b
  refine ⟨⟨k.heap h.wri.block (fun e => ?_), ownsRow_kept h.wri.owns k (fun g hg e => ?_), h.wri.t0, h.wri.t1, h.wri.m1, h.wri.bytes⟩, h.row, h.own.kept k (fun g hg e => ?_), k.heap h.cod (fun e => ?_), h.bel.trans (b.mono h.bel.size), h.bin⟩
  · have := lt_of_block h.wri.block; omega
  · have := (ownsRow_lt h.wri.owns hg).2; omega
  · have := (ownsRow_lt h.own hg).2; omega
  · have := lt_of_block h.cod; omega
theorem kz_Data {ls : List Int} {w W : World} {bw base : Nat} {v : Value} {bs : List Int} {t : Int} {m : Nat} {aR : Option Addr} {cR base3 gcod : Nat} {L : List Int} (h : Kz ls w W bw base v bs t m aR cR base3 gcod L) (hl : L.length ≤ 100000) (D : List Int) (hD : D = dataL L) :
    Calls Try.prog 21 #[.pointer (some ⟨bw, 0, none⟩)] W fun e w' => ∃ g cap, e = .returned (.slice (some ⟨g, 0, none⟩) D.length cap) ∧ OwnsB w' W.heap.size (.slice (some ⟨g, 0, none⟩) D.length cap) D ∧ Below W.heap.size W w' := by
  have hd := dataL_row bs t m h.wri.bytes h.wri.t0 h.wri.t1 h.wri.m1
  have hll := congrArg List.length h.row
  simp only [List.length_append, rowOf_length, bitsN_length] at hll
  rw [h.row] at hd
  refine (data_any base bw v bs t m W h.wri (by omega)).mono ?_
  rintro e w' ⟨g, cap, rfl, ho, hb⟩
  rw [hD, hd]
  exact ⟨g, cap, rfl, ho, hb⟩
theorem kz_Bytes {ls : List Int} {w W : World} {bw base : Nat} {v : Value} {bs : List Int} {t : Int} {m : Nat} {aR : Option Addr} {cR base3 gcod : Nat} {L : List Int} (h : Kz ls w W bw base v bs t m aR cR base3 gcod L) (hl : L.length ≤ 100000) (D : List Int) (hD : D = dataL L) :
    Calls Try.prog 24 #[.slice aR L.length cR] W fun e w' => ∃ v, e = .returned v ∧ OwnsB w' W.heap.size v D ∧ Below W.heap.size W w' := by
  subst hD
  refine bytes_any aR cR L W ?_ h.bin (by omega)
  obtain ⟨a', cap', hv, hc⟩ := h.own.form
  simp at hv
  obtain ⟨rfl, rfl⟩ := hv
  by_cases h0 : L.length = 0
  · exact .inl h0
  · obtain ⟨g, _, _, hlt, ha, hcell⟩ := hc (by omega)
    exact .inr ⟨g, 0, hlt, ha, fun i hi => by rw [Nat.zero_add]; exact hcell i hi⟩
theorem kz_Same {ls : List Int} {w W : World} {bw base : Nat} {v : Value} {bs : List Int} {t : Int} {m : Nat} {aR : Option Addr} {cR base3 gcod : Nat} {L : List Int} (h : Kz ls w W bw base v bs t m aR cR base3 gcod L) (h3 : ls.length ≤ 320) (g : Nat) (hg : W.heap[g]? = some (.cells (valA (codesL ls)) 3 (0, 0))) :
    Calls Try.prog 13 #[.slice (some ⟨g, 0, none⟩) ls.length ls.length, .slice (some ⟨gcod, 0, none⟩) ls.length ls.length] W fun e w' => e = .returned (.bool true) ∧ ∃ n, w' = W.drewN n := by
  have hs := same_c g (g + 1) gcod (gcod + 1) _ _ ls.length ls.length (codesL ls) W (by rw [codesL_length]; omega) (ints_of hg) (ints_of h.cod)
  rw [codesL_length] at hs
  exact hs
theorem owns_push_row {w : World} {base : Nat} {v : Value} {L R : List Int} {n : Nat} (hn : R.length = n) (h : w.ownsRow base 3 1 v (L.length + n) (L.map (Value.int .i64) ++ R.map (Value.int .i64))) : Owns w base v (L ++ R) := by
  unfold Owns
  simpa [hn] using h
theorem ints_one' (L : List Int) : ∀ u ∈ L.map (Value.int .i64), u.oneCell' = true := by
  intro u hu; simp at hu; obtain ⟨x, _, rfl⟩ := hu; rfl
theorem valA_news {w : World} {g : Nat} {L : List Int} {t : TypeId} {fr : Nat × Nat} (h : w.heap[g]? = some (.cells (valA L) t fr)) : ∀ j u, (L.map (Value.int .i64))[j]? = some u → w.cell? ((⟨g, 0, none⟩ : Addr).add j) = some u := World.news_of_block h

set_option maxHeartbeats 4000000 in
set_option maxRecDepth 100000 in
theorem keeps_walk (B : Nat) (a ab : Option Addr) (cap len capb : Nat) (ls : List Int) (w : World) (hi : Ints 0 B w a ls) (hnil : a = none → ls.length = 0 ∧ cap = 0) (hls : ls.length ≤ 17592186043904) :
    Calls Try.prog 8 #[.slice a ls.length cap, .slice ab len capb] w fun e w' => e = .returned (.bool true) ∧ Below w.heap.size w w' := by
  obtain ⟨i0, hi0, hz0, hz1', hz2'⟩ := info_parts Try.info3
  have HE : Hid (Owns (w.alloc (.cells #[] 3)) w.heap.size (.slice (some ⟨w.heap.size, 0, none⟩) 0 0) []) := own_new w
  have HB0 : Hid (Below w.heap.size w (w.alloc (.cells #[] 3))) := (Below.refl _ w).alloc (Nat.le_refl _) _
  have HI : Hid (Ints 0 B w a ls) := hi
  have HNil : Hid (a = none → ls.length = 0 ∧ cap = 0) := hnil
  clear hi hnil
  go_enter Try.func8, Try.ntmps8
  go_upto_region 1 with fail
  go_cut [5] (fun v5 wx => Owns wx w.heap.size v5 ls ∧ Below w.heap.size w wx)
  case first =>
    cases a with
    | none =>
      obtain ⟨hl0, rfl⟩ := HNil.out rfl
      have hL : ls = [] := List.eq_nil_of_length_eq_zero hl0
      subst hL
      go_wp2
      go_meet
      case rel => exact ⟨HE.out, HB0.out⟩
    | some ad =>
      have HS : Hid (∀ j u, (ls.map (Value.int .i64))[j]? = some u → (w.alloc (.cells #[] 3)).cell? (ad.add j) = some u) := by
        intro j u hu
        have hj : j < ls.length := by
          rcases Nat.lt_or_ge j ls.length with h' | h'
          · exact h'
          · simp [List.getElem?_eq_none (show (ls.map (Value.int .i64)).length ≤ j by simpa using h')] at hu
        obtain ⟨ad', e, hc⟩ := (HI.out.stay HB0.out).src (by omega)
        simp at e
        subst e
        exact hc j u hu
      have HN : Hid (∀ u ∈ ls.map (Value.int .i64), u.oneCell' = true) := by
        intro u hu; simp at hu; obtain ⟨x, _, rfl⟩ := hu; rfl
      obtain ⟨LL, hLL⟩ : ∃ LL, LL = ls.map (Value.int .i64) := ⟨_, rfl⟩
      rw [← hLL] at HS HN
      have hll : LL.length = ls.length * 1 := by rw [hLL]; simp
      have HL : Hid (LL = ls.map (Value.int .i64)) := hLL
      clear hLL
      go_wp2_with (at_builtin; refine wpList_append_own _ rfl (.tmp 17) (.tmp 18) 22 rfl w.heap.size 3 i0 (.int .i64 0) 1 8 Try.underlying22 hi0 hz0 hz1' hz2' rfl (by decide) _ 0 [] rfl HE.out ad ls.length cap LL rfl hll HS.out HN.out (by unfold maxLen; omega) (by omega) (by simp) ?_; intro v1 w1 hown1 hgrow1 hnil1)
      go_meet
      case rel =>
        refine ⟨?_, HB0.out.grown hgrow1 (by simp) (fun k e => by simp [Act.eval, Value.ownBlock] at e; omega)⟩
        rw [HL.out] at hown1
        simpa [Owns] using hown1
  case rest =>
    obtain ⟨hown1, hbel1⟩ := hcut
    obtain ⟨aO, cO, rfl⟩ := own_form hown1
    obtain ⟨ax, cx, ex, iO⟩ := hown1.ints
    simp at ex
    obtain ⟨rfl, rfl⟩ := ex
    have O1 : Hid (Owns wc w.heap.size (.slice aO ls.length cO) ls) := hown1
    have B1 : Hid (Below w.heap.size w wc) := hbel1
    have I1 : Hid (Ints 0 wc.heap.size wc aO ls) := iO.wide (Nat.zero_le _) (Nat.le_refl _)
    have hs1 := hbel1.size
    clear hown1 hbel1 iO HE HB0 HNil
    by_cases hc : check ls true = 0
    · have HH : Hid (Calls Try.prog 9 #[.slice aO ls.length cO, .bool true] wc fun e w' => ∃ bc gl gc vo N, e = .returned (.tuple #[.pointer (some ⟨bc, 0, none⟩), .int .i64 0]) ∧ CodeAt wc.heap.size w'.heap.size w' bc gl gc vo N ls ∧ Below wc.heap.size wc w') := make_ok wc.heap.size aO cO ls true wc hc I1.out
      by_cases hlen : (len : Int) ≤ 200
      · have HCO : ∀ W, Below w.heap.size w W → Hid (Calls Try.prog 12 #[.slice a ls.length cap] W fun e w' => ∃ gc, e = .returned (.slice (some ⟨gc, 0, none⟩) ls.length ls.length) ∧ w'.heap[gc]? = some (.cells (valA (codesL ls)) 3 (0, 0)) ∧ W.heap.size ≤ gc ∧ Below W.heap.size W w') := fun W hW => codes_ok B a cap ls W hc (HI.out.stay hW)
        have h3 := (check_ok hc).1
        have HG : Hid (Good ls) := check_good hc
        have HF : Hid (Fit ls) := (check_ok hc).2.1
        clear hc
        go_wp2_with (first
          | (go_at_call 9; refine HH.out.mono ?_; rintro e w2 ⟨bc, gl, gc, vo, N, rfl, c2, b2⟩; have B2 : Hid (Below wc.heap.size wc w2) := b2; have BW3 : Hid (Below w.heap.size w (w2.alloc (.cells #[.slice ab len capb, .int .i64 0] 60))) := (B1.out.trans (b2.mono B1.out.size)).alloc (by have := b2.size; omega) _; have C2 : Hid (CodeAt wc.heap.size w2.heap.size w2 bc gl gc vo N ls) := c2; clear b2 c2)
          | (go_at_call 15; refine (newReader_any _ _ _ _).mono ?_; rintro e wn ⟨rfl, rfl⟩)
          | (go_at_call 12; refine (HCO _ BW3.out).out.mono ?_; rintro e w4 ⟨gt, rfl, h4, hg4, b4⟩; have H4 : Hid (w4.heap[gt]? = some (.cells (valA (codesL ls)) 3 (0, 0))) := h4; have B4 : Hid (Below (w2.alloc (.cells #[.slice ab len capb, .int .i64 0] 60)).heap.size (w2.alloc (.cells #[.slice ab len capb, .int .i64 0] 60)) w4) := b4; clear h4 b4))
        have hs24 : w2.heap.size + 1 ≤ w4.heap.size := by have := B4.out.size; simpa using this
        have hg4' : w2.heap.size + 1 ≤ gt := by simpa using hg4
        have b24 : Below w2.heap.size w2 w4 := ((Below.refl _ w2).alloc (Nat.le_refl _) _).trans (B4.out.mono (by simp))
        have hs12 := B2.out.size
        have BW4 : Hid (Below w.heap.size w w4) := BW3.out.trans (B4.out.mono BW3.out.size)
        have C4 : Hid (CodeAt wc.heap.size w2.heap.size w4 bc gl gc vo N ls) := C2.out.below b24 (Nat.le_refl _)
        have GO : ∃ (go : Nat) (cur : Array Value), (ls.length = 0 ∨ (aO = some ⟨go, 0, none⟩ ∧ go < wc.heap.size)) ∧ w.heap.size ≤ go ∧ (go < wc.heap.size ∨ w2.heap.size ≤ go) ∧ w4.heap[go]? = some (.cells cur 3 (0, 0)) ∧ ls.length ≤ cur.size := by
          by_cases h0 : ls.length = 0
          · exact ⟨gt, _, .inl h0, by omega, .inr (by omega), H4.out, by omega⟩
          · obtain ⟨g, cur, e, hg, hh, hsz⟩ := own_block O1.out (by omega)
            have hgl := lt_of_block hh
            refine ⟨g, cur, .inr ⟨e, hgl⟩, hg, .inl hgl, ?_, hsz⟩
            rw [b24.block g (by omega), B2.out.block g hgl]; exact hh
        obtain ⟨go, cur0, hgo1, hgo2, hgo3, hgo4, hgo5⟩ := GO
        have G4 : Hid (∃ cur : Array Value, w4.heap[go]? = some (.cells cur 3 (0, 0)) ∧ ls.length ≤ cur.size) := ⟨cur0, hgo4, hgo5⟩
        have T4 : Hid (∃ cur : Array Value, w4.heap[gt]? = some (.cells cur 3 (0, 0)) ∧ ls.length ≤ cur.size) := ⟨_, H4.out, by rw [valA_size, codesL_length]; exact Nat.le_refl _⟩
        clear hgo4 hgo5 cur0 H4 C2 b24 B4 BW3 hg4 HH
        go_loopw [51] (fun v51 wr => ∃ i : Nat, i ≤ ls.length ∧ v51 = .int .i64 i ∧ (∃ cur : Array Value, wr.heap[go]? = some (.cells cur 3 (0, 0)) ∧ ls.length ≤ cur.size) ∧ (∃ cur : Array Value, wr.heap[gt]? = some (.cells cur 3 (0, 0)) ∧ ls.length ≤ cur.size) ∧ Kept (fun k => k = go ∨ k = gt) w4 wr) (fun v51 _ => ls.length - (intOf v51).toNat)
        case atStart => exact ⟨0, by omega, rfl, G4.out, T4.out, Kept.refl _ _⟩
        case round =>
          obtain ⟨i, hi, rfl, ⟨cu, hcu, hcus⟩, ⟨ct_, hct, hcts⟩, hkp⟩ := hrel
          clear G4 T4
          by_cases hlt : i < ls.length
          · obtain ⟨rfl, hgoc⟩ := hgo1.resolve_left (by omega)
            have hgg : go ≠ gt := by omega
            have hgg' : gt ≠ go := by omega
            have x1 := cells_of hcu i
            have f1 := free_of hcu i
            have x2 := cells_of hct i
            have f2 := free_of hct i
            rw [Array.getElem?_eq_getElem (by omega)] at x1 x2
            have HCU : Hid (wr.heap[go]? = some (.cells cu 3 (0, 0))) := hcu
            have HCT : Hid (wr.heap[gt]? = some (.cells ct_ 3 (0, 0))) := hct
            have KP : Hid (Kept (fun k => k = go ∨ k = gt) w4 wr) := hkp
            have hgl := lt_of_block hcu
            have htl := lt_of_block hct
            clear hcu hct hkp
            generalize cu[i]'(by omega) = y1 at x1
            generalize ct_[i]'(by omega) = y2 at x2
            go_wp2
            go_roundw
            case rel =>
              refine ⟨i + 1, by omega, by go_num, ⟨cu.setIfInBounds i (.int .i64 9), ?_, by simpa using hcus⟩, ⟨ct_.setIfInBounds i (.int .i64 (-5)), ?_, by simpa using hcts⟩, (KP.out.setCell (fun _ => .inl rfl) _).setCell (fun _ => .inr rfl) _⟩
              · rw [set_other hgg]; exact set_of HCU.out i _
              · exact set_of ((set_other hgg').trans HCT.out) i _
            case measure => simp [intOf]; omega
          · obtain rfl : i = ls.length := by omega
            have hkb : Below w.heap.size w4 wr := hkp.below (by have := BW4.out.size; omega) (fun k hk e => by omega)
            have BWr : Hid (Below w.heap.size w wr) := BW4.out.trans hkb
            have CR : Hid (CodeAt wc.heap.size w2.heap.size wr bc gl gc vo N ls) := C4.out.kept hkp (fun k h1 h2 e => by omega)
            have hsr := hkp.size
            clear hcu hct hkp hkb C4 BW4
            go_wp2_with (go_at_call 18; refine (newWriter_any _).mono ?_; rintro e wn ⟨rfl, rfl⟩)
            have hb5 : Below wr.heap.size wr (wr.alloc (.cells #[.slice none 0 0, .int .i64 0, .int .i64 0] 68)) := (Below.refl _ wr).alloc (Nat.le_refl _) _
            have W5 : Hid (Wr (wr.alloc (.cells #[.slice none 0 0, .int .i64 0, .int .i64 0] 68)).heap.size wr.heap.size (wr.alloc (.cells #[.slice none 0 0, .int .i64 0, .int .i64 0] 68)) (.slice none 0 0) [] 0 0) := ⟨heap_new _ _, World.ownsRow_nil _ _ _ _, by decide, by decide, by decide, by simp⟩
            have C5 : Hid (CodeAt wc.heap.size w2.heap.size (wr.alloc (.cells #[.slice none 0 0, .int .i64 0, .int .i64 0] 68)) bc gl gc vo N ls) := CR.out.below hb5 (by omega)
            have BW5 : Hid (Below w.heap.size w (wr.alloc (.cells #[.slice none 0 0, .int .i64 0, .int .i64 0] 68))) := BWr.out.trans (hb5.mono BWr.out.size)
            have hbw5 : wr.heap.size < (wr.alloc (.cells #[.slice none 0 0, .int .i64 0, .int .i64 0] 68)).heap.size := by simp
            have hbwlo : w2.heap.size ≤ wr.heap.size := by omega
            clear hb5 CR BWr
            generalize wr.alloc (.cells #[.slice none 0 0, .int .i64 0, .int .i64 0] 68) = w5 at W5 C5 BW5 hbw5 ⊢
            generalize wr.heap.size = bw at W5 hbw5 hbwlo hsr ⊢
            go_loopw [64] (fun v64 wx => ∃ (k : Nat) (v : Value) (bs : List Int) (t : Int) (m : Nat), k ≤ ls.length ∧ v64 = .int .i64 k ∧ Wr w5.heap.size bw wx v bs t m ∧ rowOf bs ++ bitsN t m = bol ls k ∧ Kept (fun i => i = bw) w5 wx) (fun v64 _ => ls.length - (intOf v64).toNat)
            case atStart => exact ⟨0, _, [], 0, 0, by omega, rfl, W5.out, rfl, Kept.refl _ _⟩
            case round =>
              obtain ⟨k, v, bs, t, m, hk, rfl, hwr, hrow, hkp⟩ := hrel
              clear W5
              have hbl := bol_length_le ls HF.out k
              have hll := congrArg List.length hrow
              simp only [List.length_append, rowOf_length, bitsN_length] at hll
              have hbsl : bs.length ≤ 100000 := by omega
              have CX : Hid (CodeAt wc.heap.size w2.heap.size wr bc gl gc vo N ls) := C5.out.kept hkp (fun b h1 h2 e => by omega)
              have HW : Hid (Wr w5.heap.size bw wr v bs t m) := hwr
              have HR : Hid (rowOf bs ++ bitsN t m = bol ls k) := hrow
              have KX : Hid (Kept (fun i => i = bw) w5 wr) := hkp
              have BX : Hid (Below w.heap.size w wr) := BW5.out.trans (hkp.below (by have := BW5.out.size; omega) (fun j hj e => by omega))
              have hsx := hkp.size
              clear hwr hrow hkp hll hbl
              by_cases hlk : k < ls.length
              · have hfk := ln_fit HF.out k
                by_cases h0 : ln ls k = 0
                · have HB' : Hid (bol ls k = bol ls (k + 1)) := by show _ = _; rw [bol_succ, h0]; simp [rowL]
                  go_wp2_with (go_at_call 20; refine (put_no wc.heap.size w2.heap.size bc gl gc bw vo N ls (k : Int) _ CX.out (.inr (.inr (by simpa using h0)))).mono ?_; rintro e w6 ⟨rfl, hw6⟩; obtain rfl : wr = w6 := hw6.symm)
                  go_roundw
                  case rel => exact ⟨k + 1, v, bs, t, m, by omega, by go_num, HW.out, by rw [HR.out, HB'.out], KX.out⟩
                  case measure => simp [intOf]; omega
                · obtain ⟨n, hn⟩ := Int.eq_ofNat_of_zero_le hfk.1
                  have HB' : Hid (bol ls k ++ rowL (cd ls k) n = bol ls (k + 1)) := by show _ = _; rw [bol_succ, hn, Int.toNat_natCast]
                  have HLN : Hid (ln ls k = (n : Int)) := hn
                  have hn1 : 1 ≤ n := by omega
                  clear hn h0 hfk
                  go_wp2_with (go_at_call 20; refine (put_yes wc.heap.size w2.heap.size bc gl gc bw w5.heap.size vo v N ls bs t m k n _ CX.out HG.out hlk HLN.out hn1 HW.out (by omega) hsx hbwlo (by omega)).mono ?_; rintro e w6 ⟨rfl, h6⟩; have H6 : Hid (∃ v' bs' t' m', Wr w5.heap.size bw w6 v' bs' t' m' ∧ rowOf bs' ++ bitsN t' m' = rowOf bs ++ bitsN t m ++ rowL (cd ls k) n ∧ Kept (fun i => i = bw ∨ v.ownBlock = some i) wr w6 ∧ (v'.ownBlock = v.ownBlock ∨ ∀ g, v'.ownBlock = some g → wr.heap.size ≤ g)) := h6; clear h6)
                  go_roundw
                  case rel =>
                    obtain ⟨v', bs', t', m', q1, q2, q3, _⟩ := H6.out
                    refine ⟨k + 1, v', bs', t', m', by omega, by go_num, q1, by rw [q2, HR.out, HB'.out], KX.out.trans q3 (fun j hj e => ?_)⟩
                    rcases e with e | e
                    · exact e
                    · have := (ownsRow_lt HW.out.owns e).1; omega
                  case measure => simp [intOf]; omega
              · obtain rfl : k = ls.length := by omega
                go_wp2_with (go_at_call 14; refine (refCodes_c B a cap ls _ h3 HF.out HG.out.le (HI.out.stay BX.out)).mono ?_; rintro e wn ⟨rfl, rfl⟩)
                have hb7 : Below wr.heap.size wr (wr.alloc (.cells (valA (codesL ls)) 3)) := (Below.refl _ wr).alloc (Nat.le_refl _) _
                have BW7 : Hid (Below w.heap.size w (wr.alloc (.cells (valA (codesL ls)) 3))) := BX.out.trans (hb7.mono BX.out.size)
                have W7 : Hid (Wr w5.heap.size bw (wr.alloc (.cells (valA (codesL ls)) 3)) v bs t m) := ⟨heap_old HW.out.block, ownsRow_kept HW.out.owns (Kept.of_below hb7) (fun g hg e => by have := (ownsRow_lt HW.out.owns hg).2; omega), HW.out.t0, HW.out.t1, HW.out.m1, HW.out.bytes⟩
                have COD7 : Hid ((wr.alloc (.cells (valA (codesL ls)) 3)).heap[wr.heap.size]? = some (.cells (valA (codesL ls)) 3 (0, 0))) := heap_new _ _
                clear hb7 HW BX CX KX C5 BW5
                generalize wr.alloc (.cells (valA (codesL ls)) 3) = w7 at BW7 W7 COD7 ⊢
                generalize wr.heap.size = gcod at COD7 ⊢
                have hgc7 := lt_of_block COD7.out
                have hbwl7 := lt_of_block W7.out.block
                go_loopw [13, 76] (fun v13 v76 wy => ∃ k : Nat, k ≤ ls.length ∧ v76 = .int .i64 k ∧ Owns wy w7.heap.size v13 (bol ls k) ∧ Below w7.heap.size w7 wy) (fun _ v76 _ => ls.length - (intOf v76).toNat)
                case atStart => exact ⟨0, by omega, rfl, Owns.nil _ _, Below.refl _ _⟩
                case round =>
                  obtain ⟨k, hk, rfl, hown, hbel⟩ := hrel
                  obtain ⟨a13, c13, rfl⟩ := own_form hown
                  have HO : Hid (Owns wr w7.heap.size (.slice a13 (bol ls k).length c13) (bol ls k)) := hown
                  have BY : Hid (Below w7.heap.size w7 wr) := hbel
                  have BWY : Hid (Below w.heap.size w wr) := BW7.out.trans (hbel.mono BW7.out.size)
                  have hbl := bol_length_le ls HF.out k
                  have hsy := hbel.size
                  have CODY : Hid (wr.heap[gcod]? = some (.cells (valA (codesL ls)) 3 (0, 0))) := (hbel.block gcod hgc7).trans COD7.out
                  clear hown hbel
                  by_cases hlk : k < ls.length
                  · obtain ⟨bl, offl, _, _, hbl2, rfl, hcl⟩ := (HI.out.stay BWY.out).resolve_left (by omega)
                    have hck := hcl k hlk
                    have hcc := cells_of CODY.out k
                    rw [valA_at _ (by rw [codesL_length]; exact hlk), codesL_at ls hlk] at hcc
                    have hfk := ln_fit HF.out k
                    obtain ⟨n, hn⟩ := Int.eq_ofNat_of_zero_le hfk.1
                    obtain ⟨c, hc⟩ : ∃ c : Nat, c = if 1 ≤ ln ls k then cd ls k else 0 := ⟨_, rfl⟩
                    have hci : (if 1 ≤ ln ls k then (cd ls k : Int) else 0) = (c : Int) := by rw [hc]; split <;> rfl
                    have hcb : c ≤ 1000000 := by
                      rw [hc]; split
                      · rename_i h1
                        have := (cd_lt HG.out.le HG.out.fit hlk h1).2
                        have p15 : 2 ^ (ln ls k).toNat ≤ 2 ^ 15 := Nat.pow_le_pow_right (by decide) (by omega)
                        omega
                      · omega
                    have HB' : Hid (bol ls k ++ rowL c n = bol ls (k + 1)) := by
                      show _ = _
                      rw [bol_succ, hc, hn, Int.toNat_natCast]
                      by_cases h1 : 1 ≤ n
                      · rw [if_pos (by omega)]
                      · obtain rfl : n = 0 := by omega
                        rw [rowL_zero _ (cd ls k)]
                    rw [hci] at hcc
                    rw [hn] at hck
                    have hn15 : n ≤ 15 := by omega
                    have hrl : ((rowL c n).map (Value.int .i64)).length = n * 1 := by simp [rowL_length]
                    have HN1 : Hid (∀ u ∈ (rowL c n).map (Value.int .i64), u.oneCell' = true) := ints_one' _
                    clear hcl hfk hn hc hci
                    go_wp2_with (first
                      | (go_at_call 23; refine (refRow_c c n _ hn15 hcb).mono ?_; rintro e wn ⟨rfl, rfl⟩)
                      | (at_builtin; refine wpList_append_own _ rfl _ _ 22 rfl w7.heap.size 3 i0 (.int .i64 0) 1 8 Try.underlying22 hi0 hz0 hz1' hz2' rfl (by decide) _ _ _ rfl (World.ownsRow.alloc HO.out _) ⟨wr.heap.size, 0, none⟩ n n ((rowL c n).map (Value.int .i64)) rfl hrl (valA_news (heap_new _ _)) HN1.out (by unfold maxLen; omega) (by omega) (by simp; omega) ?_; intro v8 w8 hown8 hgrow8 hnil8; obtain ⟨a8, c8, rfl⟩ := own_form hown8))
                    go_roundw
                    case rel =>
                      refine ⟨k + 1, by omega, by go_num, ?_, (BY.out.alloc BY.out.size _).grown hgrow8 (by simp; omega) (fun g e => (ownsRow_lt HO.out e).1)⟩
                      have := owns_push_row (rowL_length c n) hown8
                      rw [HB'.out] at this
                      exact this
                    case measure => simp [intOf]; omega
                  · obtain rfl : k = ls.length := by omega
                    have KZ : Hid (Kz ls w wr.drew bw w5.heap.size v bs t m a13 c13 w7.heap.size gcod (bol ls ls.length)) := by
                      have k7 := Kept.of_below BY.out
                      have hz : Kz ls w wr bw w5.heap.size v bs t m a13 c13 w7.heap.size gcod (bol ls ls.length) := ⟨⟨k7.heap W7.out.block (fun e => by omega), ownsRow_kept W7.out.owns k7 (fun g hg e => by have := (ownsRow_lt W7.out.owns hg).2; omega), W7.out.t0, W7.out.t1, W7.out.m1, W7.out.bytes⟩, HR.out, HO.out, CODY.out, BWY.out, bin_bol ls _⟩
                      exact hz.below (Below.refl _ wr).drew
                    obtain ⟨L, hL⟩ : ∃ L, L = bol ls ls.length := ⟨_, rfl⟩
                    rw [← hL] at KZ hbl ⊢
                    obtain ⟨D, hD⟩ : ∃ D, D = dataL L := ⟨_, rfl⟩
                    have HD : Hid (D = dataL L) := hD
                    have hLl : L.length ≤ 100000 := by omega
                    clear hL hD HO BY BWY CODY BW7 W7 COD7 HR
                    go_wp2_with fail
                    go_region_with (first
                      | (go_at_call 10; refine (alive_any _).mono ?_; rintro e w10 ⟨rfl, b10⟩; have Z10 : Hid (Kz ls w w10 bw w5.heap.size v bs t m a13 c13 w7.heap.size gcod L) := KZ.out.below b10; clear b10)
                      | (go_at_call 21; refine (kz_Data Z10.out hLl D HD.out).mono ?_; rintro e w11 ⟨g11, cp11, rfl, o11, b11⟩; have hc11 := conv_own o11; have O11 : Hid (OwnsB w11 w10.heap.size (.slice (some ⟨g11, 0, none⟩) D.length cp11) D) := o11; have Z11 : Hid (Kz ls w w11 bw w5.heap.size v bs t m a13 c13 w7.heap.size gcod L) := Z10.out.below b11; clear o11 b11)
                      | (go_at_call 24; refine (kz_Bytes Z11.out hLl D HD.out).mono ?_; rintro e w12 ⟨v12, rfl, o12, b12⟩; have hc12 := conv_own o12; have hc12' := conv_own (O11.out.below b12); have Z12 : Hid (Kz ls w w12 bw w5.heap.size v bs t m a13 c13 w7.heap.size gcod L) := Z11.out.below b12; clear o12 b12)
                      | (go_at_call 12; refine (HCO _ Z12.out.bel).out.mono ?_; rintro e w13 ⟨g13, rfl, h13, _, b13⟩; have H13 : Hid (w13.heap[g13]? = some (.cells (valA (codesL ls)) 3 (0, 0))) := h13; have Z13 : Hid (Kz ls w w13 bw w5.heap.size v bs t m a13 c13 w7.heap.size gcod L) := Z12.out.below b13; clear h13 b13)
                      | (go_at_call 13; refine (kz_Same Z13.out h3 g13 H13.out).mono ?_; rintro e w14 ⟨rfl, n14, rfl⟩))
                    all_goals go_wp2
                    all_goals go_ret
                    all_goals exact ⟨rfl, below_drewN Z13.out.bel _⟩
      · have hlen' : 200 < (len : Int) := by omega
        clear hlen hc
        go_wp2_with (first
          | (go_at_call 9; refine HH.out.mono ?_; rintro e w2 ⟨bc, gl, gc, vo, N, rfl, c2, b2⟩; have BW3 : Hid (Below w.heap.size w (w2.alloc (.cells #[.slice ab len capb, .int .i64 0] 60))) := (B1.out.trans (b2.mono B1.out.size)).alloc (by have := b2.size; omega) _; clear b2 c2)
          | (go_at_call 15; refine (newReader_any _ _ _ _).mono ?_; rintro e wn ⟨rfl, rfl⟩)
          | (go_at_call 10; refine (alive_any _).mono ?_; rintro e w6 ⟨rfl, b6⟩; have B6 : Hid (Below w.heap.size w w6) := BW3.out.trans (b6.mono BW3.out.size); clear b6))
        go_ret
        exact ⟨rfl, B6.out⟩
    · have HH : Hid (Calls Try.prog 9 #[.slice aO ls.length cO, .bool true] wc fun e w' => e = .returned (.tuple #[.pointer none, .int .i64 (check ls true)]) ∧ Below wc.heap.size wc w') := make_err wc.heap.size aO cO ls true wc hc I1.out
      generalize check ls true = C at hc HH
      go_wp2_with (first
        | (go_at_call 9; refine HH.out.mono ?_; rintro e w2 ⟨rfl, b2⟩; have BW3 : Hid (Below w.heap.size w (w2.alloc (.cells #[.slice ab len capb, .int .i64 0] 60))) := (B1.out.trans (b2.mono B1.out.size)).alloc (by have := b2.size; omega) _; clear b2)
        | (go_at_call 15; refine (newReader_any _ _ _ _).mono ?_; rintro e wn ⟨rfl, rfl⟩)
        | (go_at_call 10; refine (alive_any _).mono ?_; rintro e w6 ⟨rfl, b6⟩; have B6 : Hid (Below w.heap.size w w6) := BW3.out.trans (b6.mono BW3.out.size); clear b6))
      go_ret
      exact ⟨rfl, B6.out⟩
end Go.Proofs.Ytoeebdjmedkldaa
