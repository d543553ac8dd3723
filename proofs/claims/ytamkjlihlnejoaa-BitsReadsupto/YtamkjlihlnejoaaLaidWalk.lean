/- The law's 'laid', walked. -/
import Derived.Test.YtamkjlihlnejoaaLaid
namespace Go.Proofs.Ytamkjlihlnejoaa
open Go.RowKit

theorem row_nil (a : Option Addr) (cap : Nat) (w : World) :
    Calls Try.prog 27 #[.slice a 0 cap] w fun e w' => e = .returned (.slice none 0 0) ∧ w' = w := by
  go_enter Try.func27, Try.ntmps27
  go_wp2
  refine wp_loop_rounds 1 ?_
  rw [rounds_succ]
  go_wp2
  go_ret
  exact ⟨rfl, rfl⟩

/-- append of nothing, as one step of a region that draws its order. -/
theorem step_append_none {P : Program} {ops : Array Oper} {o : Oper} {a : Act} {w : World} {K : Act → World → Prop} {Q : Exit → Act → World → Prop} {E : Prop} (hgd : o.guard = none) (s x : Operand) (t : TypeId)
    (ho : o.op = .call { callee := .builtin .append, args := #[s, x], argTypes := #[t, t] }) (base : Nat) (e : TypeId) (i : TypeInfo) (size : Nat) (ht : P.underlying t = some (.slice e)) (hi : P.info? e = some i)
    (v : Value) (n : Nat) (xs : List Value) (hs : a.eval s = v) (hown : w.ownsRow base e size v n xs) (hx : a.eval x = .slice none 0 0) (h : K (a.put o.dst v) w) :
    if Region.wanted o (yielded ops a.tmps) = true then Oper.wp P o a w K Q else E := by
  have hw : Region.wanted o (yielded ops a.tmps) = true := by simp [Region.wanted, hgd]
  rw [if_pos hw]
  have hrun := run_append_owned_none (P := P) (w := w) base t o.type e i size ht hi v n xs hown
  unfold Oper.wp
  simp [execOp, ho, resolve, invoke, builtin, hs, hx, hrun, Result.andThen]
  exact h

theorem Ld.below {H : Nat} {w0 w w' : World} {vl : Value} {Lw Ll : List Int} (s : Ld H w0 w vl Lw Ll) (b : Below w.heap.size w w') : Ld H w0 w' vl Lw Ll := by
  obtain ⟨⟨v, bs, t, m, hw, hr⟩, ho, hb, hs⟩ := s
  have k := Kept.of_below b
  exact ⟨⟨v, bs, t, m, hw.kept k (by omega) (fun g hg e => by have := (ownsRow_lt hw.owns hg).2; omega), hr⟩, ho.kept k (fun g hg e => by have := (ownsRow_lt ho hg).2; omega), hb.trans (b.mono (by omega)), by have := b.size; omega⟩

theorem Ld.drew {H : Nat} {w0 w : World} {vl : Value} {Lw Ll : List Int} (s : Ld H w0 w vl Lw Ll) : Ld H w0 w.drew vl Lw Ll := s.below (Below.refl _ w).drew

theorem ld_append {H g cap n : Nat} {w0 w w' : World} {vl : Value} {Lw Ll R : List Int} (s : Ld H w0 w vl Lw Ll) (ho : w'.ownsRow H 3 1 (.slice (some ⟨g, 0, none⟩) n cap) n (Ll.map (Value.int .i64) ++ R.map (Value.int .i64))) (hn : n = Ll.length + R.length) (hg : w.grownBy w' vl.ownBlock) : Ld H w0 w' (.slice (some ⟨g, 0, none⟩) n cap) Lw (Ll ++ R) := by
  obtain ⟨⟨v, bs, t, m, hw, hr⟩, hl, hb, hs⟩ := s
  have k := Kept.of_grown hg
  subst hn
  refine ⟨⟨v, bs, t, m, hw.kept k (fun e => ownsRow_apart hl hw.block (by decide) e.symm) (fun g hg e => rows_apart hw.owns hl (by decide) hg e.symm), hr⟩, ?_, hb.trans (k.below (by omega) (fun i hi e => by have := (ownsRow_lt hl e.symm).1; omega)), by have := k.size; omega⟩
  unfold Owns
  simpa using ho

theorem ld_fill_m {H : Nat} {w0 w : World} {vl : Value} {Lw Ll : List Int} (s : Ld H w0 w vl Lw Ll) (hl : Ll.length ≤ 1000000) (M : List Int) (hM : M = Ll ++ bitsN 0 (pad Ll.length)) :
    Calls Try.prog 35 #[vl] w fun e w' => ∃ vl', e = .returned vl' ∧ Ld H w0 w' vl' Lw M ∧ Same w w' ∧ Below w.heap.size w w' := by
  subst hM
  exact ld_fill s hl

theorem row_pos (B : Nat) (a : Option Addr) (len cap : Nat) (zs : List Int) (w : World) (ht : Text B w a len zs) (hl : len ≤ 1000000000000) (h0 : 0 < len) (hB : B ≤ w.heap.size) (R : List Int) (hR : R = rowOf zs) :
    Calls Try.prog 27 #[.slice a len cap] w fun e w' => ∃ g cp, e = .returned (.slice (some ⟨g, 0, none⟩) R.length cp) ∧ Owns w' w.heap.size (.slice (some ⟨g, 0, none⟩) R.length cp) R ∧ Below w.heap.size w w' := by
  subst hR
  refine (row_any B a len cap zs w ht hl hB).mono ?_
  rintro e w' ⟨v, rfl, ho, hb⟩
  obtain ⟨a', cp, rfl, hc⟩ := ho.form
  obtain ⟨g, _, _, _, rfl, _⟩ := hc (by rw [rowOf_length, ht.1]; omega)
  exact ⟨g, cp, rfl, ho, hb⟩

theorem src_rr {w : World} {base g n cap : Nat} {R : List Int} {RR : List Value} (h : Owns w base (.slice (some ⟨g, 0, none⟩) n cap) R) (hr : RR = R.map (Value.int .i64)) : ∀ j u, RR[j]? = some u → w.cell? ((⟨g, 0, none⟩ : Addr).add j) = some u := by
  subst hr
  exact src_of h (Kept.refl _ _)

set_option maxHeartbeats 2000000 in
theorem laid_any (a : Option Addr) (len cap : Nat) (os : Nat → OpD) (w : World) (h : Ops w.heap.size w a len os) (hl : len ≤ 200) (hf : ∀ i, i < len → (os i).len ≤ 200) :
    Calls Try.prog 21 #[.slice a len cap] w fun e w' => ∃ vl, e = .returned (.tuple #[.pointer (some ⟨w.heap.size, 0, none⟩), vl]) ∧ Ld w.heap.size w w' vl (rowAt os len) (rowAt os len) := by
  have HO : Hid (Ops w.heap.size w a len os) := h
  have HF : Hid (∀ i, i < len → (os i).len ≤ 200) := hf
  obtain ⟨i0, hi, hz0, hz1, hz2⟩ := info_parts Try.info3
  clear h hf
  go_enter Try.func21, Try.ntmps21
  go_wp2_with (go_at_call 28; refine (newWriter_any _).mono ?_; rintro e w1 ⟨rfl, rfl⟩)
  go_loopw [5, 13] (fun vl i wr => ∃ k : Nat, k ≤ len ∧ i = .int .i64 k ∧ Ld w.heap.size w wr vl (rowAt os k) (rowAt os k)) (fun _ i _ => len - (intOf i).toNat)
  case atStart =>
    refine ⟨0, Nat.zero_le _, rfl, ⟨⟨.slice none 0 0, [], 0, 0, ⟨heap_new w _, World.ownsRow_nil _ _ _ _, by decide, by decide, by decide, by simp⟩, rfl⟩, Owns.nil _ _, (Below.refl _ _).alloc (Nat.le_refl _) _, by simp⟩⟩
  case round =>
    obtain ⟨k, hk, rfl, s⟩ := hrel
    by_cases hlt : k < len
    · obtain ⟨_, h2⟩ := HO.out.kept (Kept.of_below s.bel) (fun b hb h => by omega)
      have hzs : ∀ i, i < len → (os i).zs.length ≤ 200 := fun i hi => by
        obtain ⟨b, off, hb, _, hc⟩ := HO.out.2.resolve_left (by omega)
        rw [(hc i hi).tx.1]; exact HF.out i hi
      obtain ⟨b, off, hb, rfl, hc⟩ := h2.resolve_left (by omega)
      obtain ⟨ck, cv, cn, cs, tx, nl, _⟩ := hc k hlt
      have h200 := HF.out k hlt
      have hrl := rowAt_len os k (fun i hi => hzs i (by omega))
      have hsz := s.bel.size
      have hsz1 := s.sz
      clear hc h2 hzs
      obtain ⟨d, hd⟩ : ∃ d, d = os k := ⟨_, rfl⟩
      rw [← hd] at ck cv cn cs h200 tx nl
      obtain ⟨L, hL⟩ : ∃ L, L = rowAt os k := ⟨_, rfl⟩
      rw [← hL] at s hrl
      have hLl : L.length ≤ 400000 := by omega
      have HS : Hid (rowAt os (k + 1) = stepL L d) := by rw [rowAt, ← hL, ← hd]; rfl
      clear hd hL hrl
      obtain ⟨kind, v, n, da, dl, dc, zs⟩ := d
      simp only at ck cv cn cs h200 tx nl
      have S1 : Hid (Ld w.heap.size w (wr.alloc (.cells #[.int .i64 kind, .int .i64 v, .int .i64 n, .slice da dl dc] 32)) u5 L L) := s.alloc _
      have T1 : Hid (Text w.heap.size (wr.alloc (.cells #[.int .i64 kind, .int .i64 v, .int .i64 n, .slice da dl dc] 32)) da dl zs) := tx.kept (Kept.alloc _ (Kept.refl (fun _ => False) wr) _) (fun _ _ h => h)
      have NL : Hid (da = none → dl = 0 ∧ dc = 0) := nl
      clear s tx nl
      by_cases h0 : kind = 0
      · subst h0
        by_cases hn : 0 ≤ n ∧ n ≤ 24
        · obtain ⟨n', rfl⟩ := Int.eq_ofNat_of_zero_le hn.1
          go_wp2_with fail
          refine (ld_bits S1.out v _ n' rfl (by omega) (by omega)).mono ?_
          rintro e w2 ⟨rfl, s2, sm2⟩
          have o2 := sm2.2 _ _ (heap_new wr _)
          have q1 := cells_of o2 1
          have q2 := cells_of o2 2
          simp at q1 q2
          go_wp2_with fail
          refine (ld_lay s2 v _ n' rfl (by omega) (by omega)).mono ?_
          rintro e w3 ⟨vl', rfl, s3, sm3⟩
          clear s2 sm2 sm3 o2 q1 q2 S1 T1
          go_wp2
          go_roundw
          case rel =>
            refine ⟨k + 1, by omega, by go_num, ?_⟩
            rw [HS.out]
            simp only [stepL, if_pos hn]
            simpa using s3
          case measure => simp [intOf]; omega
        · go_wp2_with fail
          refine (wbits_no _ v n _ (by omega)).mono ?_
          rintro e w2 ⟨rfl, rfl⟩
          go_wp2_with fail
          refine (lay_no _ v n _ (by omega)).mono ?_
          rintro e w3 ⟨rfl, rfl⟩
          go_wp2
          go_roundw
          case rel =>
            refine ⟨k + 1, by omega, by go_num, ?_⟩
            rw [HS.out]
            simp only [stepL, if_neg hn]
            simpa using S1.out
          case measure => simp [intOf]; omega
      · have b0 : (kind == 0) = false := by simpa using h0
        by_cases h1 : kind = 1
        · subst h1
          clear b0 h0
          go_wp2_with fail
          refine (ld_align S1.out (by omega)).mono ?_
          rintro e w2 ⟨rfl, s2, sm2⟩
          go_wp2_with fail
          refine (ld_fill s2 (by omega)).mono ?_
          rintro e w3 ⟨vl', rfl, s3, sm3, _⟩
          clear s2 sm2 sm3 S1 T1
          go_wp2
          go_roundw
          case rel =>
            refine ⟨k + 1, by omega, by go_num, ?_⟩
            rw [HS.out]
            simp only [stepL]
            simpa using s3
          case measure => simp [intOf]; omega
        · have b1 : (kind == 1) = false := by simpa using h1
          by_cases h2 : kind = 2
          · subst h2
            clear b0 b1 h0 h1
            go_wp2_with fail
            refine (ld_bytes S1.out (by omega) da dl dc zs T1.out NL.out h200).mono ?_
            rintro e w2 ⟨rfl, s2, sm2, t2⟩
            have o2 := sm2.2 _ _ (heap_new wr _)
            have q3 := cells_of o2 3
            simp at q3
            clear S1 T1
            have S2 : Hid (Ld w.heap.size w w2.drew u5 (L ++ bitsN 0 (pad L.length) ++ rowOf zs) L) := s2.drew
            have T2 : Hid (Text w.heap.size w2.drew da dl zs) := t2.kept (Kept.drew (Kept.refl (fun _ => False) w2)) (fun _ _ h => h)
            have O2 : Hid (w2.drew.heap[wr.heap.size]? = some (.cells #[.int .i64 2, .int .i64 v, .int .i64 n, .slice da dl dc] 32 (0, 0))) := o2
            clear s2 t2 o2 sm2
            by_cases hd0 : dl = 0
            · subst hd0
              have hz : zs = [] := List.eq_nil_of_length_eq_zero T2.out.1
              subst hz
              go_upto_region 17 with fail
              go_region_held3 (fun w' => w'.cell? ⟨wr.heap.size, 3, none⟩ = some (.slice da 0 dc)) (first | go_keep | assumption) ((first | (refine step_append_none (by rfl) (.tmp 46) (.tmp 49) 26 (by rfl) w.heap.size 3 i0 1 Try.underlying26 hi _ _ _ (by rfl) S3.out.ow (by rfl) ?_) | (go_at_call 35; refine (ld_fill S2.out (by omega)).mono ?_; rintro e w3 ⟨vl', rfl, s3, sm3, b3⟩; have o3 := sm3.2 _ _ O2.out; have q3' := cells_of o3 3; simp at q3'; have S3 : Hid (Ld w.heap.size w w3 vl' (L ++ bitsN 0 (pad L.length) ++ rowOf []) (L ++ bitsN 0 (pad L.length))) := s3; clear s3 sm3 b3) | (go_at_call 27; refine (row_nil _ _ _).mono ?_; rintro e w4 ⟨rfl, rfl⟩)))
              all_goals go_wp2
              go_roundw
              case rel =>
                refine ⟨k + 1, by omega, by go_num, ?_⟩
                rw [HS.out]
                have h3 := S3.out
                simp only [stepL]
                simpa [rowOf] using h3
              case measure => simp [intOf]; omega
            · obtain ⟨M, hM⟩ : ∃ M, M = L ++ bitsN 0 (pad L.length) := ⟨_, rfl⟩
              obtain ⟨R, hR⟩ : ∃ R, R = rowOf zs := ⟨_, rfl⟩
              have hMl : M.length ≤ 500000 := by rw [hM]; have := pad_le L.length; simp [bitsN_length]; omega
              have hRl : R.length = 8 * dl := by rw [hR, rowOf_length, T2.out.1]
              have hs2 : w.heap.size + 1 ≤ w2.heap.size := S2.out.sz
              rw [← hM, ← hR] at S2
              have HM : Hid (M = L ++ bitsN 0 (pad L.length)) := hM
              have HR : Hid (R = rowOf zs) := hR
              have HRL : Hid (R.length = 8 * dl) := hRl
              have hR1 : 0 < R.length := by omega
              have hR2 : R.length ≤ 1600 := by omega
              clear hM hR hRl
              obtain ⟨RR, hRR⟩ : ∃ RR, RR = R.map (Value.int .i64) := ⟨_, rfl⟩
              have hrr : RR.length = R.length * 1 := by rw [hRR]; simp
              have HI : Hid (∀ u ∈ RR, u.oneCell' = true) := by rw [hRR]; exact ints_one R
              have HRR : Hid (RR = R.map (Value.int .i64)) := hRR
              clear hRR
              go_upto_region 17 with fail
              go_region_held3 (fun w' => w'.cell? ⟨wr.heap.size, 3, none⟩ = some (.slice da dl dc)) (first | go_keep | assumption) ((first
                | (refine step_append_lies _ (by rfl) (.tmp 46) (.tmp 49) 26 (by rfl) w.heap.size 3 i0 (.int .i64 0) 1 8 Try.underlying26 hi hz0 hz1 hz2 (by rfl) (by decide) _ _ _ (by rfl) S4.out.ow ⟨g4, 0, none⟩ R.length cp4 RR (by rfl) hrr C4.out HI.out hR1 (by unfold maxLen; omega) (by omega) (by omega) _ rfl ?_; intro g5 cp5 w5 hown5 hgrow5 hat5 hlt5; have S5 : Hid (Ld w.heap.size w w5 (.slice (some ⟨g5, 0, none⟩) (M.length + R.length) cp5) (M ++ R) (M ++ R)) := ld_append S4.out (by rw [HRR.out] at hown5; exact hown5) rfl hgrow5; have o5 := (Kept.of_grown hgrow5).heap o4 (fun e => ownsRow_apart S4.out.ow o4 (by decide) e.symm); have q5 := cells_of o5 3; simp at q5)
                | (go_at_call 35; refine (ld_fill_m S2.out (by omega) M HM.out).mono ?_; rintro e w3 ⟨vl', rfl, s3, sm3, b3⟩; have o3 := sm3.2 _ _ O2.out; have q3' := cells_of o3 3; simp at q3'; have S3 : Hid (Ld w.heap.size w w3 vl' (M ++ R) M) := s3; have T3 : Hid (Text w.heap.size w3 da dl zs) := T2.out.kept (Kept.of_below b3) (fun b hb e => absurd (show w2.heap.size ≤ b from e) (by omega)); have hs3 : w2.heap.size ≤ w3.heap.size := b3.size; clear s3 sm3 b3)
                | (go_at_call 27; refine (row_pos w.heap.size da dl dc zs _ T3.out (by omega) (by omega) (by omega) R HR.out).mono ?_; rintro e w4 ⟨g4, cp4, rfl, or4, b4⟩; have S4 : Hid (Ld w.heap.size w w4 vl' (M ++ R) M) := S3.out.below b4; have C4 : Hid (∀ j u, RR[j]? = some u → w4.cell? ((⟨g4, 0, none⟩ : Addr).add j) = some u) := src_rr or4 HRR.out; have o4 := (Kept.of_below b4).heap o3 (fun e => absurd (lt_of_block o3) (by omega)); have q4 := cells_of o4 3; simp at q4; have hs4 := b4.size)))
              all_goals go_wp2
              go_roundw
              case rel =>
                refine ⟨k + 1, by omega, by go_num, ?_⟩
                rw [HS.out]
                have h5 := S5.out
                rw [HM.out, HR.out] at h5
                simp only [stepL]
                simp only [HM.out, HR.out]
                simpa using h5
              case measure => simp [intOf]; omega
          · have b2 : (kind == 2) = false := by simpa using h2
            go_wp2
            go_roundw
            case rel =>
              refine ⟨k + 1, by omega, by go_num, ?_⟩
              rw [HS.out]
              simp only [stepL, if_neg h0, if_neg h1, if_neg h2]
              exact S1.out
            case measure => simp [intOf]; omega
    · have : k = len := by omega
      subst this
      go_wp2
      go_ret2
      exact ⟨_, rfl, s⟩
#print axioms laid_any
end Go.Proofs.Ytamkjlihlnejoaa
