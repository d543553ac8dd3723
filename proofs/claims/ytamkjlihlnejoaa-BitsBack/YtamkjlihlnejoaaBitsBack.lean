/-
  PROVED: 'wainloadlaw01.BitsBack' answers true for every script: what is written is read so by the same calls; no conditions.
-/
import Derived.Test.YtamkjlihlnejoaaBackMath
import Derived.Test.YtamkjlihlnejoaaOpenOps
namespace Go.Proofs.Ytamkjlihlnejoaa.bitsBack
open Go.ChangeShapes Go.WideShapes Go.ChangeAt Go.RowKit
set_option linter.unusedVariables false

/-- A reader that stands at place p, and nothing else of what was there is written. -/
structure Bk (br : Nat) (w4 wr : World) (a : Option Addr) (len cap : Nat) (D : List Int) (p : Nat) : Prop where
  rd : wr.heap[br]? = some (.cells #[.slice a len cap, .int .i64 (p : Int)] 55 (0, 0))
  tx : Text br wr a len D
  kp : Kept (fun k => k = br) w4 wr

theorem Bk.alloc {br : Nat} {w4 wr : World} {a : Option Addr} {len cap : Nat} {D : List Int} {p : Nat} (s : Bk br w4 wr a len cap D p) (o : Obj) : Bk br w4 (wr.alloc o) a len cap D p := by
  have k : Kept (fun _ => False) wr (wr.alloc o) := Kept.alloc _ (Kept.refl _ wr) o
  exact ⟨k.heap s.rd (fun h => h), s.tx.kept k (fun _ _ h => h), s.kp.alloc _ o⟩

theorem Bk.drewN {br : Nat} {w4 wr : World} {a : Option Addr} {len cap : Nat} {D : List Int} {p : Nat} (s : Bk br w4 wr a len cap D p) (q : Nat) : Bk br w4 (wr.drewN q) a len cap D p :=
  ⟨s.rd, s.tx.kept (Kept.drewN (Kept.refl (fun _ => False) wr) q) (fun _ _ h => h), s.kp.drewN q⟩

theorem bk_new {br : Nat} {w4 wr w' : World} {a : Option Addr} {len cap : Nat} {D : List Int} {p q : Nat} (s : Bk br w4 wr a len cap D p) (h : w'.heap[br]? = some (.cells #[.slice a len cap, .int .i64 (q : Int)] 55 (0, 0))) (k : Kept (fun k => k = br) wr w') : Bk br w4 w' a len cap D q ∧ Same wr w' :=
  ⟨⟨h, s.tx.kept k (fun b hb e => by omega), s.kp.trans k (fun _ _ e => e)⟩, k.size, fun ob cs hob => k.heap hob (fun e => by subst e; rw [s.rd] at hob; simp at hob)⟩

theorem bk_bits {br : Nat} {w4 wr : World} {a : Option Addr} {len cap : Nat} {D : List Int} {p : Nat} (s : Bk br w4 wr a len cap D p) (n : Nat) (hl : len ≤ 1000000) (hn : n ≤ 24) (hp : p + n ≤ len * 8) (V : Int) (hV : V = bitsVal D p n) :
    Calls Try.prog 13 #[.pointer (some ⟨br, 0, none⟩), .int .i64 (n : Int)] wr fun e w' => e = .returned (.tuple #[.int .i64 V, .bool true]) ∧ Bk br w4 w' a len cap D (p + n) ∧ Same wr w' := by
  subst hV
  refine (bits_yes br br a len cap p n D wr s.rd s.tx (by omega) hn hp).mono ?_
  rintro e w' ⟨rfl, hb, hk⟩
  exact ⟨rfl, bk_new s hb hk⟩

theorem bk_no {br : Nat} {w4 wr : World} {a : Option Addr} {len cap : Nat} {D : List Int} {p : Nat} (s : Bk br w4 wr a len cap D p) (n : Int) (hl : len ≤ 1000000) (hp : p ≤ len * 8) (hn : n < 0 ∨ 24 < n) :
    Calls Try.prog 13 #[.pointer (some ⟨br, 0, none⟩), .int .i64 n] wr fun e w' => e = .returned (.tuple #[.int .i64 0, .bool false]) ∧ Bk br w4 w' a len cap D p ∧ Same wr w' := by
  refine (bits_no br a len cap p n wr s.rd (by omega) hp (by omega)).mono ?_
  rintro e w' ⟨rfl, k, rfl⟩
  exact ⟨rfl, bk_new s s.rd (Kept.drewN (Kept.refl _ wr) k)⟩

theorem bk_align {br : Nat} {w4 wr : World} {a : Option Addr} {len cap : Nat} {D : List Int} {p : Nat} (s : Bk br w4 wr a len cap D p) (hl : p ≤ 100000000) :
    Calls Try.prog 15 #[.pointer (some ⟨br, 0, none⟩)] wr fun e w' => e = .returned (.tuple #[]) ∧ Bk br w4 w' a len cap D (8 * ((p + 7) / 8)) ∧ Same wr w' := by
  refine (ralign_any br a len cap p wr s.rd (by omega)).mono ?_
  rintro e w' ⟨rfl, hb, hk⟩
  exact ⟨rfl, bk_new s hb hk⟩

theorem bk_bytes {br : Nat} {w4 wr : World} {a : Option Addr} {len cap : Nat} {D : List Int} {p : Nat} (s : Bk br w4 wr a len cap D p) (n : Nat) (hl : len ≤ 1000000) (hcap : len ≤ cap) (hp : p ≤ len * 8) (hn : (p + 7) / 8 + n ≤ len) (E : List Int) (hE : (D.drop ((p + 7) / 8)).take n = E) :
    Calls Try.prog 17 #[.pointer (some ⟨br, 0, none⟩), .int .i64 (n : Int)] wr fun e w' => e = .returned (.tuple #[.slice (some ⟨wr.heap.size, 0, none⟩) n n, .bool true]) ∧ OwnsB w' wr.heap.size (.slice (some ⟨wr.heap.size, 0, none⟩) n n) E ∧ Bk br w4 w' a len cap D (8 * ((p + 7) / 8 + n)) ∧ Same wr w' ∧ Kept (fun k => k = br) wr w' := by
  subst hE
  refine (rbytes_yes br br a len cap p n n rfl D wr s.rd s.tx hcap (by omega) hp hn).mono ?_
  rintro e w' ⟨rfl, ho, hb, hk⟩
  exact ⟨rfl, ho, (bk_new s hb hk).1, (bk_new s hb hk).2, hk⟩

theorem walk_out (a : Option Addr) (len cap : Nat) (os : Nat → OpD) (w : World) (h : Ops w.heap.size w a len os) (hf : ¬ (len ≤ 200 ∧ ∀ i, i < len → (os i).len ≤ 200)) :
    Calls Try.prog 5 #[.slice a len cap] w fun e w' => e = .returned (.bool true) ∧ Below w.heap.size w w' := by
  have few : Calls Try.prog 20 #[.slice a len cap] w fun e w' => e = .returned (.bool false) ∧ Below w.heap.size w w' := by
    by_cases hl : len ≤ 200
    · exact few_no a len cap os w h hl (fun hh => hf ⟨hl, hh⟩)
    · exact few_long a len cap w (by omega) h.1
  clear h hf
  go_enter Try.func5, Try.ntmps5
  go_wp2_with fail
  refine few.mono ?_
  rintro e w1 ⟨rfl, b1⟩
  clear few
  go_wp2_with fail
  refine (alive_any _).mono ?_
  rintro e w2 ⟨rfl, b2⟩
  go_wp2
  go_ret
  exact ⟨rfl, b1.trans (b2.mono b1.size)⟩

set_option maxHeartbeats 4000000 in
theorem walk_in (a : Option Addr) (len cap : Nat) (os : Nat → OpD) (w : World) (h : Ops w.heap.size w a len os) (hl : len ≤ 200) (hf : ∀ i, i < len → (os i).len ≤ 200) :
    Calls Try.prog 5 #[.slice a len cap] w fun e w' => e = .returned (.bool true) ∧ Below w.heap.size w w' := by
  have hrl := rowAt_len os len (fun i hi => by
    obtain ⟨b, off, hb, _, hc⟩ := h.2.resolve_left (by omega)
    rw [(hc i hi).tx.1]; exact hf i hi)
  have HO : Hid (Ops w.heap.size w a len os) := h
  have HF : Hid (∀ i, i < len → (os i).len ≤ 200) := hf
  clear h hf
  go_enter Try.func5, Try.ntmps5
  go_wp2_with fail
  refine (few_yes a len cap os w HO.out hl HF.out).mono ?_
  rintro e w1 ⟨rfl, b1⟩
  have hs1 := b1.size
  have O1 : Hid (Ops w1.heap.size w1 a len os) := (HO.out.kept (Kept.of_below b1) (fun b hb h => by omega)).up b1.size
  have B1 : Hid (Below w.heap.size w w1) := b1
  clear b1
  go_wp2_with fail
  refine (laid_any a len cap os w1 O1.out hl HF.out).mono ?_
  rintro e w2 ⟨vl, rfl, s2⟩
  clear O1
  obtain ⟨L, hL⟩ : ∃ L, L = rowAt os len := ⟨_, rfl⟩
  rw [← hL] at s2 hrl
  have HL : Hid (L = rowAt os len) := hL
  clear hL
  have hLl : L.length ≤ 400000 := by omega
  clear hrl
  have HB : Hid (Bin L) := s2.bin
  obtain ⟨D, hD⟩ : ∃ D, D = dataL L := ⟨_, rfl⟩
  have hDl : D.length = (L.length + 7) / 8 := by rw [hD, dataL_length]
  have HDL : Hid (D.length = (L.length + 7) / 8) := hDl
  have hD1 : D.length ≤ 100000 := by omega
  have hD2 : L.length ≤ 8 * D.length := by omega
  have HD : Hid (D = dataL L) := hD
  have S2 : Hid (Ld w1.heap.size w1 w2 vl L L) := s2
  clear s2 hD hDl
  go_wp2_with fail
  refine (ld_Data_m S2.out (by omega) D HD.out).mono ?_
  rintro e w3 ⟨g3, cp3, rfl, o3, b3⟩
  have hs2 := S2.out.bel.size
  have hs3 := b3.size
  have hcp : D.length ≤ cp3 := by
    rcases o3.2 with ⟨hv, _⟩ | ⟨g, cp, cur, hv, _, _, hle, _⟩
    · simp at hv
    · simp at hv; omega
  have hB3 : Below w.heap.size w w3 := (B1.out.trans (S2.out.bel.mono hs1)).trans (b3.mono (by omega))
  have T3 : Text w3.heap.size w3 (some ⟨g3, 0, none⟩) D.length D := by
    refine ⟨rfl, fun i => by rw [HD.out]; exact dataL_bytes L HB.out i, ?_⟩
    by_cases h0 : D.length = 0
    · exact .inl h0
    · refine .inr ⟨g3, 0, (ownsRow_lt o3 rfl).2, rfl, fun i hi => ?_⟩
      have := World.ownsRow.cellAt o3 i (by omega)
      rw [Nat.zero_add, this]
      simp [List.getD, hi]
  have s4 : Bk w3.heap.size (w3.alloc (.cells #[.slice (some ⟨g3, 0, none⟩) D.length cp3, .int .i64 0] 55)) (w3.alloc (.cells #[.slice (some ⟨g3, 0, none⟩) D.length cp3, .int .i64 0] 55)) (some ⟨g3, 0, none⟩) D.length cp3 D 0 :=
    ⟨heap_new w3 _, T3.kept (Kept.alloc _ (Kept.refl (fun _ => False) w3) _) (fun _ _ h => h), Kept.refl _ _⟩
  have S4 : Hid (Bk w3.heap.size (w3.alloc (.cells #[.slice (some ⟨g3, 0, none⟩) D.length cp3, .int .i64 0] 55)) (w3.alloc (.cells #[.slice (some ⟨g3, 0, none⟩) D.length cp3, .int .i64 0] 55)) (some ⟨g3, 0, none⟩) D.length cp3 D 0) := s4
  have B4 : Hid (Below w.heap.size w (w3.alloc (.cells #[.slice (some ⟨g3, 0, none⟩) D.length cp3, .int .i64 0] 55))) := hB3.alloc hB3.size _
  have hbr : w.heap.size ≤ w3.heap.size := hB3.size
  clear s4 hB3 T3 o3 b3 S2 hs2 hs3
  obtain ⟨br, hbre⟩ : ∃ br, br = w3.heap.size := ⟨_, rfl⟩
  have HBR : Hid (br = w3.heap.size) := hbre
  clear hbre
  go_wp2_with (go_at_call 9; refine (newReader_any _ _ _ _).mono ?_; rintro e w4 ⟨rfl, rfl⟩)
  go_loopw [30] (fun i wr => ∃ k : Nat, k ≤ len ∧ i = .int .i64 k ∧ Bk w3.heap.size (w3.alloc (.cells #[.slice (some ⟨g3, 0, none⟩) D.length cp3, .int .i64 0] 55)) wr (some ⟨g3, 0, none⟩) D.length cp3 D (rowAt os k).length) (fun i _ => len - (intOf i).toNat)
  case atStart => exact ⟨0, Nat.zero_le _, rfl, S4.out⟩
  case round =>
    obtain ⟨k, hk, rfl, s⟩ := hrel
    by_cases hlt : k < len
    · obtain ⟨_, h2⟩ := (HO.out.kept (Kept.of_below B4.out) (fun b hb h => by omega)).kept s.kp (fun b hb e => by omega)
      obtain ⟨b, off, hb, rfl, hc⟩ := h2.resolve_left (by omega)
      obtain ⟨ck, cv, cn, cs, tx, nl, _⟩ := hc k hlt
      have h200 := HF.out k hlt
      obtain ⟨T, hT⟩ := rowAt_pre os (k + 1) len (by omega)
      clear hc h2
      obtain ⟨d, hd⟩ : ∃ d, d = os k := ⟨_, rfl⟩
      rw [rowAt, ← HL.out] at hT
      rw [← hd] at ck cv cn cs h200 tx nl hT
      obtain ⟨A, hA⟩ : ∃ A, A = rowAt os k := ⟨_, rfl⟩
      rw [← hA] at s hT
      have HS : Hid (rowAt os (k + 1) = stepL A d) := by rw [rowAt, ← hA, ← hd]; rfl
      clear hd hA
      obtain ⟨kind, v, n, da, dl, dc, zs⟩ := d
      simp only at ck cv cn cs h200 tx nl
      have S1 : Hid (Bk w3.heap.size (w3.alloc (.cells #[.slice (some ⟨g3, 0, none⟩) D.length cp3, .int .i64 0] 55)) (wr.alloc (.cells #[.int .i64 kind, .int .i64 v, .int .i64 n, .slice da dl dc] 32)) (some ⟨g3, 0, none⟩) D.length cp3 D A.length) := s.alloc _
      have T1 : Hid (Text w.heap.size (wr.alloc (.cells #[.int .i64 kind, .int .i64 v, .int .i64 n, .slice da dl dc] 32)) da dl zs) := tx.kept (Kept.alloc _ (Kept.refl (fun _ => False) wr) _) (fun _ _ h => h)
      have HT : Hid (L = stepL A ⟨kind, v, n, da, dl, dc, zs⟩ ++ T) := hT
      have hAL : A.length ≤ L.length := by
        obtain ⟨U, hU⟩ := stepL_app A ⟨kind, v, n, da, dl, dc, zs⟩
        rw [hT, hU]; simp
      clear s tx nl hT
      by_cases h0 : kind = 0
      · subst h0
        by_cases hn : 0 ≤ n ∧ n ≤ 24
        · obtain ⟨n', rfl⟩ := Int.eq_ofNat_of_zero_le hn.1
          have hL2 : L = A ++ bitsN v n' ++ T := by
            have := HT.out
            simp only [stepL, if_pos hn] at this
            simpa using this
          have hfit : A.length + n' ≤ D.length * 8 := by
            have : A.length + n' ≤ L.length := by rw [hL2]; simp [bitsN_length]
            omega
          have hV : v % 2 ^ n' = bitsVal D A.length n' := by
            rw [HD.out, hL2, back_bits A T v n' (by rw [← hL2]; exact HB.out)]
          have HV : Hid (v % 2 ^ n' = bitsVal D A.length n') := hV
          have hp1 := pow_pos' n'
          have hp2 := @pow_le_62 n' (by omega)
          have e1 : IntKind.i64.wrap (2 ^ n') = 2 ^ n' := by rw [IntKind.wrap_i64]; omega
          have e2 : IntKind.i64.wrap (2 ^ n' - 1) = 2 ^ n' - 1 := by rw [IntKind.wrap_i64]; omega
          have e3 := and_mask v n' (by omega)
          clear hL2 hV hp1 hp2
          go_wp2_with fail
          refine (bk_bits S1.out n' (by omega) (by omega) (by omega) _ HV.out).mono ?_
          rintro e w5 ⟨rfl, s5, sm5⟩
          have o5 := sm5.2 _ _ (heap_new wr _)
          have q1 := cells_of o5 1
          have q2 := cells_of o5 2
          simp at q1 q2
          have S5 : Hid (Bk w3.heap.size (w3.alloc (.cells #[.slice (some ⟨g3, 0, none⟩) D.length cp3, .int .i64 0] 55)) w5 (some ⟨g3, 0, none⟩) D.length cp3 D (A.length + n')) := s5
          clear s5 sm5 S1 T1 HV o5
          go_wp2_with fail
          go_quiet (fail)
          go_wp2
          go_roundw
          case rel =>
            refine ⟨k + 1, by omega, by go_num, ?_⟩
            have e4 : (rowAt os (k + 1)).length = A.length + n' := by
              rw [HS.out]
              simp only [stepL, if_pos hn]
              simp [bitsN_length]
            rw [e4]
            exact S5.out.drewN _
          case measure => simp [intOf]; omega
        · go_wp2_with fail
          refine (bk_no S1.out n (by omega) (by omega) (by omega)).mono ?_
          rintro e w5 ⟨rfl, s5, sm5⟩
          have o5 := sm5.2 _ _ (heap_new wr _)
          have q2 := cells_of o5 2
          simp at q2
          have e4 : (rowAt os (k + 1)).length = A.length := by
            rw [HS.out]
            simp only [stepL, if_neg hn]
            simp
          have E4 : Hid ((rowAt os (k + 1)).length = A.length) := e4
          have S5 : Hid (Bk w3.heap.size (w3.alloc (.cells #[.slice (some ⟨g3, 0, none⟩) D.length cp3, .int .i64 0] 55)) w5 (some ⟨g3, 0, none⟩) D.length cp3 D A.length) := s5
          clear s5 sm5 S1 T1 o5 e4
          by_cases hn1 : n < 0
          · go_wp2
            go_roundw
            case rel => exact ⟨k + 1, by omega, by go_num, by rw [E4.out]; exact S5.out⟩
            case measure => simp [intOf]; omega
          · have hn2 : 24 < n := by omega
            go_wp2
            go_roundw
            case rel => exact ⟨k + 1, by omega, by go_num, by rw [E4.out]; exact S5.out⟩
            case measure => simp [intOf]; omega
      · have b0 : (kind == 0) = false := by simpa using h0
        by_cases h1 : kind = 1
        · subst h1
          clear b0 h0
          have e4 : (rowAt os (k + 1)).length = 8 * ((A.length + 7) / 8) := by
            rw [HS.out, pad_up]
            simp only [stepL]
            simp [bitsN_length]
          have E4 : Hid ((rowAt os (k + 1)).length = 8 * ((A.length + 7) / 8)) := e4
          clear e4
          go_wp2_with fail
          refine (bk_align S1.out (by omega)).mono ?_
          rintro e w5 ⟨rfl, s5, sm5⟩
          clear sm5 S1 T1
          go_wp2
          go_roundw
          case rel => exact ⟨k + 1, by omega, by go_num, by rw [E4.out]; exact s5⟩
          case measure => simp [intOf]; omega
        · have b1 : (kind == 1) = false := by simpa using h1
          by_cases h2 : kind = 2
          · subst h2
            clear b0 b1 h0 h1
            have hzl : zs.length = dl := T1.out.1
            have hL2 : L = (A ++ bitsN 0 (pad A.length)) ++ rowOf zs ++ T := by
              have := HT.out
              simp only [stepL] at this
              simpa using this
            have hpu := pad_up A.length
            have hA8 : (A ++ bitsN 0 (pad A.length)).length = 8 * ((A.length + 7) / 8) := by simp [bitsN_length]; omega
            have hE : (D.drop ((A.length + 7) / 8)).take dl = zs := by
              rw [HD.out, hL2, ← hzl]
              exact back_bytes _ T zs _ hA8 T1.out.mem
            have hfit : (A.length + 7) / 8 + dl ≤ D.length := by
              have : L.length = 8 * ((A.length + 7) / 8) + 8 * dl + T.length := by rw [hL2, List.length_append, List.length_append, hA8, rowOf_length, hzl]
              omega
            have e4 : (rowAt os (k + 1)).length = 8 * ((A.length + 7) / 8 + dl) := by
              rw [HS.out]
              simp only [stepL]
              simp [bitsN_length, rowOf_length, hzl]
              omega
            have E4 : Hid ((rowAt os (k + 1)).length = 8 * ((A.length + 7) / 8 + dl)) := e4
            have HE : Hid ((D.drop ((A.length + 7) / 8)).take dl = zs) := hE
            clear e4 hE hL2 hA8 hpu hzl
            go_wp2_with fail
            refine (bk_bytes S1.out dl (by omega) hcp (by omega) hfit zs HE.out).mono ?_
            rintro e w5 ⟨rfl, ob5, s5, sm5, kk5⟩
            have o5 := sm5.2 _ _ (heap_new wr _)
            have q3 := cells_of o5 3
            simp at q3
            have hcv1 : (convert 22 9 (.slice (some ⟨wr.heap.size + 1, 0, none⟩) dl dl)).run Try.prog w5 = .ok (.string (strOfNums zs)) w5 := by
              have h := conv_own ob5
              have e : (wr.alloc (.cells #[.int .i64 2, .int .i64 v, .int .i64 n, .slice da dl dc] 32)).heap.size = wr.heap.size + 1 := by simp
              rw [e] at h
              exact h
            have t5 : Text w.heap.size w5 da dl zs := T1.out.kept kk5 (fun b hb e => by omega)
            have hcv2 := conv_text (cap := dc) t5
            clear sm5 S1 T1 o5 t5 ob5 kk5
            go_wp2
            go_roundw
            case rel => exact ⟨k + 1, by omega, by go_num, by rw [E4.out]; exact s5⟩
            case measure => simp [intOf]; omega
          · have b2 : (kind == 2) = false := by simpa using h2
            go_wp2
            go_roundw
            case rel =>
              refine ⟨k + 1, by omega, by go_num, ?_⟩
              rw [HS.out]
              simp only [stepL, if_neg h0, if_neg h1, if_neg h2]
              exact S1.out
            case measure => simp [intOf]; omega
    · have : k = len := by omega
      subst this
      go_wp2_with fail
      refine (alive_any _).mono ?_
      rintro e w6 ⟨rfl, b6⟩
      have hk6 := s.kp.size
      have hf6 : Below w.heap.size w w6 := (B4.out.trans (s.kp.below (by simp; omega) (fun i hi e => by omega))).trans (b6.mono (by simp at hk6; omega))
      clear s b6
      go_wp2
      go_ret
      exact ⟨rfl, hf6⟩

theorem walk (a : Option Addr) (len cap : Nat) (os : Nat → OpD) (w : World) (h : Ops w.heap.size w a len os) :
    Calls Try.prog 5 #[.slice a len cap] w fun e w' => e = .returned (.bool true) ∧ Below w.heap.size w w' := by
  by_cases hf : len ≤ 200 ∧ ∀ i, i < len → (os i).len ≤ 200
  · exact walk_in a len cap os w h hf.1 hf.2
  · exact walk_out a len cap os w h hf

set_option maxRecDepth 100000 in
theorem lifted (os : Os) (started : os.Started) (H : Type) (enc : TypeId × Value → H) :
    ReturnsInHanded {} Try.checked os 5 .any (Rows.bitsBackSpec.pre6 enc Try.prog Try.f5 Rows.bitsBackRow.domain false) (Rows.bitsBackSpec.post enc Try.prog Try.f5 false true false false) := by
  refine returnsInHanded_of_change_sized (C := Try.checked) own started (by kernel_rfl) Try.func5
    (ChangeSpec.witness6 (enc := enc) (C := Try.checked) false ⟨#[], #[.slice none 0 0], []⟩ 8 (by kernel_rfl) (by kernel_rfl) (by kernel_rfl) (by kernel_rfl)) ?_
  intro W base args ds gs before hval0 hW _ hsz0 _
  have hsz : (DataW.weightsEach Try.prog (Try.f5.params.toList ++ Rows.bitsBackSpec.plain.varTypes Try.prog) (ds ++ gs)).all (· ≤ reachBytes) = true := hsz0
  clear hsz0
  have hval : ∀ (j : Nat) t v, Try.f5.params[j]? = some t → args[j]? = some v → Value.okWide Try.prog W .any base t v := hval0
  have hW' := hW
  obtain ⟨p, q, hA0, hV, rfl, hfz, hnd⟩ := hW
  have hA : DataW.TrodAll enc Try.prog W 0 (fun _ => true) true Try.f5.params.toList args.toList ds p := hA0
  rw [Try.params5] at hA hval hsz
  obtain ⟨v0, vs0, d0, ds0, p0, q0, hargs, rfl, rfl, h0, r0⟩ := trodAll_cons hA
  obtain ⟨rfl, rfl, rfl⟩ := trodAll_nil r0
  obtain rfl : args = #[v0] := by cases args; simp_all
  obtain ⟨rfl, rfl⟩ := trodVars_none hV
  obtain ⟨a0, len0, cap0, rfl⟩ := okWide_slice Try.underlying23 (hval 0 23 v0 rfl rfl)
  have k0 := h0
  have lt0 : ∀ x ∈ p0, x.block < W.heap.size := by obtain ⟨m, hm⟩ := k0; exact DataW.trod_lt m _ _ _ hm
  obtain ⟨o0, t0⟩ := open_ops h0
  clear hA0 hval0
  refine (walk a0 len0 cap0 o0 W t0).mono fun e W' ⟨he, bel⟩ => ?_
  subst he
  exact ⟨_, rfl, _, _, _, [], _, [], hW', trodAll_mk1 (shut_bool Try.underlying4 _), (trodAll_cons_mk (Below.trod laidOut (by kernel_rfl) (of_decide_eq_true (by kernel_rfl)) k0 bel lt0) trodAll_mk0), rfl, bel.frame _, fun h => by cases h⟩

theorem over : Rows.bitsBackRow.holds Try.pinned (OpenSpec.ofChange Rows.bitsBackSpec) :=
  OpenClaim.holds_of_wide 5 Try.f5 rfl rfl rfl rfl rfl rfl rfl ⟨rfl, rfl, rfl, rfl, rfl⟩ rfl rfl rfl rfl rfl (by kernel_rfl) Try.func5 (by kernel_rfl)
    (of_decide_eq_true (by kernel_rfl)) (by unfold Func.isWrapper; first | (rw [if_pos (by decide +kernel)]; kernel_rfl) | (rw [if_neg (by decide +kernel)]; exact ⟨rfl, rfl⟩))
    (fun os started H enc _ => lifted os started H enc)

theorem proved : Rows.BitsBackSaid := over
end Go.Proofs.Ytamkjlihlnejoaa.bitsBack
namespace Go.Proofs.Ytamkjlihlnejoaa
theorem bitsBack_holds : Rows.BitsBackSaid := bitsBack.proved
#print axioms bitsBack_holds
end Go.Proofs.Ytamkjlihlnejoaa
