/- Several texts, laid together: PRead, PSpec. -/
import Derived.Test.YtibolmgijaploaaDoorG12PState
import Derived.Test.YtibolmgijaploaaDoorG11ReadBits
/- The stream's number, symbol, room, times, long and back: contracts. -/
namespace Go.Proofs.YtibolmgijaploaaDoor
set_option maxRecDepth 100000
open Go Go.RowKit

section
variable {B bs br : Nat} {a : Option Addr} {len cap : Nat} {zs : List Int} {m : Nat} {w : World} {p : Nat} {o : Option Addr} {oc : Nat} {fc : Value} {out : List Int}
theorem number_c (h : SS B bs br a len cap zs m w p o oc fc out) (hl : len * 8 ≤ 9223372036854775000) (n : Nat) (ni : Int) (hni : ni = n) (hn : n ≤ 24) :
    Calls Tryd.prog 23 #[.pointer (some ⟨bs, 0, none⟩), .int .i64 ni] w (NOk br a len cap w (iTk (ib zs) (len * 8) p n)) := by
  subst hni
  have c0 := h.c0
  have hpl := h.pl
  by_cases hp : p + n ≤ len * 8
  · have hb := bits_yes B br a len cap p n zs w h.rd h.tx hl hn hp
    rw [bits_num] at hb
    have HB := hide hb
    have HT := hide (iTk_ok (b := ib zs) hp)
    clear hb h
    go_enter Tryd.func23, Tryd.ntmps23
    go_wp2_with (go_at_call 31; refine HB.out.mono ?_; rintro x w1 ⟨rfl, h1, h2⟩; have H1 := hide h1; have H2 := hide h2; clear h1 h2)
    go_ret2
    exact NGot.ok HT.out ⟨rfl, H2.out, H1.out, hp⟩
  · have HB := hide (bits_no br a len cap p (n : Int) w h.rd hl h.pl (.inr (.inr (by omega))))
    have HT := hide (iTk_err (b := ib zs) (show len * 8 < p + n by omega))
    clear h
    go_enter Tryd.func23, Tryd.ntmps23
    go_wp2_with (go_at_call 31; refine HB.out.mono ?_; rintro x w1 ⟨rfl, k, rfl⟩)
    go_ret2
    exact NBad.ok HT.out ⟨rfl, (Kept.refl _ w).drewN k, by decide, by decide⟩

/-- huff's Next, over the plain function. -/
theorem next_nok (h : SS B bs br a len cap zs m w p o oc fc out) (hl : len * 8 ≤ 9223372036854775000) {lo hi bc gl gc : Nat} {vo : Value} {N : Nat} {ls : List Int} (hc : CodeAt lo hi w bc gl gc vo N ls) (hg : Good ls) (h3 : ls.length ≤ 320) (hbr : br < lo ∨ hi ≤ br) :
    Calls Tryd.prog 66 #[.pointer (some ⟨bc, 0, none⟩), .pointer (some ⟨br, 0, none⟩)] w fun x w' => Kept (fun b => b = br) w w' ∧ ((∃ q v, iNx ls (ib zs) (len * 8) p = .ok (q, v) ∧ x = .returned (.tuple #[.int .i64 (v : Int), .int .i64 0]) ∧ w'.heap[br]? = some (.cells (rA a len cap q) 54 (0, 0)) ∧ q ≤ len * 8) ∨ (iNx ls (ib zs) (len * 8) p = .error 60 ∧ x = .returned (.tuple #[.int .i64 0, .int .i64 42])) ∨ (iNx ls (ib zs) (len * 8) p = .error 63 ∧ x = .returned (.tuple #[.int .i64 0, .int .i64 43]))) := by
  refine (next_any lo hi bc gl gc vo N ls br a len cap p zs B w hc hg h3 h.rd h.tx hl h.pl hbr h.inb.2).mono ?_
  rintro x w' ⟨s, n, err, hx, rfl, ⟨q, hq, hql, hqe⟩, hk⟩
  refine ⟨hk, ?_⟩
  rw [bz_ib] at hx
  rcases iNx_of (ib_le zs) (T := len * 8) (p := p) hc.long hx with ⟨rfl, hh, e⟩ | ⟨rfl, e⟩ | ⟨rfl, e⟩
  · obtain rfl := hqe rfl
    exact .inl ⟨_, _, e, rfl, hq, hql⟩
  · rcases hx with ⟨h0, _⟩ | ⟨rfl, rfl, _⟩
    · exact absurd h0 (by decide)
    · exact .inr (.inl ⟨e, rfl⟩)
  · rcases hx with ⟨h0, _⟩ | ⟨rfl, rfl, _⟩
    · exact absurd h0 (by decide)
    · exact .inr (.inr ⟨e, rfl⟩)

theorem symbol_c (h : SS B bs br a len cap zs m w p o oc fc out) (hl : len * 8 ≤ 9223372036854775000) {lo hi bc gl gc : Nat} {vo : Value} {N : Nat} {ls : List Int} (hc : CodeAt lo hi w bc gl gc vo N ls) (hg : Good ls) (h3 : ls.length ≤ 320) (hbr : br < lo ∨ hi ≤ br) :
    Calls Tryd.prog 54 #[.pointer (some ⟨bs, 0, none⟩), .pointer (some ⟨bc, 0, none⟩)] w (NOk br a len cap w (iNx ls (ib zs) (len * 8) p)) := by
  have c0 := h.c0
  have HN := next_nok h hl hc hg h3 hbr
  clear h hc hg h3 hbr
  generalize iNx ls (ib zs) (len * 8) p = R at HN ⊢
  cases R with
  | ok x =>
    obtain ⟨q, v⟩ := x
    have HC : Hid (Calls Tryd.prog 66 #[.pointer (some ⟨bc, 0, none⟩), .pointer (some ⟨br, 0, none⟩)] w (NGot br a len cap w q v)) := HN.mono (by
      rintro x w' ⟨k, ⟨q', v', e, rfl, h1, h2⟩ | ⟨e, _⟩ | ⟨e, _⟩⟩
      · cases e; exact ⟨rfl, k, h1, h2⟩
      · cases e
      · cases e)
    clear HN
    go_enter Tryd.func54, Tryd.ntmps54
    go_wp2_with (go_at_call 66; refine HC.out.mono ?_; rintro x w1 ⟨rfl, h1⟩; have H1 := hide h1; clear h1)
    go_ret2
    exact NGot.ok rfl ⟨rfl, H1.out⟩
  | error e =>
    have HC : Hid ((e = 60 ∧ Calls Tryd.prog 66 #[.pointer (some ⟨bc, 0, none⟩), .pointer (some ⟨br, 0, none⟩)] w fun x w' => x = .returned (.tuple #[.int .i64 0, .int .i64 42]) ∧ Kept (fun b => b = br) w w') ∨ (e = 63 ∧ Calls Tryd.prog 66 #[.pointer (some ⟨bc, 0, none⟩), .pointer (some ⟨br, 0, none⟩)] w fun x w' => x = .returned (.tuple #[.int .i64 0, .int .i64 43]) ∧ Kept (fun b => b = br) w w') ∨ (¬ e = 60 ∧ ¬ e = 63)) := by
      by_cases h60 : e = 60
      · refine .inl ⟨h60, HN.mono ?_⟩
        rintro x w' ⟨k, ⟨q', v', e', rfl, h1, h2⟩ | ⟨e', rfl⟩ | ⟨e', rfl⟩⟩
        · cases e'
        · exact ⟨rfl, k⟩
        · cases e'; exact absurd h60 (by decide)
      · by_cases h63 : e = 63
        · refine .inr (.inl ⟨h63, HN.mono ?_⟩)
          rintro x w' ⟨k, ⟨q', v', e', rfl, h1, h2⟩ | ⟨e', rfl⟩ | ⟨e', rfl⟩⟩
          · cases e'
          · cases e'; exact absurd rfl h60
          · exact ⟨rfl, k⟩
        · exact .inr (.inr ⟨h60, h63⟩)
    rcases HC.out with ⟨rfl, hC⟩ | ⟨rfl, hC⟩ | ⟨n60, n63⟩
    · have HD := hide hC
      clear HN HC hC
      go_enter Tryd.func54, Tryd.ntmps54
      go_wp2_with (go_at_call 66; refine HD.out.mono ?_; rintro x w1 ⟨rfl, h1⟩; have H1 := hide h1; clear h1)
      go_ret2
      exact NBad.ok rfl ⟨rfl, H1.out, by decide, by decide⟩
    · have HD := hide hC
      clear HN HC hC
      go_enter Tryd.func54, Tryd.ntmps54
      go_wp2_with (go_at_call 66; refine HD.out.mono ?_; rintro x w1 ⟨rfl, h1⟩; have H1 := hide h1; clear h1)
      go_ret2
      exact NBad.ok rfl ⟨rfl, H1.out, by decide, by decide⟩
    · have HD : Hid (Calls Tryd.prog 66 #[.pointer (some ⟨bc, 0, none⟩), .pointer (some ⟨br, 0, none⟩)] w fun x w' => False) := HN.mono (by
        rintro x w' ⟨k, ⟨q', v', e', rfl, h1, h2⟩ | ⟨e', rfl⟩ | ⟨e', rfl⟩⟩
        · cases e'
        · cases e'; exact n60 rfl
        · cases e'; exact n63 rfl)
      clear HN HC
      go_enter Tryd.func54, Tryd.ntmps54
      go_wp2_with (go_at_call 66; refine HD.out.mono ?_; intro x w1 h1; exact h1.elim)

theorem room_yes (h : SS B bs br a len cap zs m w p o oc fc out) (hm : m ≤ 100000000) (n : Nat) (hn : out.length + n ≤ m) :
    Calls Tryd.prog 33 #[.pointer (some ⟨bs, 0, none⟩), .int .i64 (n : Int)] w fun x w' => x = .returned (.bool true) ∧ ∃ k, w' = w.drewN k := by
  have c1 := h.c1
  have c2 := h.c2
  have hz := lt_of_block h.s0
  have h9 : (n : Int) ≤ (m : Int) - (out.length : Int) := by omega
  clear h
  go_enter Tryd.func33, Tryd.ntmps33
  go_wp2
  go_quiet (fail)
  go_wp2
  go_ret
  exact ⟨rfl, _, rfl⟩
theorem room_no (h : SS B bs br a len cap zs m w p o oc fc out) (hm : m ≤ 100000000) (ho : out.length ≤ m) (n : Nat) (hn : m < out.length + n) :
    Calls Tryd.prog 33 #[.pointer (some ⟨bs, 0, none⟩), .int .i64 (n : Int)] w fun x w' => x = .returned (.bool false) ∧ ∃ k, w' = w.drewN k := by
  have c1 := h.c1
  have c2 := h.c2
  have hz := lt_of_block h.s0
  have h9 : ¬ (n : Int) ≤ (m : Int) - (out.length : Int) := by omega
  have HE := hide (decide_eq_false h9)
  clear h
  go_enter Tryd.func33, Tryd.ntmps33
  go_wp2
  go_quiet (fail)
  go_wp2
  go_ret
  exact ⟨congrArg (fun b => Ending.returned (.bool b)) HE.out, _, rfl⟩
end
end Go.Proofs.YtibolmgijaploaaDoor

/- A run's length and distance, as plain functions; how one symbol of the data goes on. No Go text in sight. -/
namespace Go.Proofs.YtibolmgijaploaaDoor
set_option maxRecDepth 100000

/-- A run's length; its distance; the run. -/
def iLong (b : Nat → Nat) (T q v : Nat) : Except Int (Nat × Nat) := if 285 < v then .error 63 else iThen (iTk b T q (iLx v)) fun q x => .ok (q, iLb v + x)
noncomputable def iBack (D : List Int) (b : Nat → Nat) (T q : Nat) : Except Int (Nat × Nat) := iThen (iNx D b T q) fun q w => if 29 < w then .error 63 else iThen (iTk b T q (iDx w)) fun q x => .ok (q, iDb w + x)
noncomputable def iRun (D : List Int) (b : Nat → Nat) (T most q v : Nat) (out : List Int) : Except Int (Nat × List Int) :=
  iThen (iLong b T q v) fun q n => iThen (iBack D b T q) fun q d => if out.length < d then .error 64 else if most < out.length + n then .error 65 else .ok (q, iCpy out d n)
def iOn (r : Except Int (Nat × List Int)) : Except Int (Nat × (Bool × List Int)) := iThen r fun q o => .ok (q, (true, o))
theorem iRun_eq (D : List Int) (b : Nat → Nat) (T most q v : Nat) (out : List Int) :
    iOn (iRun D b T most q v out) = if 285 < v then .error 63
      else iThen (iTk b T q (iLx v)) fun q more => iThen (iNx D b T q) fun q w =>
    if 29 < w then .error 63 else iThen (iTk b T q (iDx w)) fun q away =>
    if out.length < iDb w + away then .error 64 else if most < out.length + (iLb v + more) then .error 65
    else .ok (q, (true, iCpy out (iDb w + away) (iLb v + more))) := by
  unfold iOn iRun iLong iBack
  by_cases h1 : 285 < v
  · rw [if_pos h1, if_pos h1]; rfl
  · rw [if_neg h1, if_neg h1]
    cases iTk b T q (iLx v) with
    | error e => rfl
    | ok x =>
      obtain ⟨q1, more⟩ := x
      simp only [iThen]
      cases iNx D b T q1 with
      | error e => rfl
      | ok x =>
        obtain ⟨q2, w⟩ := x
        simp only
        by_cases h2 : 29 < w
        · rw [if_pos h2, if_pos h2]
        · rw [if_neg h2, if_neg h2]
          cases iTk b T q2 (iDx w) with
          | error e => rfl
          | ok x =>
            obtain ⟨q3, away⟩ := x
            simp only
            by_cases h3 : out.length < iDb w + away
            · rw [if_pos h3, if_pos h3]
            · rw [if_neg h3, if_neg h3]
              by_cases h4 : most < out.length + (iLb v + more)
              · rw [if_pos h4, if_pos h4]
              · rw [if_neg h4, if_neg h4]
/-- One symbol of the data, by what it is. -/
theorem iOne_err {S D : List Int} {b : Nat → Nat} {T most p : Nat} {out : List Int} {e : Int} (h : iNx S b T p = .error e) : iOne S D b T most p out = .error e := by unfold iOne; rw [iThen_of_err h]
theorem iOne_byte {S D : List Int} {b : Nat → Nat} {T most p q v : Nat} {out : List Int} (h : iNx S b T p = .ok (q, v)) (hv : v < 256) (ho : out.length < most) : iOne S D b T most p out = .ok (q, (true, out ++ [(v : Int)])) := by
  unfold iOne; rw [iThen_of_ok h, if_pos hv, if_neg (by omega)]
theorem iOne_over {S D : List Int} {b : Nat → Nat} {T most p q v : Nat} {out : List Int} (h : iNx S b T p = .ok (q, v)) (hv : v < 256) (ho : most ≤ out.length) : iOne S D b T most p out = .error 65 := by
  unfold iOne; rw [iThen_of_ok h, if_pos hv, if_pos (by omega)]
theorem iOne_end {S D : List Int} {b : Nat → Nat} {T most p q : Nat} {out : List Int} (h : iNx S b T p = .ok (q, 256)) : iOne S D b T most p out = .ok (q, (false, out)) := by
  unfold iOne; rw [iThen_of_ok h, if_neg (by decide), if_pos rfl]
theorem iOne_run {S D : List Int} {b : Nat → Nat} {T most p q v : Nat} {out : List Int} (h : iNx S b T p = .ok (q, v)) (hv : 256 < v) : iOne S D b T most p out = iOn (iRun D b T most q v out) := by
  rw [iRun_eq]; unfold iOne; rw [iThen_of_ok h, if_neg (by omega), if_neg (by omega)]
theorem iCpy_length' (out : List Int) (d n : Nat) : (iCpy out d n).length = out.length + n := by
  induction n generalizing out with
  | zero => rfl
  | succ n ih => rw [iCpy, ih]; simp; omega
theorem iCpy_succ (out : List Int) (d n : Nat) : iCpy out d (n + 1) = iCpy out d n ++ [ln (iCpy out d n) (out.length + n - d)] := by
  induction n generalizing out with
  | zero => rfl
  | succ n ih =>
    rw [iCpy, ih, iCpy]
    congr 3
    simp; omega
/-- What is read is a code's symbol. -/
theorem iNx_lt {ls : List Int} {b : Nat → Nat} {T p q v : Nat} (h : iNx ls b T p = .ok (q, v)) : v < ls.length ∧ p < q := by
  obtain ⟨n, rfl, hh⟩ := iNx_got h
  exact ⟨hh.2.1, by have := hh.2.2.1; omega⟩
theorem iTk_lt {b : Nat → Nat} (hb : ∀ i, b i ≤ 1) {T p n q v : Nat} (h : iTk b T p n = .ok (q, v)) : v < 2 ^ n := by
  rw [(iTk_got h).2.2]; exact iNum_lt hb p n
theorem iLong_err {b : Nat → Nat} {T q v : Nat} (h : 285 < v) : iLong b T q v = .error 63 := if_pos h
theorem iLong_is {b : Nat → Nat} {T q v n k : Nat} (h : v ≤ 285) (hn : iLx v = n) (hk : iLb v = k) : iLong b T q v = iThen (iTk b T q n) fun q x => .ok (q, k + x) := by
  unfold iLong; rw [if_neg (by omega), hn, hk]
theorem iLong_none {b : Nat → Nat} {T q v k : Nat} (h : v ≤ 285) (hq : q ≤ T) (hn : iLx v = 0) (hk : iLb v = k) : iLong b T q v = .ok (q, k) := by
  rw [iLong_is h hn hk, iThen_of_ok (iTk_ok (by omega))]; rfl
/-- How long a run is at the most. -/
theorem iLb_le : ∀ v, v ≤ 285 → iLb v ≤ 258 := by decide
theorem iLx_le : ∀ v, v ≤ 285 → iLx v ≤ 5 := by decide
theorem iDb_le : ∀ v, v ≤ 29 → iDb v ≤ 24577 := by decide
theorem iDx_le : ∀ v, v ≤ 29 → iDx v ≤ 13 := by decide
theorem iLong_le {b : Nat → Nat} (hb : ∀ i, b i ≤ 1) {T q v q' n : Nat} (h : iLong b T q v = .ok (q', n)) : n ≤ 300 := by
  unfold iLong at h
  split at h
  · cases h
  · obtain ⟨q1, x, h1, h2⟩ := iThen_ok h
    have h3 := iTk_lt hb h1
    have h4 := iLb_le v (by omega)
    have h5 := iLx_le v (by omega)
    have : 2 ^ iLx v ≤ 2 ^ 5 := Nat.pow_le_pow_right (by decide) h5
    cases h2
    omega
theorem iBack_le {D : List Int} {b : Nat → Nat} (hb : ∀ i, b i ≤ 1) {T q q' d : Nat} (h : iBack D b T q = .ok (q', d)) : 1 ≤ d ∧ d ≤ 40000 := by
  unfold iBack at h
  obtain ⟨q1, v, h0, h⟩ := iThen_ok h
  split at h
  · cases h
  · obtain ⟨q1, x, h1, h2⟩ := iThen_ok h
    have h3 := iTk_lt hb h1
    have h4 := iDb_le v (by omega)
    have h5 := iDx_le v (by omega)
    have h6 := iDb_pos v
    have : 2 ^ iDx v ≤ 2 ^ 13 := Nat.pow_le_pow_right (by decide) h5
    cases h2
    omega
theorem iRun_le {D : List Int} {b : Nat → Nat} {T most q v : Nat} {out : List Int} {q' : Nat} {o : List Int} (h : iRun D b T most q v out = .ok (q', o)) : o.length ≤ most := by
  unfold iRun at h
  obtain ⟨q1, n, _, h⟩ := iThen_ok h
  obtain ⟨q2, d, _, h⟩ := iThen_ok h
  split at h
  · cases h
  · split at h
    · cases h
    · cases h
      rw [iCpy_length']; omega
end Go.Proofs.YtibolmgijaploaaDoor
