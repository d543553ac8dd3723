/- The stream's number, symbol, room, times, long and back: contracts. -/
import Derived.Test.YtibolmgijaploaaDoorPState
namespace Go.Proofs.YtibolmgijaploaaDoor
set_option maxRecDepth 100000
open Go Go.RowKit

section
variable {B bs br : Nat} {a : Option Addr} {len cap : Nat} {zs : List Int} {m : Nat} {w : World} {p : Nat} {o : Option Addr} {oc : Nat} {fc : Value} {out : List Int}
theorem number_c (h : SS B bs br a len cap zs m w p o oc fc out) (hl : len * 8 ≤ 9223372036854775000) (n : Nat) (ni : Int) (hni : ni = n) (hn : n ≤ 24) :
    Calls Tryd.prog 23 #[.pointer (some ⟨bs, 0, none⟩), .int .i64 ni] w (NOk br a len cap w (iTk (ib zs) (len * 8) p n)) := by
  subst hni
  have c0 := h.c0
  have hpl := h.pl
  by_cases hp : p + n ≤ len * 8
  · have hb := bits_yes B br a len cap p n zs w h.rd h.tx hl hn hp
    rw [bits_num] at hb
    have HB := hide hb
    have HT := hide (iTk_ok (b := ib zs) hp)
    clear hb h
    go_enter Tryd.func23, Tryd.ntmps23
    go_wp2_with (go_at_call 31; refine HB.out.mono ?_; rintro x w1 ⟨rfl, h1, h2⟩; have H1 := hide h1; have H2 := hide h2; clear h1 h2)
    go_ret2
    exact NGot.ok HT.out ⟨rfl, H2.out, H1.out, hp⟩
  · have HB := hide (bits_no br a len cap p (n : Int) w h.rd hl h.pl (.inr (.inr (by omega))))
    have HT := hide (iTk_err (b := ib zs) (show len * 8 < p + n by omega))
    clear h
    go_enter Tryd.func23, Tryd.ntmps23
    go_wp2_with (go_at_call 31; refine HB.out.mono ?_; rintro x w1 ⟨rfl, k, rfl⟩)
    go_ret2
    exact NBad.ok HT.out ⟨rfl, (Kept.refl _ w).drewN k, by decide, by decide⟩

/-- huff's Next, over the plain function. -/
theorem next_nok (h : SS B bs br a len cap zs m w p o oc fc out) (hl : len * 8 ≤ 9223372036854775000) {lo hi bc gl gc : Nat} {vo : Value} {N : Nat} {ls : List Int} (hc : CodeAt lo hi w bc gl gc vo N ls) (hg : Good ls) (h3 : ls.length ≤ 320) (hbr : br < lo ∨ hi ≤ br) :
    Calls Tryd.prog 66 #[.pointer (some ⟨bc, 0, none⟩), .pointer (some ⟨br, 0, none⟩)] w fun x w' => Kept (fun b => b = br) w w' ∧ ((∃ q v, iNx ls (ib zs) (len * 8) p = .ok (q, v) ∧ x = .returned (.tuple #[.int .i64 (v : Int), .int .i64 0]) ∧ w'.heap[br]? = some (.cells (rA a len cap q) 54 (0, 0)) ∧ q ≤ len * 8) ∨ (iNx ls (ib zs) (len * 8) p = .error 60 ∧ x = .returned (.tuple #[.int .i64 0, .int .i64 42])) ∨ (iNx ls (ib zs) (len * 8) p = .error 63 ∧ x = .returned (.tuple #[.int .i64 0, .int .i64 43]))) := by
  refine (next_any lo hi bc gl gc vo N ls br a len cap p zs B w hc hg h3 h.rd h.tx hl h.pl hbr h.inb.2).mono ?_
  rintro x w' ⟨s, n, err, hx, rfl, ⟨q, hq, hql, hqe⟩, hk⟩
  refine ⟨hk, ?_⟩
  rw [bz_ib] at hx
  rcases iNx_of (ib_le zs) (T := len * 8) (p := p) hc.long hx with ⟨rfl, hh, e⟩ | ⟨rfl, e⟩ | ⟨rfl, e⟩
  · obtain rfl := hqe rfl
    exact .inl ⟨_, _, e, rfl, hq, hql⟩
  · rcases hx with ⟨h0, _⟩ | ⟨rfl, rfl, _⟩
    · exact absurd h0 (by decide)
    · exact .inr (.inl ⟨e, rfl⟩)
  · rcases hx with ⟨h0, _⟩ | ⟨rfl, rfl, _⟩
    · exact absurd h0 (by decide)
    · exact .inr (.inr ⟨e, rfl⟩)

theorem symbol_c (h : SS B bs br a len cap zs m w p o oc fc out) (hl : len * 8 ≤ 9223372036854775000) {lo hi bc gl gc : Nat} {vo : Value} {N : Nat} {ls : List Int} (hc : CodeAt lo hi w bc gl gc vo N ls) (hg : Good ls) (h3 : ls.length ≤ 320) (hbr : br < lo ∨ hi ≤ br) :
    Calls Tryd.prog 54 #[.pointer (some ⟨bs, 0, none⟩), .pointer (some ⟨bc, 0, none⟩)] w (NOk br a len cap w (iNx ls (ib zs) (len * 8) p)) := by
  have c0 := h.c0
  have HN := next_nok h hl hc hg h3 hbr
  clear h hc hg h3 hbr
  generalize iNx ls (ib zs) (len * 8) p = R at HN ⊢
  cases R with
  | ok x =>
    obtain ⟨q, v⟩ := x
    have HC : Hid (Calls Tryd.prog 66 #[.pointer (some ⟨bc, 0, none⟩), .pointer (some ⟨br, 0, none⟩)] w (NGot br a len cap w q v)) := HN.mono (by
      rintro x w' ⟨k, ⟨q', v', e, rfl, h1, h2⟩ | ⟨e, _⟩ | ⟨e, _⟩⟩
      · cases e; exact ⟨rfl, k, h1, h2⟩
      · cases e
      · cases e)
    clear HN
    go_enter Tryd.func54, Tryd.ntmps54
    go_wp2_with (go_at_call 66; refine HC.out.mono ?_; rintro x w1 ⟨rfl, h1⟩; have H1 := hide h1; clear h1)
    go_ret2
    exact NGot.ok rfl ⟨rfl, H1.out⟩
  | error e =>
    have HC : Hid ((e = 60 ∧ Calls Tryd.prog 66 #[.pointer (some ⟨bc, 0, none⟩), .pointer (some ⟨br, 0, none⟩)] w fun x w' => x = .returned (.tuple #[.int .i64 0, .int .i64 42]) ∧ Kept (fun b => b = br) w w') ∨ (e = 63 ∧ Calls Tryd.prog 66 #[.pointer (some ⟨bc, 0, none⟩), .pointer (some ⟨br, 0, none⟩)] w fun x w' => x = .returned (.tuple #[.int .i64 0, .int .i64 43]) ∧ Kept (fun b => b = br) w w') ∨ (¬ e = 60 ∧ ¬ e = 63)) := by
      by_cases h60 : e = 60
      · refine .inl ⟨h60, HN.mono ?_⟩
        rintro x w' ⟨k, ⟨q', v', e', rfl, h1, h2⟩ | ⟨e', rfl⟩ | ⟨e', rfl⟩⟩
        · cases e'
        · exact ⟨rfl, k⟩
        · cases e'; exact absurd h60 (by decide)
      · by_cases h63 : e = 63
        · refine .inr (.inl ⟨h63, HN.mono ?_⟩)
          rintro x w' ⟨k, ⟨q', v', e', rfl, h1, h2⟩ | ⟨e', rfl⟩ | ⟨e', rfl⟩⟩
          · cases e'
          · cases e'; exact absurd rfl h60
          · exact ⟨rfl, k⟩
        · exact .inr (.inr ⟨h60, h63⟩)
    rcases HC.out with ⟨rfl, hC⟩ | ⟨rfl, hC⟩ | ⟨n60, n63⟩
    · have HD := hide hC
      clear HN HC hC
      go_enter Tryd.func54, Tryd.ntmps54
      go_wp2_with (go_at_call 66; refine HD.out.mono ?_; rintro x w1 ⟨rfl, h1⟩; have H1 := hide h1; clear h1)
      go_ret2
      exact NBad.ok rfl ⟨rfl, H1.out, by decide, by decide⟩
    · have HD := hide hC
      clear HN HC hC
      go_enter Tryd.func54, Tryd.ntmps54
      go_wp2_with (go_at_call 66; refine HD.out.mono ?_; rintro x w1 ⟨rfl, h1⟩; have H1 := hide h1; clear h1)
      go_ret2
      exact NBad.ok rfl ⟨rfl, H1.out, by decide, by decide⟩
    · have HD : Hid (Calls Tryd.prog 66 #[.pointer (some ⟨bc, 0, none⟩), .pointer (some ⟨br, 0, none⟩)] w fun x w' => False) := HN.mono (by
        rintro x w' ⟨k, ⟨q', v', e', rfl, h1, h2⟩ | ⟨e', rfl⟩ | ⟨e', rfl⟩⟩
        · cases e'
        · cases e'; exact n60 rfl
        · cases e'; exact n63 rfl)
      clear HN HC
      go_enter Tryd.func54, Tryd.ntmps54
      go_wp2_with (go_at_call 66; refine HD.out.mono ?_; intro x w1 h1; exact h1.elim)

theorem room_yes (h : SS B bs br a len cap zs m w p o oc fc out) (hm : m ≤ 100000000) (n : Nat) (hn : out.length + n ≤ m) :
    Calls Tryd.prog 33 #[.pointer (some ⟨bs, 0, none⟩), .int .i64 (n : Int)] w fun x w' => x = .returned (.bool true) ∧ ∃ k, w' = w.drewN k := by
  have c1 := h.c1
  have c2 := h.c2
  have hz := lt_of_block h.s0
  have h9 : (n : Int) ≤ (m : Int) - (out.length : Int) := by omega
  clear h
  go_enter Tryd.func33, Tryd.ntmps33
  go_wp2
  go_quiet (fail)
  go_wp2
  go_ret
  exact ⟨rfl, _, rfl⟩
theorem room_no (h : SS B bs br a len cap zs m w p o oc fc out) (hm : m ≤ 100000000) (ho : out.length ≤ m) (n : Nat) (hn : m < out.length + n) :
    Calls Tryd.prog 33 #[.pointer (some ⟨bs, 0, none⟩), .int .i64 (n : Int)] w fun x w' => x = .returned (.bool false) ∧ ∃ k, w' = w.drewN k := by
  have c1 := h.c1
  have c2 := h.c2
  have hz := lt_of_block h.s0
  have h9 : ¬ (n : Int) ≤ (m : Int) - (out.length : Int) := by omega
  have HE := hide (decide_eq_false h9)
  clear h
  go_enter Tryd.func33, Tryd.ntmps33
  go_wp2
  go_quiet (fail)
  go_wp2
  go_ret
  exact ⟨congrArg (fun b => Ending.returned (.bool b)) HE.out, _, rfl⟩
end
end Go.Proofs.YtibolmgijaploaaDoor
