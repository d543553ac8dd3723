/- The stream's block, and Inflate: contracts. -/
import Derived.Test.YtibolmgijaploaaDoorPDyn
namespace Go.Proofs.YtibolmgijaploaaDoor
set_option maxRecDepth 100000
open Go Go.RowKit

theorem BOk.form {B bs br : Nat} {a : Option Addr} {len cap : Nat} {zs : List Int} {m : Nat} {w w' : World} {ov : Value} {r : Except Int (Nat × List Int)} {x : Ending} (h : BOk B bs br a len cap zs m w ov r x w') : ∃ ev : Int, x = .returned (.int .i64 ev) := by
  obtain ⟨_, ⟨_, _, _, _, _, _, rfl, _⟩ | ⟨e, _, _, _, rfl⟩⟩ := h
  · exact ⟨0, rfl⟩
  · exact ⟨e, rfl⟩

/-- Where a stream stands between blocks. -/
structure BS (B bs br : Nat) (a : Option Addr) (len cap : Nat) (zs : List Int) (m : Nat) (w : World) (p : Nat) (out : List Int) (o : Option Addr) (oc : Nat) (fc : Value) : Prop where
  ss : SS B bs br a len cap zs m w p o oc fc out
  fcs : FcAt w bs br (.slice o out.length oc) fc
  tab : Tab w
/-- What block answers. -/
def KGot (B bs br : Nat) (a : Option Addr) (len cap : Nat) (zs : List Int) (m : Nat) (w : World) (q : Nat) (more : Bool) (out : List Int) (x : Ending) (w' : World) : Prop :=
  x = .returned (.tuple #[.bool (!more), .int .i64 0]) ∧ Below B w w' ∧ ∃ o oc fc, BS B bs br a len cap zs m w' q out o oc fc
def KBad (B : Nat) (w : World) (e : Int) (x : Ending) (w' : World) : Prop := (∃ b : Bool, x = .returned (.tuple #[.bool b, .int .i64 e])) ∧ Below B w w' ∧ 60 ≤ e ∧ e ≤ 65
def KOk (B bs br : Nat) (a : Option Addr) (len cap : Nat) (zs : List Int) (m : Nat) (w : World) (r : Except Int (Nat × (Bool × List Int))) (x : Ending) (w' : World) : Prop := (∃ q c o, r = .ok (q, (c, o)) ∧ KGot B bs br a len cap zs m w q c o x w') ∨ (∃ e, r = .error e ∧ KBad B w e x w')
section
variable {B bs br : Nat} {a : Option Addr} {len cap : Nat} {zs : List Int} {m : Nat} {w w' : World} {p : Nat} {o : Option Addr} {oc : Nat} {fc : Value} {out : List Int}
theorem KOk.got {r : Except Int (Nat × (Bool × List Int))} {x : Ending} {q : Nat} {c : Bool} {f : List Int} (hr : r = .ok (q, (c, f))) (h : KOk B bs br a len cap zs m w r x w') : KGot B bs br a len cap zs m w q c f x w' := by
  subst hr
  obtain ⟨q', c', o', e, h⟩ | ⟨e, h', _⟩ := h
  · cases e; exact h
  · cases h'
theorem KOk.bad {r : Except Int (Nat × (Bool × List Int))} {x : Ending} {e : Int} (hr : r = .error e) (h : KOk B bs br a len cap zs m w r x w') : KBad B w e x w' := by
  subst hr
  obtain ⟨q', c', o', e, h⟩ | ⟨e, h', h⟩ := h
  · cases e
  · cases h'; exact h
/-- Nothing ahead of B is written. -/
theorem SS.low (h : SS B bs br a len cap zs m w p o oc fc out) (k : Kept (Mv bs br (.slice o out.length oc)) w w') : Below B w w' := by
  have hb := lt_of_block h.s0
  have hi := h.inb
  refine k.below (by omega) fun i hi' hM => ?_
  rcases hM with e | e | e
  · omega
  · omega
  · have := (ownsRow_lt h.owns e).1; omega
theorem BS.rd (h : BS B bs br a len cap zs m w p out o oc fc) (hB : 0 < B) (k : Kept (fun b => b = br) w w') {q : Nat} (hr : w'.heap[br]? = some (.cells (rA a len cap q) 54 (0, 0))) (hq : q ≤ len * 8) : BS B bs br a len cap zs m w' q out o oc fc :=
  ⟨h.ss.move k hr hq, h.fcs.on (Mv.rd k) (fun _ hg _ => hg), h.tab.kept k (by have := h.ss.inb; omega)⟩
theorem BS.kept (h : BS B bs br a len cap zs m w p out o oc fc) (hB : 0 < B) (k : Kept (Mv bs br (.slice o out.length oc)) w w') : Below B w w' ∧ Tab w' := ⟨h.ss.low k, h.tab.below (h.ss.low k) hB⟩

/-- What a kind of block asks for, whichever it is. -/
theorem kind_walk (hS : BS B bs br a len cap zs m w p out o oc fc) (hB : 0 < B) {w2 : World} {q2 l : Nat} (hS2 : BS B bs br a len cap zs m w2 q2 out o oc fc) (hk : Kept (fun b => b = br) w w2) (hl : l ≤ 1) {r : Except Int (Nat × List Int)} {ev : Int} {w3 : World} (h3 : BOk B bs br a len cap zs m w2 (.slice o out.length oc) r (.returned (.int .i64 ev)) w3) :
    KOk B bs br a len cap zs m w (iThen r fun q o => .ok (q, (decide (l = 0), o))) (.returned (.tuple #[.bool (decide ((l : Int) = 1)), .int .i64 ev])) w3 := by
  have hb1 : Below B w w2 := hS.ss.low (Mv.rd hk)
  obtain ⟨k, ⟨q', out', o', oc', fc', e, hx, h1, h2, h4⟩ | ⟨e, e1, e2, e', hx⟩⟩ := h3
  · obtain ⟨hb, ht⟩ := hS2.kept hB k
    cases hx
    subst e
    refine .inl ⟨q', decide (l = 0), out', rfl, ?_, hb1.trans hb, o', oc', fc', h1, h2, ht⟩
    have : decide ((l : Int) = 1) = !decide (l = 0) := by
      rcases (show l = 0 ∨ l = 1 by omega) with rfl | rfl <;> rfl
    rw [this]
  · obtain ⟨hb, ht⟩ := hS2.kept hB k
    cases hx
    subst e'
    exact .inr ⟨ev, rfl, ⟨_, rfl⟩, hb1.trans hb, e1, e2⟩

set_option maxHeartbeats 4000000 in
theorem block_c (h : BS B bs br a len cap zs m w p out o oc fc) (hB : 0 < B) (hl : len ≤ 140737488351232) (hcap : len ≤ cap) (hm : m ≤ 10000000) (ho : out.length ≤ m) :
    Calls Tryd.prog 13 #[.pointer (some ⟨bs, 0, none⟩)] w (KOk B bs br a len cap zs m w (iBlk (ib zs) (len * 8) m p out)) := by
  have hl8 : len * 8 ≤ 9223372036854775000 := by omega
  obtain ⟨R, hR⟩ : ∃ R, R = iBlk (ib zs) (len * 8) m p out := ⟨_, rfl⟩
  rw [← hR]
  have H0 := hide h
  have hA := number_c h.ss hl8 1 1 rfl (by decide)
  have hN := fun w1 q (s : SS B bs br a len cap zs m w1 q o oc fc out) => number_c s hl8 2 2 rfl (by decide)
  clear h
  unfold iBlk at hR
  rcases h1 : iTk (ib zs) (len * 8) p 1 with e | ⟨q1, l⟩
  · rw [h1] at hA
    have HA := hide (hA.mono fun _ _ => NOk.bad rfl)
    rw [iThen_of_err h1] at hR
    have HR := hide hR
    clear hA hN hR h1
    go_enter Tryd.func13, Tryd.ntmps13
    go_wp2_with (go_at_call 23; refine HA.out.mono ?_; rintro x w1 ⟨rfl, k1, e1, e2⟩; have K1 := hide k1; clear k1)
    go_ret2
    exact .inr ⟨e, HR.out, ⟨false, rfl⟩, H0.out.ss.low (Mv.rd K1.out), e1, e2⟩
  have hl1 := iTk_lt (ib_le zs) h1
  rw [h1] at hA
  have HA := hide (hA.mono fun _ _ => NOk.got rfl)
  rw [iThen_of_ok h1] at hR
  have hN1 := fun w1 s => hN w1 q1 s
  clear hA hN h1
  rcases h2 : iTk (ib zs) (len * 8) q1 2 with e | ⟨q2, kind⟩
  · rw [h2] at hN1
    have HN := fun w1 s => hide ((hN1 w1 s).mono fun _ _ => NOk.bad rfl)
    rw [iThen_of_err h2] at hR
    have HR := hide hR
    clear hN1 hR h2
    go_enter Tryd.func13, Tryd.ntmps13
    go_wp2_with (first
      | (go_at_call 23; refine HA.out.mono ?_; rintro x w1 ⟨rfl, k1, r1, l1⟩; have K1 := hide k1; have S1 := hide (H0.out.rd hB k1 r1 l1); clear k1 r1 HA)
      | (go_at_call 23; refine (HN w1 S1.out.ss).out.mono ?_; rintro x w2 ⟨rfl, k2, e1, e2⟩; have K2 := hide (K1.out.trans k2 (fun _ _ e => e)); clear k2))
    go_ret2
    exact .inr ⟨e, HR.out, ⟨false, rfl⟩, H0.out.ss.low (Mv.rd K2.out), e1, e2⟩
  have hk4 := iTk_lt (ib_le zs) h2
  rw [h2] at hN1
  have HN := fun w1 s => hide ((hN1 w1 s).mono fun _ _ => NOk.got rfl)
  rw [iThen_of_ok h2] at hR
  have HR := hide hR
  have hl1' : l ≤ 1 := by omega
  unfold iKind at HR
  clear hN1 hR h2
  rcases (show kind = 0 ∨ kind = 1 ∨ kind = 2 ∨ kind = 3 by omega) with rfl | rfl | rfl | rfl
  · rw [if_pos rfl] at HR
    go_enter Tryd.func13, Tryd.ntmps13
    go_wp2_with (first
      | (go_at_call 23; refine HA.out.mono ?_; rintro x w1 ⟨rfl, k1, r1, l1⟩; have K1 := hide k1; have S1 := hide (H0.out.rd hB k1 r1 l1); clear k1 r1 HA)
      | (go_at_call 23; refine (HN w1 S1.out.ss).out.mono ?_; rintro x w2 ⟨rfl, k2, r2, l2⟩; have K2 := hide (K1.out.trans k2 (fun _ _ e => e)); have S2 := hide (S1.out.rd hB k2 r2 l2); clear k2 r2 HN)
      | (go_at_call 24; refine (stored_c S2.out.ss hl hcap hm ho).mono ?_; intro x w3 h3; obtain ⟨ev, rfl⟩ := h3.form; have H3 := hide (h3.block S2.out.fcs); clear h3))
    go_ret2
    rw [HR.out]
    exact kind_walk H0.out hB S2.out K2.out hl1' H3.out
  · rw [if_neg (by decide), if_pos rfl] at HR
    go_enter Tryd.func13, Tryd.ntmps13
    go_wp2_with (first
      | (go_at_call 23; refine HA.out.mono ?_; rintro x w1 ⟨rfl, k1, r1, l1⟩; have K1 := hide k1; have S1 := hide (H0.out.rd hB k1 r1 l1); clear k1 r1 HA)
      | (go_at_call 23; refine (HN w1 S1.out.ss).out.mono ?_; rintro x w2 ⟨rfl, k2, r2, l2⟩; have K2 := hide (K1.out.trans k2 (fun _ _ e => e)); have S2 := hide (S1.out.rd hB k2 r2 l2); clear k2 r2 HN)
      | (go_at_call 25; refine (fixed_c S2.out.ss S2.out.fcs hl8 hm ho).mono ?_; intro x w3 h3; obtain ⟨ev, rfl⟩ := h3.form; have H3 := hide h3; clear h3))
    go_ret2
    rw [HR.out]
    exact kind_walk H0.out hB S2.out K2.out hl1' H3.out
  · rw [if_neg (by decide), if_neg (by decide), if_pos rfl] at HR
    go_enter Tryd.func13, Tryd.ntmps13
    go_wp2_with (first
      | (go_at_call 23; refine HA.out.mono ?_; rintro x w1 ⟨rfl, k1, r1, l1⟩; have K1 := hide k1; have S1 := hide (H0.out.rd hB k1 r1 l1); clear k1 r1 HA)
      | (go_at_call 23; refine (HN w1 S1.out.ss).out.mono ?_; rintro x w2 ⟨rfl, k2, r2, l2⟩; have K2 := hide (K1.out.trans k2 (fun _ _ e => e)); have S2 := hide (S1.out.rd hB k2 r2 l2); clear k2 r2 HN)
      | (go_at_call 26; refine (dynamic_c S2.out.ss S2.out.fcs S2.out.tab hB hl8 hm ho).mono ?_; intro x w3 h3; obtain ⟨ev, rfl⟩ := h3.form; have H3 := hide h3; clear h3))
    go_ret2
    rw [HR.out]
    exact kind_walk H0.out hB S2.out K2.out hl1' H3.out
  · rw [if_neg (by decide), if_neg (by decide), if_neg (by decide)] at HR
    go_enter Tryd.func13, Tryd.ntmps13
    go_wp2_with (first
      | (go_at_call 23; refine HA.out.mono ?_; rintro x w1 ⟨rfl, k1, r1, l1⟩; have K1 := hide k1; have S1 := hide (H0.out.rd hB k1 r1 l1); clear k1 r1 HA)
      | (go_at_call 23; refine (HN w1 S1.out.ss).out.mono ?_; rintro x w2 ⟨rfl, k2, r2, l2⟩; have K2 := hide (K1.out.trans k2 (fun _ _ e => e)); clear k2 r2 HN))
    go_ret2
    exact .inr ⟨61, HR.out, ⟨_, rfl⟩, H0.out.ss.low (Mv.rd K2.out), by decide, by decide⟩
end
end Go.Proofs.YtibolmgijaploaaDoor
