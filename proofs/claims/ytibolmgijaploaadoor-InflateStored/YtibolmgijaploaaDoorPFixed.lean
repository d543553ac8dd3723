/- The stream's fixedBlock: contract. -/
import Derived.Test.YtibolmgijaploaaDoorPData
import Derived.Test.YtibolmgijaploaaDoorPMake
namespace Go.Proofs.YtibolmgijaploaaDoor
set_option maxRecDepth 100000
open Go Go.RowKit

theorem ints_at {w : World} {g : Nat} {L : List Int} {t : TypeId} {fr : Nat × Nat} (h : w.heap[g]? = some (.cells (valA L) t fr)) : Ints g (g + 1) w (some ⟨g, 0, none⟩) L :=
  .inr ⟨g, 0, by omega, by omega, lt_of_block h, rfl, fun i hi => by
    rw [Nat.zero_add]
    have : w.cell? ⟨g, i, none⟩ = (valA L)[i]? := by simp [World.cell?, h]
    rw [this]; exact valA_at L hi⟩
/-- The fixed codes: not made yet, or made. -/
def FcAt (w : World) (bs br : Nat) (ov fc : Value) : Prop := fc = .pointer none ∨ ∃ lo hi bk, fc = .pointer (some ⟨bk, 0, none⟩) ∧ CdsX lo hi w bk iFix iFive ∧ hi ≤ w.heap.size ∧ Aw lo hi bs br ov
theorem FcAt.on {w w' : World} {bs br : Nat} {ov ov' fc : Value} (h : FcAt w bs br ov fc) (k : Kept (Mv bs br ov) w w') (hold : ∀ g, ov'.ownBlock = some g → g < w.heap.size → ov.ownBlock = some g) : FcAt w' bs br ov' fc := by
  rcases h with h | ⟨lo, hi, bk, h1, h2, h3, h4⟩
  · exact .inl h
  · refine .inr ⟨lo, hi, bk, h1, h2.kept k h4, Nat.le_trans h3 k.size, fun b hb1 hb2 hM => ?_⟩
    rcases hM with e | e | e
    · exact h4 b hb1 hb2 (.inl e)
    · exact h4 b hb1 hb2 (.inr (.inl e))
    · exact h4 b hb1 hb2 (.inr (.inr (hold b e (by omega))))

/-- What a block answers: as DOk, but the fixed codes may have been made meanwhile. -/
def BOk (B bs br : Nat) (a : Option Addr) (len cap : Nat) (zs : List Int) (m : Nat) (w : World) (ov : Value) (r : Except Int (Nat × List Int)) (x : Ending) (w' : World) : Prop :=
  Kept (Mv bs br ov) w w' ∧ ((∃ q out o oc fc, r = .ok (q, out) ∧ x = .returned (.int .i64 0) ∧ SS B bs br a len cap zs m w' q o oc fc out ∧ FcAt w' bs br (.slice o out.length oc) fc ∧ (∀ g, (Value.slice o out.length oc).ownBlock = some g → g < w.heap.size → ov.ownBlock = some g)) ∨ (∃ e, 60 ≤ e ∧ e ≤ 65 ∧ r = .error e ∧ x = .returned (.int .i64 e)))
def BGot (B bs br : Nat) (a : Option Addr) (len cap : Nat) (zs : List Int) (m : Nat) (w : World) (ov : Value) (q : Nat) (out : List Int) (x : Ending) (w' : World) : Prop :=
  x = .returned (.int .i64 0) ∧ Kept (Mv bs br ov) w w' ∧ ∃ o oc fc, SS B bs br a len cap zs m w' q o oc fc out ∧ FcAt w' bs br (.slice o out.length oc) fc ∧ (∀ g, (Value.slice o out.length oc).ownBlock = some g → g < w.heap.size → ov.ownBlock = some g)
section
variable {B bs br : Nat} {a : Option Addr} {len cap : Nat} {zs : List Int} {m : Nat} {w w' : World} {p : Nat} {o : Option Addr} {oc : Nat} {fc : Value} {out : List Int}
theorem BOk.got {r : Except Int (Nat × List Int)} {x : Ending} {ov : Value} {q : Nat} (hr : r = .ok (q, out)) (h : BOk B bs br a len cap zs m w ov r x w') : BGot B bs br a len cap zs m w ov q out x w' := by
  subst hr
  obtain ⟨k, ⟨q', v', o, oc, fc, e, rfl, h1, h2⟩ | ⟨e, _, _, h', _⟩⟩ := h
  · cases e; exact ⟨rfl, k, o, oc, fc, h1, h2⟩
  · cases h'
theorem BOk.bad {r : Except Int (Nat × List Int)} {x : Ending} {ov : Value} {e : Int} (hr : r = .error e) (h : BOk B bs br a len cap zs m w ov r x w') : DBad bs br w ov e x w' := by
  subst hr
  obtain ⟨k, ⟨q', v', o, oc, fc, e, rfl, h1, h2⟩ | ⟨e, h1, h2, h', rfl⟩⟩ := h
  · cases e
  · cases h'; exact ⟨rfl, k, h1, h2⟩
theorem DOk.block {r : Except Int (Nat × List Int)} {x : Ending} {ov : Value} (h : DOk B bs br a len cap zs m fc w ov r x w') (hf : FcAt w bs br ov fc) : BOk B bs br a len cap zs m w ov r x w' := by
  obtain ⟨k, ⟨q', out', o', oc', e, rfl, h1, h2⟩ | h'⟩ := h
  · exact ⟨k, .inl ⟨q', out', o', oc', fc, e, rfl, h1, hf.on k h2, h2⟩⟩
  · exact ⟨k, .inr h'⟩
theorem DBad.block {r : Except Int (Nat × List Int)} {x : Ending} {ov : Value} {e : Int} (hr : r = .error e) (h : DBad bs br w ov e x w') : BOk B bs br a len cap zs m w ov r x w' := ⟨h.2.1, .inr ⟨e, h.2.2.1, h.2.2.2, hr, h.1⟩⟩
/-- Behind other doings that handed the stream on. -/
theorem BOk.after {w0 : World} {ov : Value} {r : Except Int (Nat × List Int)} {x : Ending} (h : BOk B bs br a len cap zs m w (.slice o out.length oc) r x w') (k : Kept (Mv bs br ov) w0 w) (hold : ∀ g, (Value.slice o out.length oc).ownBlock = some g → g < w0.heap.size → ov.ownBlock = some g) : BOk B bs br a len cap zs m w0 ov r x w' := by
  have hz := k.size
  have hk : ∀ {wz}, Kept (Mv bs br (.slice o out.length oc)) w wz → Kept (Mv bs br ov) w0 wz := fun k2 => k.trans k2 (fun i hi e => by
    rcases e with e | e | e
    · exact .inl e
    · exact .inr (.inl e)
    · exact .inr (.inr (hold i e hi)))
  obtain ⟨k2, ⟨q', out', o', oc', fc', e, rfl, h1, h2, h3⟩ | h'⟩ := h
  · exact ⟨hk k2, .inl ⟨q', out', o', oc', fc', e, rfl, h1, h2, fun g hg hlt => hold g (h3 g hg (by omega)) hlt⟩⟩
  · exact ⟨hk k2, .inr h'⟩
theorem iFix_good : Good iFix := check_good iFix_check
theorem iFive_good : Good iFive := check_good iFive_check

/-- The codes are put into the stream. -/
theorem SS.codes (h : SS B bs br a len cap zs m w p o oc fc out) (v : Value) : SS B bs br a len cap zs m (w.setCell ⟨bs, 3, none⟩ v) p o oc v out := by
  have hset : Kept (fun b => b = bs) w (w.setCell ⟨bs, 3, none⟩ v) := Kept.setCell (M := fun b => b = bs) (Kept.refl _ w) (fun _ => rfl) _
  refine ⟨by rw [set_of h.s0 3]; rfl, by rw [set_other (fun e => h.ne e.symm)]; exact h.rd, h.tx.kept hset (fun b hb e => by have := h.inb; omega), ownsRow_kept h.owns hset (fun g hg e => h.ns (by rw [hg, e])), h.inb, h.pl⟩

theorem DOk.form {r : Except Int (Nat × List Int)} {x : Ending} {ov : Value} (h : DOk B bs br a len cap zs m fc w ov r x w') : ∃ ev : Int, x = .returned (.int .i64 ev) := by
  obtain ⟨_, ⟨_, _, _, _, _, rfl, _⟩ | ⟨e, _, _, _, rfl⟩⟩ := h
  · exact ⟨0, rfl⟩
  · exact ⟨e, rfl⟩
theorem Aw.new {lo hi : Nat} (h : SS B bs br a len cap zs m w p o oc fc out) (hz : w.heap.size ≤ lo) : Aw lo hi bs br (.slice o out.length oc) := fun b h1 _ hM => by
  rcases hM with e | e | e
  · have := lt_of_block h.s0; omega
  · have := lt_of_block h.rd; omega
  · have := (ownsRow_lt h.owns e).2; omega
set_option maxHeartbeats 4000000 in
theorem fixed_c (h : SS B bs br a len cap zs m w p o oc fc out) (hf : FcAt w bs br (.slice o out.length oc) fc) (hl8 : len * 8 ≤ 9223372036854775000) (hm : m ≤ 10000000) (ho : out.length ≤ m) :
    Calls Tryd.prog 25 #[.pointer (some ⟨bs, 0, none⟩)] w (BOk B bs br a len cap zs m w (.slice o out.length oc) (iDat iFix iFive (ib zs) (len * 8) m p out)) := by
  have c3 := h.c3
  have hz := lt_of_block h.s0
  rcases hf with rfl | ⟨lo, hi, bk, rfl, hC, hhi, hA⟩
  · have H := hide h
    have f3 := free_of h.s0 3
    have HA := hide (fixedSymbols_c w)
    clear h
    go_enter Tryd.func25, Tryd.ntmps25
    go_wp2_with (first
      | (go_at_call 36; refine HA.out.mono ?_; rintro x w1 ⟨rfl, h1, b1⟩; have H1 := hide h1; have B1 := hide b1; clear h1 b1 HA)
      | (go_at_call 37; refine (fixedBacks_c w1).mono ?_; rintro x w2 ⟨rfl, h2, b2⟩; have H2 := hide h2; have H1' := hide ((b2.block _ (lt_of_block H1.out)).trans H1.out); have B2 := hide (B1.out.trans (b2.mono B1.out.size)); clear h2 b2)
      | (go_at_call 35; refine (makeCodes_yes w2.heap.size _ _ _ _ iFix iFive w2 iFix_check iFive_check ((ints_at H1'.out).wide (Nat.zero_le _) (lt_of_block H1'.out)) ((ints_at H2.out).wide (Nat.zero_le _) (lt_of_block H2.out))).mono ?_; rintro x w3 ⟨bk, rfl, cx, b3⟩; have CX := hide cx; have B3 := hide (B2.out.trans (b3.mono B2.out.size)); have S3 := hide (H.out.stay B3.out); have g3 := free_of S3.out.s0 3; have d3 := S3.out.c3; have z3 := lt_of_block S3.out.s0; clear cx b3)
      | (go_at_call 38; have D9 := CX.out; obtain ⟨bc, gl, gc, vo, N, bc', gl', gc', vo', N', D9⟩ := D9; refine (data_c (S3.out.codes _) hl8 hm ho (D9.kept (Kept.setCell (M := fun b => b = bs) (Kept.refl _ w3) (fun _ => rfl) _) (fun b h1 h2 e => by have := B2.out.size; have := lt_of_block H.out.s0; omega)) (Aw.new H.out B2.out.size) iFix_good (by rw [iFix_length]; decide) iFive_good (by rw [iFive_length]; decide)).mono ?_; intro x w4 h4; obtain ⟨ev, rfl⟩ := h4.form; have H4 := hide h4; clear h4 D9))
    go_ret
    have k3 : Kept (fun b => b = bs) w3 (w3.setCell ⟨bs, 3, none⟩ (.pointer (some ⟨bk, 0, none⟩))) := Kept.setCell (M := fun b => b = bs) (Kept.refl _ w3) (fun _ => rfl) _
    have hz2 := B2.out.size
    have hbs := lt_of_block H.out.s0
    refine (H4.out.block (.inr ⟨w2.heap.size, w3.heap.size, bk, rfl, CX.out.kept k3 (fun b h1 h2 e => by omega), k3.size, Aw.new H.out hz2⟩)).after ?_ (fun g hg _ => hg)
    exact (Mv.below B3.out).trans k3 (fun i hi e => .inl e)
  · have HF : Hid (FcAt w bs br (.slice o out.length oc) (.pointer (some ⟨bk, 0, none⟩))) := .inr ⟨lo, hi, bk, rfl, hC, hhi, hA⟩
    obtain ⟨bc, gl, gc, vo, N, bc', gl', gc', vo', N', hC⟩ := hC
    have HD := hide (data_c h hl8 hm ho hC hA iFix_good (by rw [iFix_length]; decide) iFive_good (by rw [iFive_length]; decide))
    clear h hC hhi hA
    go_enter Tryd.func25, Tryd.ntmps25
    go_wp2_with (go_at_call 38; refine HD.out.mono ?_; intro x w4 h4; obtain ⟨ev, rfl⟩ := h4.form; have H4 := hide h4; clear h4)
    go_ret
    exact H4.out.block HF.out
end
end Go.Proofs.YtibolmgijaploaaDoor
