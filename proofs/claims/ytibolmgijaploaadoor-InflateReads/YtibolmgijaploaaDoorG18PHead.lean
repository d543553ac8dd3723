/- Several texts, laid together: PFixed, PHead. -/
import Derived.Test.YtibolmgijaploaaDoorG17PMake
/- The stream's fixedBlock: contract. -/
namespace Go.Proofs.YtibolmgijaploaaDoor
set_option maxRecDepth 100000
open Go Go.RowKit

theorem ints_at {w : World} {g : Nat} {L : List Int} {t : TypeId} {fr : Nat × Nat} (h : w.heap[g]? = some (.cells (valA L) t fr)) : Ints g (g + 1) w (some ⟨g, 0, none⟩) L :=
  .inr ⟨g, 0, by omega, by omega, lt_of_block h, rfl, fun i hi => by
    rw [Nat.zero_add]
    have : w.cell? ⟨g, i, none⟩ = (valA L)[i]? := by simp [World.cell?, h]
    rw [this]; exact valA_at L hi⟩
/-- The fixed codes: not made yet, or made. -/
def FcAt (w : World) (bs br : Nat) (ov fc : Value) : Prop := fc = .pointer none ∨ ∃ lo hi bk, fc = .pointer (some ⟨bk, 0, none⟩) ∧ CdsX lo hi w bk iFix iFive ∧ hi ≤ w.heap.size ∧ Aw lo hi bs br ov
theorem FcAt.on {w w' : World} {bs br : Nat} {ov ov' fc : Value} (h : FcAt w bs br ov fc) (k : Kept (Mv bs br ov) w w') (hold : ∀ g, ov'.ownBlock = some g → g < w.heap.size → ov.ownBlock = some g) : FcAt w' bs br ov' fc := by
  rcases h with h | ⟨lo, hi, bk, h1, h2, h3, h4⟩
  · exact .inl h
  · refine .inr ⟨lo, hi, bk, h1, h2.kept k h4, Nat.le_trans h3 k.size, fun b hb1 hb2 hM => ?_⟩
    rcases hM with e | e | e
    · exact h4 b hb1 hb2 (.inl e)
    · exact h4 b hb1 hb2 (.inr (.inl e))
    · exact h4 b hb1 hb2 (.inr (.inr (hold b e (by omega))))

/-- What a block answers: as DOk, but the fixed codes may have been made meanwhile. -/
def BOk (B bs br : Nat) (a : Option Addr) (len cap : Nat) (zs : List Int) (m : Nat) (w : World) (ov : Value) (r : Except Int (Nat × List Int)) (x : Ending) (w' : World) : Prop :=
  Kept (Mv bs br ov) w w' ∧ ((∃ q out o oc fc, r = .ok (q, out) ∧ x = .returned (.int .i64 0) ∧ SS B bs br a len cap zs m w' q o oc fc out ∧ FcAt w' bs br (.slice o out.length oc) fc ∧ (∀ g, (Value.slice o out.length oc).ownBlock = some g → g < w.heap.size → ov.ownBlock = some g)) ∨ (∃ e, 60 ≤ e ∧ e ≤ 65 ∧ r = .error e ∧ x = .returned (.int .i64 e)))
def BGot (B bs br : Nat) (a : Option Addr) (len cap : Nat) (zs : List Int) (m : Nat) (w : World) (ov : Value) (q : Nat) (out : List Int) (x : Ending) (w' : World) : Prop :=
  x = .returned (.int .i64 0) ∧ Kept (Mv bs br ov) w w' ∧ ∃ o oc fc, SS B bs br a len cap zs m w' q o oc fc out ∧ FcAt w' bs br (.slice o out.length oc) fc ∧ (∀ g, (Value.slice o out.length oc).ownBlock = some g → g < w.heap.size → ov.ownBlock = some g)
section
variable {B bs br : Nat} {a : Option Addr} {len cap : Nat} {zs : List Int} {m : Nat} {w w' : World} {p : Nat} {o : Option Addr} {oc : Nat} {fc : Value} {out : List Int}
theorem BOk.got {r : Except Int (Nat × List Int)} {x : Ending} {ov : Value} {q : Nat} (hr : r = .ok (q, out)) (h : BOk B bs br a len cap zs m w ov r x w') : BGot B bs br a len cap zs m w ov q out x w' := by
  subst hr
  obtain ⟨k, ⟨q', v', o, oc, fc, e, rfl, h1, h2⟩ | ⟨e, _, _, h', _⟩⟩ := h
  · cases e; exact ⟨rfl, k, o, oc, fc, h1, h2⟩
  · cases h'
theorem BOk.bad {r : Except Int (Nat × List Int)} {x : Ending} {ov : Value} {e : Int} (hr : r = .error e) (h : BOk B bs br a len cap zs m w ov r x w') : DBad bs br w ov e x w' := by
  subst hr
  obtain ⟨k, ⟨q', v', o, oc, fc, e, rfl, h1, h2⟩ | ⟨e, h1, h2, h', rfl⟩⟩ := h
  · cases e
  · cases h'; exact ⟨rfl, k, h1, h2⟩
theorem DOk.block {r : Except Int (Nat × List Int)} {x : Ending} {ov : Value} (h : DOk B bs br a len cap zs m fc w ov r x w') (hf : FcAt w bs br ov fc) : BOk B bs br a len cap zs m w ov r x w' := by
  obtain ⟨k, ⟨q', out', o', oc', e, rfl, h1, h2⟩ | h'⟩ := h
  · exact ⟨k, .inl ⟨q', out', o', oc', fc, e, rfl, h1, hf.on k h2, h2⟩⟩
  · exact ⟨k, .inr h'⟩
theorem DBad.block {r : Except Int (Nat × List Int)} {x : Ending} {ov : Value} {e : Int} (hr : r = .error e) (h : DBad bs br w ov e x w') : BOk B bs br a len cap zs m w ov r x w' := ⟨h.2.1, .inr ⟨e, h.2.2.1, h.2.2.2, hr, h.1⟩⟩
/-- Behind other doings that handed the stream on. -/
theorem BOk.after {w0 : World} {ov : Value} {r : Except Int (Nat × List Int)} {x : Ending} (h : BOk B bs br a len cap zs m w (.slice o out.length oc) r x w') (k : Kept (Mv bs br ov) w0 w) (hold : ∀ g, (Value.slice o out.length oc).ownBlock = some g → g < w0.heap.size → ov.ownBlock = some g) : BOk B bs br a len cap zs m w0 ov r x w' := by
  have hz := k.size
  have hk : ∀ {wz}, Kept (Mv bs br (.slice o out.length oc)) w wz → Kept (Mv bs br ov) w0 wz := fun k2 => k.trans k2 (fun i hi e => by
    rcases e with e | e | e
    · exact .inl e
    · exact .inr (.inl e)
    · exact .inr (.inr (hold i e hi)))
  obtain ⟨k2, ⟨q', out', o', oc', fc', e, rfl, h1, h2, h3⟩ | h'⟩ := h
  · exact ⟨hk k2, .inl ⟨q', out', o', oc', fc', e, rfl, h1, h2, fun g hg hlt => hold g (h3 g hg (by omega)) hlt⟩⟩
  · exact ⟨hk k2, .inr h'⟩
theorem iFix_good : Good iFix := check_good iFix_check
theorem iFive_good : Good iFive := check_good iFive_check

/-- The codes are put into the stream. -/
theorem SS.codes (h : SS B bs br a len cap zs m w p o oc fc out) (v : Value) : SS B bs br a len cap zs m (w.setCell ⟨bs, 3, none⟩ v) p o oc v out := by
  have hset : Kept (fun b => b = bs) w (w.setCell ⟨bs, 3, none⟩ v) := Kept.setCell (M := fun b => b = bs) (Kept.refl _ w) (fun _ => rfl) _
  refine ⟨by rw [set_of h.s0 3]; rfl, by rw [set_other (fun e => h.ne e.symm)]; exact h.rd, h.tx.kept hset (fun b hb e => by have := h.inb; omega), ownsRow_kept h.owns hset (fun g hg e => h.ns (by rw [hg, e])), h.inb, h.pl⟩

theorem DOk.form {r : Except Int (Nat × List Int)} {x : Ending} {ov : Value} (h : DOk B bs br a len cap zs m fc w ov r x w') : ∃ ev : Int, x = .returned (.int .i64 ev) := by
  obtain ⟨_, ⟨_, _, _, _, _, rfl, _⟩ | ⟨e, _, _, _, rfl⟩⟩ := h
  · exact ⟨0, rfl⟩
  · exact ⟨e, rfl⟩
theorem Aw.new {lo hi : Nat} (h : SS B bs br a len cap zs m w p o oc fc out) (hz : w.heap.size ≤ lo) : Aw lo hi bs br (.slice o out.length oc) := fun b h1 _ hM => by
  rcases hM with e | e | e
  · have := lt_of_block h.s0; omega
  · have := lt_of_block h.rd; omega
  · have := (ownsRow_lt h.owns e).2; omega
set_option maxHeartbeats 4000000 in
theorem fixed_c (h : SS B bs br a len cap zs m w p o oc fc out) (hf : FcAt w bs br (.slice o out.length oc) fc) (hl8 : len * 8 ≤ 9223372036854775000) (hm : m ≤ 10000000) (ho : out.length ≤ m) :
    Calls Tryd.prog 25 #[.pointer (some ⟨bs, 0, none⟩)] w (BOk B bs br a len cap zs m w (.slice o out.length oc) (iDat iFix iFive (ib zs) (len * 8) m p out)) := by
  have c3 := h.c3
  have hz := lt_of_block h.s0
  rcases hf with rfl | ⟨lo, hi, bk, rfl, hC, hhi, hA⟩
  · have H := hide h
    have f3 := free_of h.s0 3
    have HA := hide (fixedSymbols_c w)
    clear h
    go_enter Tryd.func25, Tryd.ntmps25
    go_wp2_with (first
      | (go_at_call 36; refine HA.out.mono ?_; rintro x w1 ⟨rfl, h1, b1⟩; have H1 := hide h1; have B1 := hide b1; clear h1 b1 HA)
      | (go_at_call 37; refine (fixedBacks_c w1).mono ?_; rintro x w2 ⟨rfl, h2, b2⟩; have H2 := hide h2; have H1' := hide ((b2.block _ (lt_of_block H1.out)).trans H1.out); have B2 := hide (B1.out.trans (b2.mono B1.out.size)); clear h2 b2)
      | (go_at_call 35; refine (makeCodes_yes w2.heap.size _ _ _ _ iFix iFive w2 iFix_check iFive_check ((ints_at H1'.out).wide (Nat.zero_le _) (lt_of_block H1'.out)) ((ints_at H2.out).wide (Nat.zero_le _) (lt_of_block H2.out))).mono ?_; rintro x w3 ⟨bk, rfl, cx, b3⟩; have CX := hide cx; have B3 := hide (B2.out.trans (b3.mono B2.out.size)); have S3 := hide (H.out.stay B3.out); have g3 := free_of S3.out.s0 3; have d3 := S3.out.c3; have z3 := lt_of_block S3.out.s0; clear cx b3)
      | (go_at_call 38; have D9 := CX.out; obtain ⟨bc, gl, gc, vo, N, bc', gl', gc', vo', N', D9⟩ := D9; refine (data_c (S3.out.codes _) hl8 hm ho (D9.kept (Kept.setCell (M := fun b => b = bs) (Kept.refl _ w3) (fun _ => rfl) _) (fun b h1 h2 e => by have := B2.out.size; have := lt_of_block H.out.s0; omega)) (Aw.new H.out B2.out.size) iFix_good (by rw [iFix_length]; decide) iFive_good (by rw [iFive_length]; decide)).mono ?_; intro x w4 h4; obtain ⟨ev, rfl⟩ := h4.form; have H4 := hide h4; clear h4 D9))
    go_ret
    have k3 : Kept (fun b => b = bs) w3 (w3.setCell ⟨bs, 3, none⟩ (.pointer (some ⟨bk, 0, none⟩))) := Kept.setCell (M := fun b => b = bs) (Kept.refl _ w3) (fun _ => rfl) _
    have hz2 := B2.out.size
    have hbs := lt_of_block H.out.s0
    refine (H4.out.block (.inr ⟨w2.heap.size, w3.heap.size, bk, rfl, CX.out.kept k3 (fun b h1 h2 e => by omega), k3.size, Aw.new H.out hz2⟩)).after ?_ (fun g hg _ => hg)
    exact (Mv.below B3.out).trans k3 (fun i hi e => .inl e)
  · have HF : Hid (FcAt w bs br (.slice o out.length oc) (.pointer (some ⟨bk, 0, none⟩))) := .inr ⟨lo, hi, bk, rfl, hC, hhi, hA⟩
    obtain ⟨bc, gl, gc, vo, N, bc', gl', gc', vo', N', hC⟩ := hC
    have HD := hide (data_c h hl8 hm ho hC hA iFix_good (by rw [iFix_length]; decide) iFive_good (by rw [iFive_length]; decide))
    clear h hC hhi hA
    go_enter Tryd.func25, Tryd.ntmps25
    go_wp2_with (go_at_call 38; refine HD.out.mono ?_; intro x w4 h4; obtain ⟨ev, rfl⟩ := h4.form; have H4 := hide h4; clear h4)
    go_ret
    exact H4.out.block HF.out
end
end Go.Proofs.YtibolmgijaploaaDoor

/- What a dynamic block says of its codes, in parts; the stream's counts: contract. -/
namespace Go.Proofs.YtibolmgijaploaaDoor
set_option maxRecDepth 100000
open Go Go.RowKit

def iCnt (b : Nat → Nat) (T p : Nat) : Except Int (Nat × (Nat × Nat × Nat)) :=
  iThen (iTk b T p 5) fun q x => iThen (iTk b T q 5) fun q y => iThen (iTk b T q 4) fun q z => if 286 < x + 257 ∨ 30 < y + 1 then .error 63 else .ok (q, (x, y, z))
def iInn (b : Nat → Nat) (T p z : Nat) : Except Int (Nat × List Int) := iThen (iRd3 b T (z + 4) p 0 (List.replicate 19 0)) fun q first => if ¬ check first false = 0 then .error 63 else .ok (q, first)
noncomputable def iAll (first : List Int) (many : Nat) (b : Nat → Nat) (T p : Nat) : Except Int (Nat × List Int) := iLoop T (iLen first many b T) p []
theorem iHdr_eq (b : Nat → Nat) (T p : Nat) : iHdr b T p = iThen (iCnt b T p) fun q c => iThen (iInn b T q c.2.2) fun q first => iThen (iAll first (c.1 + 258 + c.2.1) b T q) fun q all =>
    if ln all 256 = 0 ∨ ¬ check (all.take (c.1 + 257)) true = 0 ∨ ¬ check (all.drop (c.1 + 257)) true = 0 then .error 63 else .ok (q, (all.take (c.1 + 257), all.drop (c.1 + 257))) := by
  unfold iHdr iCnt iInn iAll
  cases iTk b T p 5 with
  | error e => rfl
  | ok x =>
    obtain ⟨q, x⟩ := x
    simp only [iThen]
    cases iTk b T q 5 with
    | error e => rfl
    | ok y =>
      obtain ⟨q, y⟩ := y
      simp only
      cases iTk b T q 4 with
      | error e => rfl
      | ok z =>
        obtain ⟨q, z⟩ := z
        simp only
        by_cases hc : 286 < x + 257 ∨ 30 < y + 1
        · rw [if_pos hc, if_pos hc]
        · rw [if_neg hc, if_neg hc]
          simp only
          cases iRd3 b T (z + 4) q 0 (List.replicate 19 0) with
          | error e => rfl
          | ok f =>
            obtain ⟨q, f⟩ := f
            simp only
            by_cases hk : ¬ check f false = 0
            · rw [if_pos hk, if_pos hk]
            · rw [if_neg hk, if_neg hk]
theorem iCnt_got {b : Nat → Nat} (hb : ∀ i, b i ≤ 1) {T p q : Nat} {c : Nat × Nat × Nat} (h : iCnt b T p = .ok (q, c)) : c.1 ≤ 29 ∧ c.2.1 ≤ 29 ∧ c.2.2 ≤ 15 := by
  unfold iCnt at h
  obtain ⟨q1, x, -, h⟩ := iThen_ok h
  obtain ⟨q2, y, -, h⟩ := iThen_ok h
  obtain ⟨q3, z, hz, h⟩ := iThen_ok h
  have := iTk_lt hb hz
  split at h
  · cases h
  · cases h
    show x ≤ 29 ∧ y ≤ 29 ∧ z ≤ 15
    omega

section
variable {B bs br : Nat} {a : Option Addr} {len cap : Nat} {zs : List Int} {m : Nat} {w w' : World} {p : Nat} {o : Option Addr} {oc : Nat} {fc : Value} {out : List Int}
def CGot (br : Nat) (a : Option Addr) (len cap : Nat) (w : World) (q x y z : Nat) (e : Ending) (w' : World) : Prop :=
  e = .returned (.tuple #[.int .i64 ((x + 257 : Nat) : Int), .int .i64 ((y + 1 : Nat) : Int), .int .i64 ((z + 4 : Nat) : Int), .int .i64 0]) ∧ Kept (fun b => b = br) w w' ∧ w'.heap[br]? = some (.cells (rA a len cap q) 54 (0, 0)) ∧ q ≤ len * 8
def CBad (br : Nat) (w : World) (e : Int) (x : Ending) (w' : World) : Prop := x = .returned (.tuple #[.int .i64 0, .int .i64 0, .int .i64 0, .int .i64 e]) ∧ Kept (fun b => b = br) w w' ∧ 60 ≤ e ∧ e ≤ 65
def COk (br : Nat) (a : Option Addr) (len cap : Nat) (w : World) (r : Except Int (Nat × (Nat × Nat × Nat))) (x : Ending) (w' : World) : Prop := (∃ q c, r = .ok (q, c) ∧ CGot br a len cap w q c.1 c.2.1 c.2.2 x w') ∨ (∃ e, r = .error e ∧ CBad br w e x w')
theorem COk.got {r : Except Int (Nat × (Nat × Nat × Nat))} {x : Ending} {q : Nat} {c : Nat × Nat × Nat} (hr : r = .ok (q, c)) (h : COk br a len cap w r x w') : CGot br a len cap w q c.1 c.2.1 c.2.2 x w' := by
  subst hr
  obtain ⟨q', c', e, h⟩ | ⟨e, h', _⟩ := h
  · cases e; exact h
  · cases h'
theorem COk.bad {r : Except Int (Nat × (Nat × Nat × Nat))} {x : Ending} {e : Int} (hr : r = .error e) (h : COk br a len cap w r x w') : CBad br w e x w' := by
  subst hr
  obtain ⟨q', c', e, h⟩ | ⟨e, h', h⟩ := h
  · cases e
  · cases h'; exact h

set_option maxHeartbeats 4000000 in
theorem counts_c (h : SS B bs br a len cap zs m w p o oc fc out) (hl8 : len * 8 ≤ 9223372036854775000) :
    Calls Tryd.prog 39 #[.pointer (some ⟨bs, 0, none⟩)] w (COk br a len cap w (iCnt (ib zs) (len * 8) p)) := by
  obtain ⟨R, hR⟩ : ∃ R, R = iCnt (ib zs) (len * 8) p := ⟨_, rfl⟩
  rw [← hR]
  have hA := number_c h hl8 5 5 rfl (by decide)
  have hB := fun w1 q (s : SS B bs br a len cap zs m w1 q o oc fc out) => number_c s hl8 5 5 rfl (by decide)
  have hC := fun w1 q (s : SS B bs br a len cap zs m w1 q o oc fc out) => number_c s hl8 4 4 rfl (by decide)
  have H0 := hide h
  clear h
  unfold iCnt at hR
  rcases h1 : iTk (ib zs) (len * 8) p 5 with e | ⟨q1, x⟩
  · rw [h1] at hA
    have HA := hide (hA.mono fun _ _ => NOk.bad rfl)
    rw [iThen_of_err h1] at hR
    have HR := hide hR
    clear hA hB hC hR
    go_enter Tryd.func39, Tryd.ntmps39
    go_wp2_with (go_at_call 23; refine HA.out.mono ?_; rintro x w1 ⟨rfl, k1, e1, e2⟩; have K1 := hide k1; clear k1)
    go_returns
    exact .inr ⟨e, HR.out, rfl, K1.out, e1, e2⟩
  have hx := iTk_lt (ib_le zs) h1
  rw [h1] at hA
  have HA := hide (hA.mono fun _ _ => NOk.got rfl)
  have hB1 := fun w1 s => hB w1 q1 s
  rw [iThen_of_ok h1] at hR
  clear hA hB h1
  rcases h2 : iTk (ib zs) (len * 8) q1 5 with e | ⟨q2, y⟩
  · rw [h2] at hB1
    have HB := fun w1 s => hide ((hB1 w1 s).mono fun _ _ => NOk.bad rfl)
    rw [iThen_of_err h2] at hR
    have HR := hide hR
    clear hB1 hC hR
    go_enter Tryd.func39, Tryd.ntmps39
    go_wp2_with (first
      | (go_at_call 23; refine HA.out.mono ?_; rintro x w1 ⟨rfl, k1, r1, l1⟩; have S1 := hide (H0.out.move k1 r1 l1); have K1 := hide k1; clear k1 r1 HA)
      | (go_at_call 23; refine (HB w1 S1.out).out.mono ?_; rintro x w2 ⟨rfl, k2, e1, e2⟩; have K2 := hide (K1.out.trans k2 (fun _ _ e => e)); clear k2))
    go_returns
    exact .inr ⟨e, HR.out, rfl, K2.out, e1, e2⟩
  have hy := iTk_lt (ib_le zs) h2
  rw [h2] at hB1
  have HB := fun w1 s => hide ((hB1 w1 s).mono fun _ _ => NOk.got rfl)
  have hC1 := fun w1 s => hC w1 q2 s
  rw [iThen_of_ok h2] at hR
  clear hB1 hC h2
  rcases h3 : iTk (ib zs) (len * 8) q2 4 with e | ⟨q3, z⟩
  · rw [h3] at hC1
    have HC := fun w1 s => hide ((hC1 w1 s).mono fun _ _ => NOk.bad rfl)
    rw [iThen_of_err h3] at hR
    have HR := hide hR
    clear hC1 hR
    go_enter Tryd.func39, Tryd.ntmps39
    go_wp2_with (first
      | (go_at_call 23; refine HA.out.mono ?_; rintro x w1 ⟨rfl, k1, r1, l1⟩; have S1 := hide (H0.out.move k1 r1 l1); have K1 := hide k1; clear k1 r1 HA)
      | (go_at_call 23; refine (HB w1 S1.out).out.mono ?_; rintro x w2 ⟨rfl, k2, r2, l2⟩; have S2 := hide (S1.out.move k2 r2 l2); have K2 := hide (K1.out.trans k2 (fun _ _ e => e)); clear k2 r2 HB)
      | (go_at_call 23; refine (HC w2 S2.out).out.mono ?_; rintro x w3 ⟨rfl, k3, e1, e2⟩; have K3 := hide (K2.out.trans k3 (fun _ _ e => e)); clear k3))
    go_returns
    exact .inr ⟨e, HR.out, rfl, K3.out, e1, e2⟩
  have hz := iTk_lt (ib_le zs) h3
  rw [h3] at hC1
  have HC := fun w1 s => hide ((hC1 w1 s).mono fun _ _ => NOk.got rfl)
  rw [iThen_of_ok h3] at hR
  clear hC1 h3
  by_cases hX : 286 < x + 257
  · rw [if_pos (.inl hX)] at hR
    have HR := hide hR
    clear hR
    have hX' : (286 : Int) < x + 257 := by omega
    go_enter Tryd.func39, Tryd.ntmps39
    go_wp2_with (first
      | (go_at_call 23; refine HA.out.mono ?_; rintro x w1 ⟨rfl, k1, r1, l1⟩; have S1 := hide (H0.out.move k1 r1 l1); have K1 := hide k1; clear k1 r1 HA)
      | (go_at_call 23; refine (HB w1 S1.out).out.mono ?_; rintro x w2 ⟨rfl, k2, r2, l2⟩; have S2 := hide (S1.out.move k2 r2 l2); have K2 := hide (K1.out.trans k2 (fun _ _ e => e)); clear k2 r2 HB)
      | (go_at_call 23; refine (HC w2 S2.out).out.mono ?_; rintro x w3 ⟨rfl, k3, r3, l3⟩; have K3 := hide (K2.out.trans k3 (fun _ _ e => e)); clear k3))
    go_returns
    exact .inr ⟨63, HR.out, rfl, K3.out, by decide, by decide⟩
  · have hX' : ¬ (286 : Int) < x + 257 := by omega
    by_cases hY : 30 < y + 1
    · rw [if_pos (.inr hY)] at hR
      have HR := hide hR
      clear hR
      have hY' : (30 : Int) < y + 1 := by omega
      go_enter Tryd.func39, Tryd.ntmps39
      go_wp2_with (first
        | (go_at_call 23; refine HA.out.mono ?_; rintro x w1 ⟨rfl, k1, r1, l1⟩; have S1 := hide (H0.out.move k1 r1 l1); have K1 := hide k1; clear k1 r1 HA)
        | (go_at_call 23; refine (HB w1 S1.out).out.mono ?_; rintro x w2 ⟨rfl, k2, r2, l2⟩; have S2 := hide (S1.out.move k2 r2 l2); have K2 := hide (K1.out.trans k2 (fun _ _ e => e)); clear k2 r2 HB)
        | (go_at_call 23; refine (HC w2 S2.out).out.mono ?_; rintro x w3 ⟨rfl, k3, r3, l3⟩; have K3 := hide (K2.out.trans k3 (fun _ _ e => e)); clear k3))
      go_returns
      exact .inr ⟨63, HR.out, rfl, K3.out, by decide, by decide⟩
    · rw [if_neg (by omega)] at hR
      have HR := hide hR
      clear hR
      have hY' : ¬ (30 : Int) < y + 1 := by omega
      go_enter Tryd.func39, Tryd.ntmps39
      go_wp2_with (first
        | (go_at_call 23; refine HA.out.mono ?_; rintro x w1 ⟨rfl, k1, r1, l1⟩; have S1 := hide (H0.out.move k1 r1 l1); have K1 := hide k1; clear k1 r1 HA)
        | (go_at_call 23; refine (HB w1 S1.out).out.mono ?_; rintro x w2 ⟨rfl, k2, r2, l2⟩; have S2 := hide (S1.out.move k2 r2 l2); have K2 := hide (K1.out.trans k2 (fun _ _ e => e)); clear k2 r2 HB)
        | (go_at_call 23; refine (HC w2 S2.out).out.mono ?_; rintro x w3 ⟨rfl, k3, r3, l3⟩; have K3 := hide (K2.out.trans k3 (fun _ _ e => e)); have R3 := hide r3; clear k3 r3))
      go_returns
      exact .inl ⟨q3, (x, y, z), HR.out, by go_num, K3.out, R3.out, l3⟩
end
end Go.Proofs.YtibolmgijaploaaDoor
