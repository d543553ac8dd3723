/- Several texts, laid together: PFixed, PHead, PInner, PLens, PDyn, PBlock, PInf, HAlive, HBits, HPut. -/
import Derived.Test.YteknifnadbmfiaaGreatDoorpPData
import Derived.Test.YteknifnadbmfiaaGreatDoorpPMake
import Derived.Test.YteknifnadbmfiaaGreatDoorpAg06PRun
import Derived.Test.YteknifnadbmfiaaGreatDoorpAg02HMath
import Derived.Laws.BytesArg
import Derived.Test.YteknifnadbmfiaaGreatDoorpWrite
/- The stream's fixedBlock: contract. -/
namespace Go.Proofs.YteknifnadbmfiaaGreatDoor
set_option maxRecDepth 100000
open Go Go.RowKit

theorem ints_at {w : World} {g : Nat} {L : List Int} {t : TypeId} {fr : Nat × Nat} (h : w.heap[g]? = some (.cells (valA L) t fr)) : Ints g (g + 1) w (some ⟨g, 0, none⟩) L :=
  .inr ⟨g, 0, by omega, by omega, lt_of_block h, rfl, fun i hi => by
    rw [Nat.zero_add]
    have : w.cell? ⟨g, i, none⟩ = (valA L)[i]? := by simp [World.cell?, h]
    rw [this]; exact valA_at L hi⟩
/-- The fixed codes: not made yet, or made. -/
def FcAt (w : World) (bs br : Nat) (ov fc : Value) : Prop := fc = .pointer none ∨ ∃ lo hi bk, fc = .pointer (some ⟨bk, 0, none⟩) ∧ CdsX lo hi w bk iFix iFive ∧ hi ≤ w.heap.size ∧ Aw lo hi bs br ov
theorem FcAt.on {w w' : World} {bs br : Nat} {ov ov' fc : Value} (h : FcAt w bs br ov fc) (k : Kept (Mv bs br ov) w w') (hold : ∀ g, ov'.ownBlock = some g → g < w.heap.size → ov.ownBlock = some g) : FcAt w' bs br ov' fc := by
  rcases h with h | ⟨lo, hi, bk, h1, h2, h3, h4⟩
  · exact .inl h
  · refine .inr ⟨lo, hi, bk, h1, h2.kept k h4, Nat.le_trans h3 k.size, fun b hb1 hb2 hM => ?_⟩
    rcases hM with e | e | e
    · exact h4 b hb1 hb2 (.inl e)
    · exact h4 b hb1 hb2 (.inr (.inl e))
    · exact h4 b hb1 hb2 (.inr (.inr (hold b e (by omega))))

/-- What a block answers: as DOk, but the fixed codes may have been made meanwhile. -/
def BOk (B bs br : Nat) (a : Option Addr) (len cap : Nat) (zs : List Int) (m : Nat) (w : World) (ov : Value) (r : Except Int (Nat × List Int)) (x : Ending) (w' : World) : Prop :=
  Kept (Mv bs br ov) w w' ∧ ((∃ q out o oc fc, r = .ok (q, out) ∧ x = .returned (.int .i64 0) ∧ SS B bs br a len cap zs m w' q o oc fc out ∧ FcAt w' bs br (.slice o out.length oc) fc ∧ (∀ g, (Value.slice o out.length oc).ownBlock = some g → g < w.heap.size → ov.ownBlock = some g)) ∨ (∃ e, 60 ≤ e ∧ e ≤ 65 ∧ r = .error e ∧ x = .returned (.int .i64 e)))
def BGot (B bs br : Nat) (a : Option Addr) (len cap : Nat) (zs : List Int) (m : Nat) (w : World) (ov : Value) (q : Nat) (out : List Int) (x : Ending) (w' : World) : Prop :=
  x = .returned (.int .i64 0) ∧ Kept (Mv bs br ov) w w' ∧ ∃ o oc fc, SS B bs br a len cap zs m w' q o oc fc out ∧ FcAt w' bs br (.slice o out.length oc) fc ∧ (∀ g, (Value.slice o out.length oc).ownBlock = some g → g < w.heap.size → ov.ownBlock = some g)
section
variable {B bs br : Nat} {a : Option Addr} {len cap : Nat} {zs : List Int} {m : Nat} {w w' : World} {p : Nat} {o : Option Addr} {oc : Nat} {fc : Value} {out : List Int}
theorem BOk.got {r : Except Int (Nat × List Int)} {x : Ending} {ov : Value} {q : Nat} (hr : r = .ok (q, out)) (h : BOk B bs br a len cap zs m w ov r x w') : BGot B bs br a len cap zs m w ov q out x w' := by
  subst hr
  obtain ⟨k, ⟨q', v', o, oc, fc, e, rfl, h1, h2⟩ | ⟨e, _, _, h', _⟩⟩ := h
  · cases e; exact ⟨rfl, k, o, oc, fc, h1, h2⟩
  · cases h'
theorem BOk.bad {r : Except Int (Nat × List Int)} {x : Ending} {ov : Value} {e : Int} (hr : r = .error e) (h : BOk B bs br a len cap zs m w ov r x w') : DBad bs br w ov e x w' := by
  subst hr
  obtain ⟨k, ⟨q', v', o, oc, fc, e, rfl, h1, h2⟩ | ⟨e, h1, h2, h', rfl⟩⟩ := h
  · cases e
  · cases h'; exact ⟨rfl, k, h1, h2⟩
theorem DOk.block {r : Except Int (Nat × List Int)} {x : Ending} {ov : Value} (h : DOk B bs br a len cap zs m fc w ov r x w') (hf : FcAt w bs br ov fc) : BOk B bs br a len cap zs m w ov r x w' := by
  obtain ⟨k, ⟨q', out', o', oc', e, rfl, h1, h2⟩ | h'⟩ := h
  · exact ⟨k, .inl ⟨q', out', o', oc', fc, e, rfl, h1, hf.on k h2, h2⟩⟩
  · exact ⟨k, .inr h'⟩
theorem DBad.block {r : Except Int (Nat × List Int)} {x : Ending} {ov : Value} {e : Int} (hr : r = .error e) (h : DBad bs br w ov e x w') : BOk B bs br a len cap zs m w ov r x w' := ⟨h.2.1, .inr ⟨e, h.2.2.1, h.2.2.2, hr, h.1⟩⟩
/-- Behind other doings that handed the stream on. -/
theorem BOk.after {w0 : World} {ov : Value} {r : Except Int (Nat × List Int)} {x : Ending} (h : BOk B bs br a len cap zs m w (.slice o out.length oc) r x w') (k : Kept (Mv bs br ov) w0 w) (hold : ∀ g, (Value.slice o out.length oc).ownBlock = some g → g < w0.heap.size → ov.ownBlock = some g) : BOk B bs br a len cap zs m w0 ov r x w' := by
  have hz := k.size
  have hk : ∀ {wz}, Kept (Mv bs br (.slice o out.length oc)) w wz → Kept (Mv bs br ov) w0 wz := fun k2 => k.trans k2 (fun i hi e => by
    rcases e with e | e | e
    · exact .inl e
    · exact .inr (.inl e)
    · exact .inr (.inr (hold i e hi)))
  obtain ⟨k2, ⟨q', out', o', oc', fc', e, rfl, h1, h2, h3⟩ | h'⟩ := h
  · exact ⟨hk k2, .inl ⟨q', out', o', oc', fc', e, rfl, h1, h2, fun g hg hlt => hold g (h3 g hg (by omega)) hlt⟩⟩
  · exact ⟨hk k2, .inr h'⟩
theorem iFix_good : Good iFix := check_good iFix_check
theorem iFive_good : Good iFive := check_good iFive_check

/-- The codes are put into the stream. -/
theorem SS.codes (h : SS B bs br a len cap zs m w p o oc fc out) (v : Value) : SS B bs br a len cap zs m (w.setCell ⟨bs, 3, none⟩ v) p o oc v out := by
  have hset : Kept (fun b => b = bs) w (w.setCell ⟨bs, 3, none⟩ v) := Kept.setCell (M := fun b => b = bs) (Kept.refl _ w) (fun _ => rfl) _
  refine ⟨by rw [set_of h.s0 3]; rfl, by rw [set_other (fun e => h.ne e.symm)]; exact h.rd, h.tx.kept hset (fun b hb e => by have := h.inb; omega), ownsRow_kept h.owns hset (fun g hg e => h.ns (by rw [hg, e])), h.inb, h.pl⟩

theorem DOk.form {r : Except Int (Nat × List Int)} {x : Ending} {ov : Value} (h : DOk B bs br a len cap zs m fc w ov r x w') : ∃ ev : Int, x = .returned (.int .i64 ev) := by
  obtain ⟨_, ⟨_, _, _, _, _, rfl, _⟩ | ⟨e, _, _, _, rfl⟩⟩ := h
  · exact ⟨0, rfl⟩
  · exact ⟨e, rfl⟩
theorem Aw.new {lo hi : Nat} (h : SS B bs br a len cap zs m w p o oc fc out) (hz : w.heap.size ≤ lo) : Aw lo hi bs br (.slice o out.length oc) := fun b h1 _ hM => by
  rcases hM with e | e | e
  · have := lt_of_block h.s0; omega
  · have := lt_of_block h.rd; omega
  · have := (ownsRow_lt h.owns e).2; omega
set_option maxHeartbeats 4000000 in
theorem fixed_c (h : SS B bs br a len cap zs m w p o oc fc out) (hf : FcAt w bs br (.slice o out.length oc) fc) (hl8 : len * 8 ≤ 9223372036854775000) (hm : m ≤ 10000000) (ho : out.length ≤ m) :
    Calls Tryz.prog 78 #[.pointer (some ⟨bs, 0, none⟩)] w (BOk B bs br a len cap zs m w (.slice o out.length oc) (iDat iFix iFive (ib zs) (len * 8) m p out)) := by
  have c3 := h.c3
  have hz := lt_of_block h.s0
  rcases hf with rfl | ⟨lo, hi, bk, rfl, hC, hhi, hA⟩
  · have H := hide h
    have f3 := free_of h.s0 3
    have HA := hide (fixedSymbols_c w)
    clear h
    go_enter Tryz.func78, Tryz.ntmps78
    go_wp2_with (first
      | (go_at_call 103; refine HA.out.mono ?_; rintro x w1 ⟨rfl, h1, b1⟩; have H1 := hide h1; have B1 := hide b1; clear h1 b1 HA)
      | (go_at_call 104; refine (fixedBacks_c w1).mono ?_; rintro x w2 ⟨rfl, h2, b2⟩; have H2 := hide h2; have H1' := hide ((b2.block _ (lt_of_block H1.out)).trans H1.out); have B2 := hide (B1.out.trans (b2.mono B1.out.size)); clear h2 b2)
      | (go_at_call 102; refine (makeCodes_yes w2.heap.size _ _ _ _ iFix iFive w2 iFix_check iFive_check ((ints_at H1'.out).wide (Nat.zero_le _) (lt_of_block H1'.out)) ((ints_at H2.out).wide (Nat.zero_le _) (lt_of_block H2.out))).mono ?_; rintro x w3 ⟨bk, rfl, cx, b3⟩; have CX := hide cx; have B3 := hide (B2.out.trans (b3.mono B2.out.size)); have S3 := hide (H.out.stay B3.out); have g3 := free_of S3.out.s0 3; have d3 := S3.out.c3; have z3 := lt_of_block S3.out.s0; clear cx b3)
      | (go_at_call 105; have D9 := CX.out; obtain ⟨bc, gl, gc, vo, N, bc', gl', gc', vo', N', D9⟩ := D9; refine (data_c (S3.out.codes _) hl8 hm ho (D9.kept (Kept.setCell (M := fun b => b = bs) (Kept.refl _ w3) (fun _ => rfl) _) (fun b h1 h2 e => by have := B2.out.size; have := lt_of_block H.out.s0; omega)) (Aw.new H.out B2.out.size) iFix_good (by rw [iFix_length]; decide) iFive_good (by rw [iFive_length]; decide)).mono ?_; intro x w4 h4; obtain ⟨ev, rfl⟩ := h4.form; have H4 := hide h4; clear h4 D9))
    go_ret
    have k3 : Kept (fun b => b = bs) w3 (w3.setCell ⟨bs, 3, none⟩ (.pointer (some ⟨bk, 0, none⟩))) := Kept.setCell (M := fun b => b = bs) (Kept.refl _ w3) (fun _ => rfl) _
    have hz2 := B2.out.size
    have hbs := lt_of_block H.out.s0
    refine (H4.out.block (.inr ⟨w2.heap.size, w3.heap.size, bk, rfl, CX.out.kept k3 (fun b h1 h2 e => by omega), k3.size, Aw.new H.out hz2⟩)).after ?_ (fun g hg _ => hg)
    exact (Mv.below B3.out).trans k3 (fun i hi e => .inl e)
  · have HF : Hid (FcAt w bs br (.slice o out.length oc) (.pointer (some ⟨bk, 0, none⟩))) := .inr ⟨lo, hi, bk, rfl, hC, hhi, hA⟩
    obtain ⟨bc, gl, gc, vo, N, bc', gl', gc', vo', N', hC⟩ := hC
    have HD := hide (data_c h hl8 hm ho hC hA iFix_good (by rw [iFix_length]; decide) iFive_good (by rw [iFive_length]; decide))
    clear h hC hhi hA
    go_enter Tryz.func78, Tryz.ntmps78
    go_wp2_with (go_at_call 105; refine HD.out.mono ?_; intro x w4 h4; obtain ⟨ev, rfl⟩ := h4.form; have H4 := hide h4; clear h4)
    go_ret
    exact H4.out.block HF.out
end
end Go.Proofs.YteknifnadbmfiaaGreatDoor

/- What a dynamic block says of its codes, in parts; the stream's counts: contract. -/
namespace Go.Proofs.YteknifnadbmfiaaGreatDoor
set_option maxRecDepth 100000
open Go Go.RowKit

def iCnt (b : Nat → Nat) (T p : Nat) : Except Int (Nat × (Nat × Nat × Nat)) :=
  iThen (iTk b T p 5) fun q x => iThen (iTk b T q 5) fun q y => iThen (iTk b T q 4) fun q z => if 286 < x + 257 ∨ 30 < y + 1 then .error 63 else .ok (q, (x, y, z))
def iInn (b : Nat → Nat) (T p z : Nat) : Except Int (Nat × List Int) := iThen (iRd3 b T (z + 4) p 0 (List.replicate 19 0)) fun q first => if ¬ check first false = 0 then .error 63 else .ok (q, first)
noncomputable def iAll (first : List Int) (many : Nat) (b : Nat → Nat) (T p : Nat) : Except Int (Nat × List Int) := iLoop T (iLen first many b T) p []
theorem iHdr_eq (b : Nat → Nat) (T p : Nat) : iHdr b T p = iThen (iCnt b T p) fun q c => iThen (iInn b T q c.2.2) fun q first => iThen (iAll first (c.1 + 258 + c.2.1) b T q) fun q all =>
    if ln all 256 = 0 ∨ ¬ check (all.take (c.1 + 257)) true = 0 ∨ ¬ check (all.drop (c.1 + 257)) true = 0 then .error 63 else .ok (q, (all.take (c.1 + 257), all.drop (c.1 + 257))) := by
  unfold iHdr iCnt iInn iAll
  cases iTk b T p 5 with
  | error e => rfl
  | ok x =>
    obtain ⟨q, x⟩ := x
    simp only [iThen]
    cases iTk b T q 5 with
    | error e => rfl
    | ok y =>
      obtain ⟨q, y⟩ := y
      simp only
      cases iTk b T q 4 with
      | error e => rfl
      | ok z =>
        obtain ⟨q, z⟩ := z
        simp only
        by_cases hc : 286 < x + 257 ∨ 30 < y + 1
        · rw [if_pos hc, if_pos hc]
        · rw [if_neg hc, if_neg hc]
          simp only
          cases iRd3 b T (z + 4) q 0 (List.replicate 19 0) with
          | error e => rfl
          | ok f =>
            obtain ⟨q, f⟩ := f
            simp only
            by_cases hk : ¬ check f false = 0
            · rw [if_pos hk, if_pos hk]
            · rw [if_neg hk, if_neg hk]
theorem iCnt_got {b : Nat → Nat} (hb : ∀ i, b i ≤ 1) {T p q : Nat} {c : Nat × Nat × Nat} (h : iCnt b T p = .ok (q, c)) : c.1 ≤ 29 ∧ c.2.1 ≤ 29 ∧ c.2.2 ≤ 15 := by
  unfold iCnt at h
  obtain ⟨q1, x, -, h⟩ := iThen_ok h
  obtain ⟨q2, y, -, h⟩ := iThen_ok h
  obtain ⟨q3, z, hz, h⟩ := iThen_ok h
  have := iTk_lt hb hz
  split at h
  · cases h
  · cases h
    show x ≤ 29 ∧ y ≤ 29 ∧ z ≤ 15
    omega

section
variable {B bs br : Nat} {a : Option Addr} {len cap : Nat} {zs : List Int} {m : Nat} {w w' : World} {p : Nat} {o : Option Addr} {oc : Nat} {fc : Value} {out : List Int}
def CGot (br : Nat) (a : Option Addr) (len cap : Nat) (w : World) (q x y z : Nat) (e : Ending) (w' : World) : Prop :=
  e = .returned (.tuple #[.int .i64 ((x + 257 : Nat) : Int), .int .i64 ((y + 1 : Nat) : Int), .int .i64 ((z + 4 : Nat) : Int), .int .i64 0]) ∧ Kept (fun b => b = br) w w' ∧ w'.heap[br]? = some (.cells (rA a len cap q) 148 (0, 0)) ∧ q ≤ len * 8
def CBad (br : Nat) (w : World) (e : Int) (x : Ending) (w' : World) : Prop := x = .returned (.tuple #[.int .i64 0, .int .i64 0, .int .i64 0, .int .i64 e]) ∧ Kept (fun b => b = br) w w' ∧ 60 ≤ e ∧ e ≤ 65
def COk (br : Nat) (a : Option Addr) (len cap : Nat) (w : World) (r : Except Int (Nat × (Nat × Nat × Nat))) (x : Ending) (w' : World) : Prop := (∃ q c, r = .ok (q, c) ∧ CGot br a len cap w q c.1 c.2.1 c.2.2 x w') ∨ (∃ e, r = .error e ∧ CBad br w e x w')
theorem COk.got {r : Except Int (Nat × (Nat × Nat × Nat))} {x : Ending} {q : Nat} {c : Nat × Nat × Nat} (hr : r = .ok (q, c)) (h : COk br a len cap w r x w') : CGot br a len cap w q c.1 c.2.1 c.2.2 x w' := by
  subst hr
  obtain ⟨q', c', e, h⟩ | ⟨e, h', _⟩ := h
  · cases e; exact h
  · cases h'
theorem COk.bad {r : Except Int (Nat × (Nat × Nat × Nat))} {x : Ending} {e : Int} (hr : r = .error e) (h : COk br a len cap w r x w') : CBad br w e x w' := by
  subst hr
  obtain ⟨q', c', e, h⟩ | ⟨e, h', h⟩ := h
  · cases e
  · cases h'; exact h

set_option maxHeartbeats 4000000 in
theorem counts_c (h : SS B bs br a len cap zs m w p o oc fc out) (hl8 : len * 8 ≤ 9223372036854775000) :
    Calls Tryz.prog 106 #[.pointer (some ⟨bs, 0, none⟩)] w (COk br a len cap w (iCnt (ib zs) (len * 8) p)) := by
  obtain ⟨R, hR⟩ : ∃ R, R = iCnt (ib zs) (len * 8) p := ⟨_, rfl⟩
  rw [← hR]
  have hA := number_c h hl8 5 5 rfl (by decide)
  have hB := fun w1 q (s : SS B bs br a len cap zs m w1 q o oc fc out) => number_c s hl8 5 5 rfl (by decide)
  have hC := fun w1 q (s : SS B bs br a len cap zs m w1 q o oc fc out) => number_c s hl8 4 4 rfl (by decide)
  have H0 := hide h
  clear h
  unfold iCnt at hR
  rcases h1 : iTk (ib zs) (len * 8) p 5 with e | ⟨q1, x⟩
  · rw [h1] at hA
    have HA := hide (hA.mono fun _ _ => NOk.bad rfl)
    rw [iThen_of_err h1] at hR
    have HR := hide hR
    clear hA hB hC hR
    go_enter Tryz.func106, Tryz.ntmps106
    go_wp2_with (go_at_call 76; refine HA.out.mono ?_; rintro x w1 ⟨rfl, k1, e1, e2⟩; have K1 := hide k1; clear k1)
    go_returns
    exact .inr ⟨e, HR.out, rfl, K1.out, e1, e2⟩
  have hx := iTk_lt (ib_le zs) h1
  rw [h1] at hA
  have HA := hide (hA.mono fun _ _ => NOk.got rfl)
  have hB1 := fun w1 s => hB w1 q1 s
  rw [iThen_of_ok h1] at hR
  clear hA hB h1
  rcases h2 : iTk (ib zs) (len * 8) q1 5 with e | ⟨q2, y⟩
  · rw [h2] at hB1
    have HB := fun w1 s => hide ((hB1 w1 s).mono fun _ _ => NOk.bad rfl)
    rw [iThen_of_err h2] at hR
    have HR := hide hR
    clear hB1 hC hR
    go_enter Tryz.func106, Tryz.ntmps106
    go_wp2_with (first
      | (go_at_call 76; refine HA.out.mono ?_; rintro x w1 ⟨rfl, k1, r1, l1⟩; have S1 := hide (H0.out.move k1 r1 l1); have K1 := hide k1; clear k1 r1 HA)
      | (go_at_call 76; refine (HB w1 S1.out).out.mono ?_; rintro x w2 ⟨rfl, k2, e1, e2⟩; have K2 := hide (K1.out.trans k2 (fun _ _ e => e)); clear k2))
    go_returns
    exact .inr ⟨e, HR.out, rfl, K2.out, e1, e2⟩
  have hy := iTk_lt (ib_le zs) h2
  rw [h2] at hB1
  have HB := fun w1 s => hide ((hB1 w1 s).mono fun _ _ => NOk.got rfl)
  have hC1 := fun w1 s => hC w1 q2 s
  rw [iThen_of_ok h2] at hR
  clear hB1 hC h2
  rcases h3 : iTk (ib zs) (len * 8) q2 4 with e | ⟨q3, z⟩
  · rw [h3] at hC1
    have HC := fun w1 s => hide ((hC1 w1 s).mono fun _ _ => NOk.bad rfl)
    rw [iThen_of_err h3] at hR
    have HR := hide hR
    clear hC1 hR
    go_enter Tryz.func106, Tryz.ntmps106
    go_wp2_with (first
      | (go_at_call 76; refine HA.out.mono ?_; rintro x w1 ⟨rfl, k1, r1, l1⟩; have S1 := hide (H0.out.move k1 r1 l1); have K1 := hide k1; clear k1 r1 HA)
      | (go_at_call 76; refine (HB w1 S1.out).out.mono ?_; rintro x w2 ⟨rfl, k2, r2, l2⟩; have S2 := hide (S1.out.move k2 r2 l2); have K2 := hide (K1.out.trans k2 (fun _ _ e => e)); clear k2 r2 HB)
      | (go_at_call 76; refine (HC w2 S2.out).out.mono ?_; rintro x w3 ⟨rfl, k3, e1, e2⟩; have K3 := hide (K2.out.trans k3 (fun _ _ e => e)); clear k3))
    go_returns
    exact .inr ⟨e, HR.out, rfl, K3.out, e1, e2⟩
  have hz := iTk_lt (ib_le zs) h3
  rw [h3] at hC1
  have HC := fun w1 s => hide ((hC1 w1 s).mono fun _ _ => NOk.got rfl)
  rw [iThen_of_ok h3] at hR
  clear hC1 h3
  by_cases hX : 286 < x + 257
  · rw [if_pos (.inl hX)] at hR
    have HR := hide hR
    clear hR
    have hX' : (286 : Int) < x + 257 := by omega
    go_enter Tryz.func106, Tryz.ntmps106
    go_wp2_with (first
      | (go_at_call 76; refine HA.out.mono ?_; rintro x w1 ⟨rfl, k1, r1, l1⟩; have S1 := hide (H0.out.move k1 r1 l1); have K1 := hide k1; clear k1 r1 HA)
      | (go_at_call 76; refine (HB w1 S1.out).out.mono ?_; rintro x w2 ⟨rfl, k2, r2, l2⟩; have S2 := hide (S1.out.move k2 r2 l2); have K2 := hide (K1.out.trans k2 (fun _ _ e => e)); clear k2 r2 HB)
      | (go_at_call 76; refine (HC w2 S2.out).out.mono ?_; rintro x w3 ⟨rfl, k3, r3, l3⟩; have K3 := hide (K2.out.trans k3 (fun _ _ e => e)); clear k3))
    go_returns
    exact .inr ⟨63, HR.out, rfl, K3.out, by decide, by decide⟩
  · have hX' : ¬ (286 : Int) < x + 257 := by omega
    by_cases hY : 30 < y + 1
    · rw [if_pos (.inr hY)] at hR
      have HR := hide hR
      clear hR
      have hY' : (30 : Int) < y + 1 := by omega
      go_enter Tryz.func106, Tryz.ntmps106
      go_wp2_with (first
        | (go_at_call 76; refine HA.out.mono ?_; rintro x w1 ⟨rfl, k1, r1, l1⟩; have S1 := hide (H0.out.move k1 r1 l1); have K1 := hide k1; clear k1 r1 HA)
        | (go_at_call 76; refine (HB w1 S1.out).out.mono ?_; rintro x w2 ⟨rfl, k2, r2, l2⟩; have S2 := hide (S1.out.move k2 r2 l2); have K2 := hide (K1.out.trans k2 (fun _ _ e => e)); clear k2 r2 HB)
        | (go_at_call 76; refine (HC w2 S2.out).out.mono ?_; rintro x w3 ⟨rfl, k3, r3, l3⟩; have K3 := hide (K2.out.trans k3 (fun _ _ e => e)); clear k3))
      go_returns
      exact .inr ⟨63, HR.out, rfl, K3.out, by decide, by decide⟩
    · rw [if_neg (by omega)] at hR
      have HR := hide hR
      clear hR
      have hY' : ¬ (30 : Int) < y + 1 := by omega
      go_enter Tryz.func106, Tryz.ntmps106
      go_wp2_with (first
        | (go_at_call 76; refine HA.out.mono ?_; rintro x w1 ⟨rfl, k1, r1, l1⟩; have S1 := hide (H0.out.move k1 r1 l1); have K1 := hide k1; clear k1 r1 HA)
        | (go_at_call 76; refine (HB w1 S1.out).out.mono ?_; rintro x w2 ⟨rfl, k2, r2, l2⟩; have S2 := hide (S1.out.move k2 r2 l2); have K2 := hide (K1.out.trans k2 (fun _ _ e => e)); clear k2 r2 HB)
        | (go_at_call 76; refine (HC w2 S2.out).out.mono ?_; rintro x w3 ⟨rfl, k3, r3, l3⟩; have K3 := hide (K2.out.trans k3 (fun _ _ e => e)); have R3 := hide r3; clear k3 r3))
      go_returns
      exact .inl ⟨q3, (x, y, z), HR.out, by go_num, K3.out, R3.out, l3⟩
end
end Go.Proofs.YteknifnadbmfiaaGreatDoor

/- The stream's innerCode: contract. -/
namespace Go.Proofs.YteknifnadbmfiaaGreatDoor
set_option maxRecDepth 100000
open Go Go.RowKit

/-- The order of lengths lies in block g. -/
def TabAt (g : Nat) (w : World) : Prop := ∀ i, i < 19 → w.cell? ⟨g, i, none⟩ = some (.int .i64 ((iOrd.getD i 0 : Nat) : Int))
/-- .. in both programs' variables. -/
def Tab (w : World) : Prop := TabAt 1 w ∧ TabAt 2 w
theorem Tab.kept {M : Nat → Prop} {w w' : World} (h : Tab w) (k : Kept M w w') (h0 : ¬ M 1 ∧ ¬ M 2) : Tab w' := ⟨fun i hi => (k.cell (p := ⟨1, i, none⟩) (lt_of_cell (h.1 i hi)) h0.1).trans (h.1 i hi), fun i hi => (k.cell (p := ⟨2, i, none⟩) (lt_of_cell (h.2 i hi)) h0.2).trans (h.2 i hi)⟩
theorem Tab.below {B : Nat} {w w' : World} (h : Tab w) (k : Below B w w') (h0 : 2 < B) : Tab w' := h.kept (Kept.of_below k) (by omega)
theorem iOrd_lt : ∀ i, i < 19 → iOrd.getD i 0 < 19 := by decide
theorem valA_set (L : List Int) (i : Nat) (x : Int) : (valA L).setIfInBounds i (.int .i64 x) = valA (L.set i x) := by
  rw [← Array.toList_inj]
  simp [valA, List.map_set]
theorem zero19 : ∀ w, (zeroValue 190).run Tryz.prog w = .ok (.agg (valA (List.replicate 19 0))) w := by intro w; rfl

section
variable {B bs br : Nat} {a : Option Addr} {len cap : Nat} {zs : List Int} {m : Nat} {w w' : World} {p : Nat} {o : Option Addr} {oc : Nat} {fc : Value} {out : List Int}
/-- A code, wherever its parts lie. -/
def CodeX (lo hi : Nat) (w : World) (bc : Nat) (ls : List Int) : Prop := ∃ gl gc vo N, CodeAt lo hi w bc gl gc vo N ls
def IGot (br : Nat) (a : Option Addr) (len cap : Nat) (w : World) (q : Nat) (first : List Int) (x : Ending) (w' : World) : Prop :=
  ∃ bc, x = .returned (.tuple #[.pointer (some ⟨bc, 0, none⟩), .int .i64 0]) ∧ Kept (fun b => b = br) w w' ∧ w'.heap[br]? = some (.cells (rA a len cap q) 148 (0, 0)) ∧ q ≤ len * 8 ∧ CodeX w.heap.size w'.heap.size w' bc first
def IBad (br : Nat) (w : World) (e : Int) (x : Ending) (w' : World) : Prop := x = .returned (.tuple #[.pointer none, .int .i64 e]) ∧ Kept (fun b => b = br) w w' ∧ 60 ≤ e ∧ e ≤ 65
def IOk (br : Nat) (a : Option Addr) (len cap : Nat) (w : World) (r : Except Int (Nat × List Int)) (x : Ending) (w' : World) : Prop := (∃ q f, r = .ok (q, f) ∧ IGot br a len cap w q f x w') ∨ (∃ e, r = .error e ∧ IBad br w e x w')
theorem IOk.got {r : Except Int (Nat × List Int)} {x : Ending} {q : Nat} {f : List Int} (hr : r = .ok (q, f)) (h : IOk br a len cap w r x w') : IGot br a len cap w q f x w' := by
  subst hr
  obtain ⟨q', c', e, h⟩ | ⟨e, h', _⟩ := h
  · cases e; exact h
  · cases h'
theorem IOk.bad {r : Except Int (Nat × List Int)} {x : Ending} {e : Int} (hr : r = .error e) (h : IOk br a len cap w r x w') : IBad br w e x w' := by
  subst hr
  obtain ⟨q', c', e, h⟩ | ⟨e, h', h⟩ := h
  · cases e
  · cases h'; exact h

/-- While the lengths are read. -/
structure IS (br : Nat) (a : Option Addr) (len cap : Nat) (w wr : World) (p : Nat) (F : List Int) : Prop where
  kept : Kept (fun b => b = br) w wr
  rd : wr.heap[br]? = some (.cells (rA a len cap p) 148 (0, 0))
  row : wr.heap[w.heap.size]? = some (.cells (valA F) 190 (0, 0))
  pl : p ≤ len * 8
  fl : F.length = 19

set_option maxHeartbeats 4000000 in
theorem inner_c (h : SS B bs br a len cap zs m w p o oc fc out) (hT : Tab w) (hB : 2 < B) (hl8 : len * 8 ≤ 9223372036854775000) (z : Nat) (zi : Int) (hzi : zi = (z : Int) + 4) (hz : z ≤ 15) :
    Calls Tryz.prog 107 #[.pointer (some ⟨bs, 0, none⟩), .int .i64 zi] w (IOk br a len cap w (iInn (ib zs) (len * 8) p z)) := by
  subst hzi
  obtain ⟨R, hR⟩ : ∃ R, R = iInn (ib zs) (len * 8) p z := ⟨_, rfl⟩
  rw [← hR]
  have HR := hide hR
  have H0 := hide h
  have HT := hide hT
  have hz19 := zero19
  have hbr := lt_of_block h.rd
  have hpl := h.pl
  have hbr0 : br ≠ 2 := by have := h.inb; omega
  have HI0 : Hid (IS br a len cap w (w.alloc (.cells (valA (List.replicate 19 0)) 190)) p (List.replicate 19 0)) := ⟨Kept.alloc _ (Kept.refl _ w) _, heap_old h.rd, heap_new _ _, h.pl, by simp⟩
  clear h hT hR
  unfold iInn at HR
  go_enter Tryz.func107, Tryz.ntmps107
  go_wp2_with fail
  go_loopg [13] (z + 4) (fun gk v13 wx => ∃ (i p' : Nat) (F : List Int) (_ : i + gk = z + 4), v13 = .int .i64 (i : Int) ∧ Hid (iRd3 (ib zs) (len * 8) (z + 4) p 0 (List.replicate 19 0) = iRd3 (ib zs) (len * 8) gk p' i F) ∧ Hid (IS br a len cap w wx p' F))
  case atStart => exact ⟨0, p, List.replicate 19 0, by omega, rfl, rfl, HI0.out⟩
  case round =>
    obtain ⟨i, p', F, hig, rfl, HRd, HI⟩ := hrel
    clear HI0
    have HS := hide (H0.out.move HI.out.kept HI.out.rd HI.out.pl)
    cases gk with
    | succ g1 =>
      have hlt : (i : Int) < (z : Int) + 4 := by omega
      have hN := number_c HS.out hl8 3 3 rfl (by decide)
      rcases h1 : iTk (ib zs) (len * 8) p' 3 with e | ⟨q1, x⟩
      · rw [h1] at hN
        have HN := hide (hN.mono fun _ _ => NOk.bad rfl)
        have HRR : Hid (R = .error e) := by rw [HR.out, HRd.out, iRd3, iThen_of_err h1]; exact rfl
        clear hN h1 HRd HR
        go_wp2_with (go_at_call 76; refine HN.out.mono ?_; rintro x w1 ⟨rfl, k1, e1, e2⟩; have K1 := hide (HI.out.kept.trans k1 (fun _ _ e => e)); clear k1)
        go_ret2
        exact .inr ⟨e, HRR.out, rfl, K1.out, e1, e2⟩
      · have hx := iTk_lt (ib_le zs) h1
        rw [h1] at hN
        have HN := hide (hN.mono fun _ _ => NOk.got rfl)
        have HRR : Hid (iRd3 (ib zs) (len * 8) (z + 4) p 0 (List.replicate 19 0) = iRd3 (ib zs) (len * 8) g1 q1 (i + 1) (F.set (iOrd.getD i 0) (x : Int))) := by rw [HRd.out, iRd3, iThen_of_ok h1]; exact rfl
        have hio := iOrd_lt i (by omega)
        obtain ⟨y, hy⟩ : ∃ y, y = iOrd.getD i 0 := ⟨_, rfl⟩
        have hcy := HT.out.2 i (by omega)
        rw [← hy] at HRR hio hcy
        have hFl := HI.out.fl
        have hrow := HI.out.row
        obtain ⟨c, hc⟩ : ∃ c, (valA F)[y]? = some c := ⟨_, valA_at F (by omega)⟩
        have hty : wr.cell? ⟨2, i, none⟩ = some (.int .i64 (y : Int)) := (HI.out.kept.cell (p := ⟨2, i, none⟩) (lt_of_cell hcy) (fun e => hbr0 e.symm)).trans hcy
        have hi19 : (i : Int) < 19 := by omega
        have hy19 : (y : Int) < 19 := by omega
        have HC := hide hc
        have HTY := hide hty
        clear hN h1 HRd hy hcy hFl hrow hc hty
        go_wp2_with (go_at_call 76; refine HN.out.mono ?_; rintro x w1 ⟨rfl, k1, r1, l1⟩; have K1 := hide (HI.out.kept.trans k1 (fun _ _ e => e)); have R1 := hide r1; have row1 := (k1.block w.heap.size (lt_of_block HI.out.row) (fun e => by omega)).trans HI.out.row; have c1 := cells_of row1 y; rw [HC.out] at c1; have f1 := free_of row1 y; have t1 := (k1.cell (p := ⟨2, i, none⟩) (lt_of_cell HTY.out) (fun e => hbr0 e.symm)).trans HTY.out; have z1 := lt_of_block row1; have ROW1 := hide row1; clear k1 r1 row1)
        go_roundg g1
        case measure => omega
        case rel =>
          refine ⟨i + 1, q1, F.set y (x : Int), by omega, by go_num, HRR, ?_⟩
          have kx : Kept (fun b => b = w.heap.size) w1 (w1.setCell ⟨w.heap.size, y, none⟩ (.int .i64 (x : Int))) := Kept.setCell (M := fun b => b = w.heap.size) (Kept.refl _ w1) (fun _ => rfl) _
          refine ⟨K1.out.trans kx (fun i hi e => by omega), ?_, ?_, l1, by rw [List.length_set]; exact HI.out.fl⟩
          · exact kx.heap R1.out (by omega)
          · rw [set_of ROW1.out y, valA_set]
    | zero =>
      obtain rfl : i = z + 4 := by omega
      have HRR : Hid (R = if ¬ check F false = 0 then .error 63 else .ok (p', F)) := by rw [HR.out, HRd.out, iRd3]; exact rfl
      have hFi := (ints_at HI.out.row).wide (Nat.zero_le _) (lt_of_block HI.out.row)
      clear HR HRd
      have hF19 := HI.out.fl
      by_cases hck : check F false = 0
      · have hM := make_ok wr.heap.size _ 19 F false wr hck hFi
        rw [hF19] at hM
        have HM := hide hM
        have HRE : Hid (R = .ok (p', F)) := by rw [HRR.out, if_neg (by simpa using hck)]; exact rfl
        clear hM hFi hck HRR hF19
        go_wp2_with (go_at_call 66; refine HM.out.mono ?_; rintro x w1 ⟨bc, gl, gc, vo, N, rfl, c1, b1⟩; have C1 := hide c1; have B1 := hide b1; clear c1 b1)
        go_ret2
        have hz1 := HI.out.kept.size
        exact .inl ⟨p', F, HRE.out, bc, rfl, HI.out.kept.trans (Kept.of_below B1.out) (fun i hi e => by omega), (B1.out.block br (lt_of_block HI.out.rd)).trans HI.out.rd, HI.out.pl, gl, gc, vo, N, C1.out.wide hz1 (Nat.le_refl _)⟩
      · have hM := make_err wr.heap.size _ 19 F false wr hck hFi
        rw [hF19] at hM
        have HRE : Hid (R = .error 63) := by rw [HRR.out, if_pos hck]; exact rfl
        generalize check F false = E at hM hck
        have HM := hide hM
        clear hM hFi HRR hF19
        go_wp2_with (go_at_call 66; refine HM.out.mono ?_; rintro x w1 ⟨rfl, b1⟩; have B1 := hide b1; clear b1)
        go_ret2
        have hz1 := HI.out.kept.size
        exact .inr ⟨63, HRE.out, rfl, HI.out.kept.trans (Kept.of_below B1.out) (fun i hi e => by omega), by decide, by decide⟩
end
end Go.Proofs.YteknifnadbmfiaaGreatDoor

/- The stream's lengths: contract. -/
namespace Go.Proofs.YteknifnadbmfiaaGreatDoor
set_option maxRecDepth 100000
open Go Go.RowKit

theorem iLoop_step {σ : Type} {T : Nat} {f : Nat → σ → Except Int (Nat × (Bool × σ))} {p q : Nat} {s t : σ} {c : Bool} (h : f p s = .ok (q, (c, t))) (h1 : p < q) (h2 : q ≤ T) : iLoop T f p s = if c = true then iLoop T f q t else .ok (q, t) := by
  cases c with
  | true => rw [iLoop_on h h1 h2]; rfl
  | false => rw [iLoop_end h]; rfl
theorem iLen_err {first : List Int} {many : Nat} {b : Nat → Nat} {T p : Nat} {all : List Int} {e : Int} (h : iNx first b T p = .error e) : iLen first many b T p all = .error e := by unfold iLen; rw [iThen_of_err h]
theorem iLen_one {first : List Int} {many : Nat} {b : Nat → Nat} {T p q v : Nat} {all : List Int} (h : iNx first b T p = .ok (q, v)) (hv : v < 16) : iLen first many b T p all = .ok (q, (decide (all.length + 1 < many), all ++ [(v : Int)])) := by
  unfold iLen; rw [iThen_of_ok h, if_pos hv]
theorem iLen_none {first : List Int} {many : Nat} {b : Nat → Nat} {T p q : Nat} {all : List Int} (h : iNx first b T p = .ok (q, 16)) (h0 : all.length = 0) : iLen first many b T p all = .error 63 := by
  unfold iLen; rw [iThen_of_ok h, if_neg (by decide), if_pos ⟨rfl, h0⟩]
theorem iLen_bad {first : List Int} {many : Nat} {b : Nat → Nat} {T p q v n : Nat} {all : List Int} {e : Int} (h : iNx first b T p = .ok (q, v)) (hv : 16 ≤ v) (h0 : ¬ (v = 16 ∧ all.length = 0)) (hn : (if v = 16 then 2 else if v = 17 then 3 else 7) = n) (ht : iTk b T q n = .error e) : iLen first many b T p all = .error e := by
  unfold iLen; rw [iThen_of_ok h, if_neg (by omega), if_neg h0, hn, iThen_of_err ht]
theorem iLen_over {first : List Int} {many : Nat} {b : Nat → Nat} {T p q q2 v n k x : Nat} {all : List Int} (h : iNx first b T p = .ok (q, v)) (hv : 16 ≤ v) (h0 : ¬ (v = 16 ∧ all.length = 0)) (hn : (if v = 16 then 2 else if v = 17 then 3 else 7) = n) (hk : (if v = 18 then 11 else 3) = k) (ht : iTk b T q n = .ok (q2, x)) (ho : many < all.length + (k + x)) : iLen first many b T p all = .error 63 := by
  unfold iLen; rw [iThen_of_ok h, if_neg (by omega), if_neg h0, hn, iThen_of_ok ht, hk, if_pos (by omega)]
theorem iLen_more {first : List Int} {many : Nat} {b : Nat → Nat} {T p q q2 v n k x : Nat} {all : List Int} {L : Int} (h : iNx first b T p = .ok (q, v)) (hv : 16 ≤ v) (h0 : ¬ (v = 16 ∧ all.length = 0)) (hn : (if v = 16 then 2 else if v = 17 then 3 else 7) = n) (hk : (if v = 18 then 11 else 3) = k) (hL : (if v = 16 then ln all (all.length - 1) else 0) = L) (ht : iTk b T q n = .ok (q2, x)) (ho : all.length + (k + x) ≤ many) :
    iLen first many b T p all = .ok (q2, (decide (all.length + (k + x) < many), all ++ List.replicate (k + x) L)) := by
  unfold iLen; rw [iThen_of_ok h, if_neg (by omega), if_neg h0, hn, iThen_of_ok ht, hk, hL, if_neg (by omega), Nat.add_comm x k]

theorem made_none (n : Nat) (i : TypeInfo) (hi : Tryz.prog.info? 3 = some i) (hz : i.zero = some (.int .i64 0)) (hs : i.size = 1) (hb : i.bytes = 8) (hn : n ≤ 1000000000) (W : World) :
    (Instr.makeSlice 97 (.int .i64 0) (.int .i64 (n : Int))).run Tryz.prog W = .ok (.slice (some ⟨W.heap.size, 0, none⟩) 0 n) (W.alloc (.cells (valA (List.replicate n 0)) 3)) := by
  have := run_make (P := Tryz.prog) W 97 3 i (.int .i64 0) Tryz.underlying97 hi hz .i64 .i64 0 n (by omega) (by omega) (by rw [hb]; omega) (by omega)
  rw [this, hs]
  have e2 : madeCells (Value.int .i64 0).cells n = valA (List.replicate n 0) := by
    have := toList_madeCells_one (Value.int .i64 0) n
    rw [← Array.toList_inj]
    simpa [Value.cells, valA] using this
  rw [Int.toNat_natCast, Nat.mul_one, e2]
  rfl
theorem own_none {B g n : Nat} {w : World} (h : w.heap[g]? = some (.cells (valA (List.replicate n 0)) 3 (0, 0))) (hB : B ≤ g) (hn : n ≤ 1000000000) : Owns w B (.slice (some ⟨g, 0, none⟩) 0 n) [] := by
  refine ⟨by simp, .inr ⟨g, n, _, rfl, hB, h, by simp, by unfold maxLen; omega, ?_, ?_⟩⟩
  · simp [valA]
  · simp

/-- While lengths are read: the call began in w. -/
structure LW (br : Nat) (a : Option Addr) (len cap : Nat) (w wr : World) (p : Nat) (v : Value) (all : List Int) : Prop where
  kept : Kept (fun b => b = br) w wr
  rd : wr.heap[br]? = some (.cells (rA a len cap p) 148 (0, 0))
  owns : Owns wr w.heap.size v all
  pl : p ≤ len * 8
section
variable {B bs br : Nat} {a : Option Addr} {len cap : Nat} {zs : List Int} {m : Nat} {w wr w' : World} {p : Nat} {o : Option Addr} {oc : Nat} {fc : Value} {out : List Int}
theorem LW.move {v : Value} {all : List Int} {q : Nat} {w2 : World} (h : LW br a len cap w wr p v all) (hbr : br < w.heap.size) (k : Kept (fun b => b = br) wr w2) (hr : w2.heap[br]? = some (.cells (rA a len cap q) 148 (0, 0))) (hq : q ≤ len * 8) : LW br a len cap w w2 q v all :=
  ⟨h.kept.trans k (fun _ _ e => e), hr, h.owns.kept k (fun g hg e => by have := (ownsRow_lt h.owns hg).1; omega), hq⟩
theorem LW.push {v v' : Value} {all : List Int} {x : Int} {w4 : World} {ob : Obj} (h : LW br a len cap w wr p v all) (hbr : br < w.heap.size) (hown : w4.ownsRow w.heap.size 3 1 v' (all.length + 1) (all.map (Value.int .i64) ++ [.int .i64 x])) (hgrow : (wr.alloc ob).grownBy w4 v.ownBlock) : LW br a len cap w w4 p v' (all ++ [x]) := by
  have hk := Kept.of_grown hgrow
  have hz := h.kept.size
  have hk2 : Kept (fun b => some b = v.ownBlock) wr w4 := Kept.trans (M' := fun b => some b = v.ownBlock) (b := wr.alloc ob) (Kept.alloc _ (Kept.refl _ wr) _) hk (fun _ _ h => h)
  refine ⟨h.kept.trans hk2 (fun i hi e => ?_), hk2.heap h.rd (fun e => ?_), Owns.push hown, h.pl⟩
  · have := (ownsRow_lt h.owns e.symm).1; omega
  · have := (ownsRow_lt h.owns e.symm).1; omega
def LGot (br : Nat) (a : Option Addr) (len cap : Nat) (w : World) (q : Nat) (all : List Int) (x : Ending) (w' : World) : Prop :=
  ∃ al ac, x = .returned (.tuple #[.slice al all.length ac, .int .i64 0]) ∧ LW br a len cap w w' q (.slice al all.length ac) all
def LBad (br : Nat) (w : World) (e : Int) (x : Ending) (w' : World) : Prop := x = .returned (.tuple #[.slice none 0 0, .int .i64 e]) ∧ Kept (fun b => b = br) w w' ∧ 60 ≤ e ∧ e ≤ 65
def LOk (br : Nat) (a : Option Addr) (len cap : Nat) (w : World) (r : Except Int (Nat × List Int)) (x : Ending) (w' : World) : Prop := (∃ q f, r = .ok (q, f) ∧ LGot br a len cap w q f x w') ∨ (∃ e, r = .error e ∧ LBad br w e x w')
theorem LOk.got {r : Except Int (Nat × List Int)} {x : Ending} {q : Nat} {f : List Int} (hr : r = .ok (q, f)) (h : LOk br a len cap w r x w') : LGot br a len cap w q f x w' := by
  subst hr
  obtain ⟨q', c', e, h⟩ | ⟨e, h', _⟩ := h
  · cases e; exact h
  · cases h'
theorem LOk.bad {r : Except Int (Nat × List Int)} {x : Ending} {e : Int} (hr : r = .error e) (h : LOk br a len cap w r x w') : LBad br w e x w' := by
  subst hr
  obtain ⟨q', c', e, h⟩ | ⟨e, h', h⟩ := h
  · cases e
  · cases h'; exact h
/-- Lengths, wherever they lie. -/
def LX (br : Nat) (a : Option Addr) (len cap : Nat) (w wr : World) (p : Nat) (v : Value) (all : List Int) : Prop := ∃ al ac, v = .slice al all.length ac ∧ LW br a len cap w wr p v all

set_option maxHeartbeats 16000000 in
theorem lengths_c (h : SS B bs br a len cap zs m w p o oc fc out) (hl8 : len * 8 ≤ 9223372036854775000) {lo hi bc gl gc : Nat} {vo : Value} {N : Nat} {first : List Int} (hc : CodeAt lo hi w bc gl gc vo N first) (hg : Good first) (h19 : first.length = 19) (hbr : br < lo ∨ hi ≤ br) (many : Nat) (mi : Int) (hmi : mi = many) (hm0 : 1 ≤ many) (hm1 : many ≤ 1000) :
    Calls Tryz.prog 108 #[.pointer (some ⟨bs, 0, none⟩), .pointer (some ⟨bc, 0, none⟩), .int .i64 mi] w (LOk br a len cap w (iAll first many (ib zs) (len * 8) p)) := by
  subst hmi
  obtain ⟨i0, hi0, hz0, hz1, hz2⟩ := info_parts Tryz.info3
  have hmk := made_none many i0 hi0 hz0 hz1 hz2 (by omega)
  obtain ⟨R, hR⟩ : ∃ R, R = iAll first many (ib zs) (len * 8) p := ⟨_, rfl⟩
  rw [← hR]
  have H0 := hide h
  have HC := hide hc
  have HG := hide hg
  have H19 := hide h19
  have hbrw := lt_of_block h.rd
  have hpl := h.pl
  have HL0 : Hid (LW br a len cap w (w.alloc (.cells (valA (List.replicate many 0)) 3)) p (.slice (some ⟨w.heap.size, 0, none⟩) 0 many) []) := ⟨Kept.alloc _ (Kept.refl _ w) _, heap_old h.rd, own_none (heap_new _ _) (Nat.le_refl _) (by omega), h.pl⟩
  have HR0 : Hid (R = if ([] : List Int).length < many then iLoop (len * 8) (iLen first many (ib zs) (len * 8)) p [] else .ok (p, [])) := by rw [hR, if_pos (show ([] : List Int).length < many by simp; omega)]; exact rfl
  clear h hc hg h19 hR
  generalize valA (List.replicate many 0) = ZZ at hmk HL0
  go_enter Tryz.func108, Tryz.ntmps108
  go_wp2_with fail
  go_step3
  go_wp2_with fail
  go_step3
  go_wp2_with fail
  go_loopg [8, 9] (len * 8 - p) (fun gk v8 v9 wx => ∃ (p' : Nat) (all : List Int) (_ : p' + gk = len * 8) (_ : all.length ≤ many), v9 = .int .i64 0 ∧ Hid (R = if all.length < many then iLoop (len * 8) (iLen first many (ib zs) (len * 8)) p' all else .ok (p', all)) ∧ Hid (LX br a len cap w wx p' v8 all))
  case atStart => exact ⟨p, [], by omega, by simp, rfl, HR0, _, _, rfl, HL0.out⟩
  case round =>
    obtain ⟨p', all, hpg, hal, rfl, HR, HX⟩ := hrel
    obtain ⟨al, ac, rfl, hLW⟩ := HX.out
    have HL := hide hLW
    clear hLW HX HL0 HR0
    by_cases hlt : all.length < many
    case neg =>
      have HRE : Hid (R = .ok (p', all)) := by rw [HR.out, if_neg hlt]; exact rfl
      have hlt' : ¬ (all.length : Int) < many := by omega
      clear HR
      go_wp2_with fail
      go_ret2
      exact .inl ⟨p', all, HRE.out, al, ac, rfl, HL.out⟩
    case pos =>
    have hlt' : (all.length : Int) < many := by omega
    replace HR : Hid (R = iLoop (len * 8) (iLen first many (ib zs) (len * 8)) p' all) := by rw [HR.out, if_pos hlt]; exact rfl
    have HS := hide (H0.out.move HL.out.kept HL.out.rd HL.out.pl)
    have hS := symbol_c HS.out hl8 (HC.out.kept HL.out.kept (fun b h1 h2 e => by omega)) HG.out (by rw [H19.out]; decide) hbr
    rcases h1 : iNx first (ib zs) (len * 8) p' with e | ⟨q1, v⟩
    · rw [h1] at hS
      have HSy := hide (hS.mono fun _ _ => NOk.bad rfl)
      have HRE := hide (HR.out.trans (iLoop_err (iLen_err h1)))
      clear hS h1 HR
      go_wp2_with (go_at_call 125; refine HSy.out.mono ?_; rintro x w1 ⟨rfl, k1, e1, e2⟩; have K1 := hide (HL.out.kept.trans k1 (fun _ _ e => e)); clear k1)
      go_ret2
      exact .inr ⟨e, HRE.out, rfl, K1.out, e1, e2⟩
    obtain ⟨hv, hpq⟩ := iNx_lt h1
    rw [H19.out] at hv
    rw [h1] at hS
    have HSy := hide (hS.mono fun _ _ => NOk.got rfl)
    clear hS
    by_cases hv16 : v < 16
    · have hO := iLen_one (many := many) (all := all) h1 hv16
      have hgo := iGo_len first many (ib zs) (len * 8) p' all q1 _ hO
      have HRE : Hid (R = if (all ++ [(v : Int)]).length < many then iLoop (len * 8) (iLen first many (ib zs) (len * 8)) q1 (all ++ [(v : Int)]) else .ok (q1, all ++ [(v : Int)])) := hide (by
        have := HR.out.trans (iLoop_step hO hgo.1 hgo.2)
        simpa using this)
      have hql := hgo.2
      have hv16' : (v : Int) < 16 := by omega
      clear hO hgo h1 HR
      go_wp2_with (first
        | (go_at_call 125; refine HSy.out.mono ?_; rintro x w1 ⟨rfl, k1, r1, l1⟩; have L1 := hide (HL.out.move hbrw k1 r1 l1); clear k1 r1)
        | (at_builtin; refine wpList_append_own _ rfl _ _ 97 rfl w.heap.size 3 i0 (.int .i64 0) 1 8 Tryz.underlying97 hi0 hz0 hz1 hz2 rfl (by decide) (.slice al all.length ac) all.length (all.map (Value.int .i64)) rfl (World.ownsRow.alloc L1.out.owns _) ⟨w1.heap.size, 0, none⟩ 1 1 [.int .i64 (v : Int)] rfl rfl (one_int w1 _) (by intro u hu; simp at hu; subst hu; rfl) (by unfold maxLen; omega) (by omega) (by have := L1.out.kept.size; simp; omega) ?_; intro v' w2 hown' hgrow hnil; obtain ⟨a2, c2, rfl⟩ := own_form hown'; have L2 := hide (L1.out.push hbrw hown' hgrow); clear hown' hgrow hnil))
      go_roundg (len * 8 - q1)
      case measure => omega
      case rel => exact ⟨q1, all ++ [(v : Int)], by omega, by simp; omega, rfl, HRE, a2, c2, by simp, L2.out⟩
    by_cases hnone : v = 16 ∧ all.length = 0
    · obtain ⟨rfl, h0⟩ := hnone
      have HRE := hide (HR.out.trans (iLoop_err (iLen_none h1 h0)))
      have h0' : (all.length : Int) = 0 := by omega
      clear h1 HR hv16
      go_wp2_with (go_at_call 125; refine HSy.out.mono ?_; rintro x w1 ⟨rfl, k1, r1, l1⟩; have L1 := hide (HL.out.move hbrw k1 r1 l1); clear k1 r1)
      go_ret2
      exact .inr ⟨63, HRE.out, rfl, L1.out.kept, by decide, by decide⟩
    have h3 : v = 16 ∨ v = 17 ∨ v = 18 := by omega
    rcases h3 with rfl | rfl | rfl
    · -- v = 16
      have hpos : 0 < all.length := by omega
      obtain ⟨j, hj⟩ : ∃ j, all.length = j + 1 := ⟨all.length - 1, by omega⟩
      have hji : (all.length : Int) - 1 = (j : Int) := by omega
      have hjl : (j : Int) < (all.length : Int) := by omega
      obtain ⟨x, hx⟩ : ∃ x, x = ln all (all.length - 1) := ⟨_, rfl⟩
      obtain ⟨gA, rfl, hgA⟩ : ∃ g, al = some ⟨g, 0, none⟩ ∧ g < wr.heap.size := by
        obtain ⟨g, c9, hv9, _, hlt9⟩ := World.ownsRow.form HL.out.owns hpos
        simp at hv9
        exact ⟨g, hv9.1, hlt9⟩
      have HCJ : Hid (∀ wz v9, LW br a len cap w wz v9 (.slice (some ⟨gA, 0, none⟩) all.length ac) all → wz.cell? ⟨gA, j, none⟩ = some (.int .i64 x)) := fun wz v9 hw => by
        rw [World.ownsRow.cellAt hw.owns j (by omega), hx, hj]
        simp [ln, List.getD, hj]
      have h0' : ¬ (all.length : Int) = 0 := by omega
      have hTm := fun w1 (s : SS B bs br a len cap zs m w1 q1 o oc fc out) => times_c s hl8 16 2 3 (by decide)
      rcases h2 : iTk (ib zs) (len * 8) q1 2 with e | ⟨q2, t⟩
      · rw [h2] at hTm
        have HTm := fun w1 s => hide ((hTm w1 s).mono fun _ _ => NOk.bad rfl)
        have HRE := hide (HR.out.trans (iLoop_err (iLen_bad h1 (by decide) hnone rfl h2)))
        clear hTm h1 h2 HR hnone hv16 hj hx
        go_wp2_with (first
          | (go_at_call 125; refine HSy.out.mono ?_; rintro x w1 ⟨rfl, k1, r1, l1⟩; have L1 := hide (HL.out.move hbrw k1 r1 l1); have cj := HCJ.out _ _ L1.out; clear k1 r1)
          | (go_at_call 127; refine (HTm w1 (H0.out.move L1.out.kept L1.out.rd L1.out.pl)).out.mono ?_; rintro x w2 ⟨rfl, k2, e1, e2⟩; have K2 := hide (L1.out.kept.trans k2 (fun _ _ e => e)); clear k2))
        go_ret2
        exact .inr ⟨e, HRE.out, rfl, K2.out, e1, e2⟩
      have ht := iTk_lt (ib_le zs) h2
      rw [h2] at hTm
      have HTm := fun w1 s => hide ((hTm w1 s).mono fun _ _ => NOk.got rfl)
      clear hTm
      by_cases hov : many < all.length + (3 + t)
      · have HRE := hide (HR.out.trans (iLoop_err (iLen_over h1 (by decide) hnone rfl rfl h2 hov)))
        obtain ⟨tm, htm⟩ : ∃ tm, tm = 3 + t := ⟨_, rfl⟩
        rw [← htm] at HTm hov
        have hov' : (many : Int) - (all.length : Int) < (tm : Int) := by omega
        clear h1 h2 HR hnone hv16 hj hx
        go_wp2_with (first
          | (go_at_call 125; refine HSy.out.mono ?_; rintro x w1 ⟨rfl, k1, r1, l1⟩; have L1 := hide (HL.out.move hbrw k1 r1 l1); have cj := HCJ.out _ _ L1.out; clear k1 r1)
          | (go_at_call 127; refine (HTm w1 (H0.out.move L1.out.kept L1.out.rd L1.out.pl)).out.mono ?_; rintro x w2 ⟨rfl, k2, r2, l2⟩; have K2 := hide (L1.out.kept.trans k2 (fun _ _ e => e)); clear k2 r2))
        go_ret2
        exact .inr ⟨63, HRE.out, rfl, K2.out, by decide, by decide⟩
      · have hO := iLen_more (many := many) (k := 3) (L := x) h1 (by decide) hnone rfl rfl (by rw [if_pos rfl, ← hx]) h2 (by omega)
        have hgo := iGo_len first many (ib zs) (len * 8) p' all q2 _ hO
        obtain ⟨tm, htm⟩ : ∃ tm, tm = 3 + t := ⟨_, rfl⟩
        rw [← htm] at HTm hov hO
        have htmB : tm ≤ 200 := by omega
        have HRE : Hid (R = if (all ++ List.replicate tm x).length < many then iLoop (len * 8) (iLen first many (ib zs) (len * 8)) q2 (all ++ List.replicate tm x) else .ok (q2, all ++ List.replicate tm x)) := hide (by
          have := HR.out.trans (iLoop_step hO hgo.1 hgo.2)
          simpa using this)
        have hql := hgo.2
        have hpq2 := hgo.1
        have hov' : ¬ (many : Int) - (all.length : Int) < (tm : Int) := by omega
        clear hO hgo h1 h2 HR hnone hv16 htm ht hj hx
        go_wp2_with (first
          | (go_at_call 125; refine HSy.out.mono ?_; rintro x w1 ⟨rfl, k1, r1, l1⟩; have L1 := hide (HL.out.move hbrw k1 r1 l1); have cj := HCJ.out _ _ L1.out; clear k1 r1)
          | (go_at_call 127; refine (HTm w1 (H0.out.move L1.out.kept L1.out.rd L1.out.pl)).out.mono ?_; rintro x w2 ⟨rfl, k2, r2, l2⟩; have L2 := hide (L1.out.move hbrw k2 r2 l2); clear k2 r2))
        clear HTm HSy L1 HL HS HCJ cj
        obtain ⟨W0, rfl⟩ : ∃ W, W = wr := ⟨wr, rfl⟩
        obtain ⟨g1, rfl⟩ : ∃ g1, gk = g1 + 1 := ⟨gk - 1, by omega⟩
        go_loopg [8, 66] tm (fun g2 v8 v66 wx => ∃ (i : Nat) (_ : i + g2 = tm), v66 = .int .i64 (i : Int) ∧ Hid (LX br a len cap w wx q2 v8 (all ++ List.replicate i x)))
        case atStart => exact ⟨0, by omega, rfl, (some ⟨gA, 0, none⟩), ac, by simp, by simpa using L2.out⟩
        case round =>
          obtain ⟨i, hig, rfl, HX2⟩ := hrel
          obtain ⟨a8, c8, rfl, hLW⟩ := HX2.out
          have L3 := hide hLW
          clear hLW HX2 L2
          cases gk with
          | zero =>
            obtain rfl : i = tm := by omega
            go_wp2_with fail
            go_roundg (len * 8 - q2)
            case measure => omega
            case rel => exact ⟨q2, all ++ List.replicate i x, by omega, by simp; omega, rfl, HRE, a8, c8, rfl, L3.out⟩
          | succ g3 =>
            have hit : (i : Int) < tm := by omega
            obtain ⟨F, hF⟩ : ∃ F, F = all ++ List.replicate i x := ⟨_, rfl⟩
            have HFS : Hid (all ++ List.replicate (i + 1) x = F ++ [x]) := by rw [hF, List.replicate_succ', List.append_assoc]; exact rfl
            have hFl : F.length ≤ 2000 := by rw [hF]; simp; omega
            rw [← hF] at L3 ⊢
            clear hF
            go_wp2_with (at_builtin; refine wpList_append_own _ rfl _ _ 97 rfl w.heap.size 3 i0 (.int .i64 0) 1 8 Tryz.underlying97 hi0 hz0 hz1 hz2 rfl (by decide) _ F.length (F.map (Value.int .i64)) rfl (World.ownsRow.alloc L3.out.owns _) ⟨wr.heap.size, 0, none⟩ 1 1 [.int .i64 x] rfl rfl (one_int wr _) (by intro u hu; simp at hu; subst hu; rfl) (by unfold maxLen; omega) (by omega) (by have := L3.out.kept.size; simp; omega) ?_; intro v' w4 hown' hgrow hnil; obtain ⟨a4, c4, rfl⟩ := own_form hown'; have L4 := hide (L3.out.push hbrw hown' hgrow); clear hown' hgrow hnil)
            go_roundg g3
            case measure => omega
            case rel =>
              refine ⟨i + 1, by omega, by go_num, ?_⟩
              rw [HFS.out]
              exact ⟨a4, c4, by simp, L4.out⟩
    · -- v = 17
      have hTm := fun w1 (s : SS B bs br a len cap zs m w1 q1 o oc fc out) => times_c s hl8 17 3 3 (by decide)
      rcases h2 : iTk (ib zs) (len * 8) q1 3 with e | ⟨q2, t⟩
      · rw [h2] at hTm
        have HTm := fun w1 s => hide ((hTm w1 s).mono fun _ _ => NOk.bad rfl)
        have HRE := hide (HR.out.trans (iLoop_err (iLen_bad h1 (by decide) hnone rfl h2)))
        clear hTm h1 h2 HR hnone hv16
        go_wp2_with (first
          | (go_at_call 125; refine HSy.out.mono ?_; rintro x w1 ⟨rfl, k1, r1, l1⟩; have L1 := hide (HL.out.move hbrw k1 r1 l1); clear k1 r1)
          | (go_at_call 127; refine (HTm w1 (H0.out.move L1.out.kept L1.out.rd L1.out.pl)).out.mono ?_; rintro x w2 ⟨rfl, k2, e1, e2⟩; have K2 := hide (L1.out.kept.trans k2 (fun _ _ e => e)); clear k2))
        go_ret2
        exact .inr ⟨e, HRE.out, rfl, K2.out, e1, e2⟩
      have ht := iTk_lt (ib_le zs) h2
      rw [h2] at hTm
      have HTm := fun w1 s => hide ((hTm w1 s).mono fun _ _ => NOk.got rfl)
      clear hTm
      by_cases hov : many < all.length + (3 + t)
      · have HRE := hide (HR.out.trans (iLoop_err (iLen_over h1 (by decide) hnone rfl rfl h2 hov)))
        obtain ⟨tm, htm⟩ : ∃ tm, tm = 3 + t := ⟨_, rfl⟩
        rw [← htm] at HTm hov
        have hov' : (many : Int) - (all.length : Int) < (tm : Int) := by omega
        clear h1 h2 HR hnone hv16
        go_wp2_with (first
          | (go_at_call 125; refine HSy.out.mono ?_; rintro x w1 ⟨rfl, k1, r1, l1⟩; have L1 := hide (HL.out.move hbrw k1 r1 l1); clear k1 r1)
          | (go_at_call 127; refine (HTm w1 (H0.out.move L1.out.kept L1.out.rd L1.out.pl)).out.mono ?_; rintro x w2 ⟨rfl, k2, r2, l2⟩; have K2 := hide (L1.out.kept.trans k2 (fun _ _ e => e)); clear k2 r2))
        go_ret2
        exact .inr ⟨63, HRE.out, rfl, K2.out, by decide, by decide⟩
      · have hO := iLen_more (many := many) (k := 3) (L := (0 : Int)) h1 (by decide) hnone rfl rfl rfl h2 (by omega)
        have hgo := iGo_len first many (ib zs) (len * 8) p' all q2 _ hO
        obtain ⟨tm, htm⟩ : ∃ tm, tm = 3 + t := ⟨_, rfl⟩
        rw [← htm] at HTm hov hO
        have htmB : tm ≤ 200 := by omega
        have HRE : Hid (R = if (all ++ List.replicate tm (0 : Int)).length < many then iLoop (len * 8) (iLen first many (ib zs) (len * 8)) q2 (all ++ List.replicate tm (0 : Int)) else .ok (q2, all ++ List.replicate tm (0 : Int))) := hide (by
          have := HR.out.trans (iLoop_step hO hgo.1 hgo.2)
          simpa using this)
        have hql := hgo.2
        have hpq2 := hgo.1
        have hov' : ¬ (many : Int) - (all.length : Int) < (tm : Int) := by omega
        clear hO hgo h1 h2 HR hnone hv16 htm ht
        go_wp2_with (first
          | (go_at_call 125; refine HSy.out.mono ?_; rintro x w1 ⟨rfl, k1, r1, l1⟩; have L1 := hide (HL.out.move hbrw k1 r1 l1); clear k1 r1)
          | (go_at_call 127; refine (HTm w1 (H0.out.move L1.out.kept L1.out.rd L1.out.pl)).out.mono ?_; rintro x w2 ⟨rfl, k2, r2, l2⟩; have L2 := hide (L1.out.move hbrw k2 r2 l2); clear k2 r2))
        clear HTm HSy L1 HL HS
        obtain ⟨W0, rfl⟩ : ∃ W, W = wr := ⟨wr, rfl⟩
        obtain ⟨g1, rfl⟩ : ∃ g1, gk = g1 + 1 := ⟨gk - 1, by omega⟩
        go_loopg [8, 66] tm (fun g2 v8 v66 wx => ∃ (i : Nat) (_ : i + g2 = tm), v66 = .int .i64 (i : Int) ∧ Hid (LX br a len cap w wx q2 v8 (all ++ List.replicate i (0 : Int))))
        case atStart => exact ⟨0, by omega, rfl, al, ac, by simp, by simpa using L2.out⟩
        case round =>
          obtain ⟨i, hig, rfl, HX2⟩ := hrel
          obtain ⟨a8, c8, rfl, hLW⟩ := HX2.out
          have L3 := hide hLW
          clear hLW HX2 L2
          cases gk with
          | zero =>
            obtain rfl : i = tm := by omega
            go_wp2_with fail
            go_roundg (len * 8 - q2)
            case measure => omega
            case rel => exact ⟨q2, all ++ List.replicate i (0 : Int), by omega, by simp; omega, rfl, HRE, a8, c8, rfl, L3.out⟩
          | succ g3 =>
            have hit : (i : Int) < tm := by omega
            obtain ⟨F, hF⟩ : ∃ F, F = all ++ List.replicate i (0 : Int) := ⟨_, rfl⟩
            have HFS : Hid (all ++ List.replicate (i + 1) (0 : Int) = F ++ [(0 : Int)]) := by rw [hF, List.replicate_succ', List.append_assoc]; exact rfl
            have hFl : F.length ≤ 2000 := by rw [hF]; simp; omega
            rw [← hF] at L3 ⊢
            clear hF
            go_wp2_with (at_builtin; refine wpList_append_own _ rfl _ _ 97 rfl w.heap.size 3 i0 (.int .i64 0) 1 8 Tryz.underlying97 hi0 hz0 hz1 hz2 rfl (by decide) _ F.length (F.map (Value.int .i64)) rfl (World.ownsRow.alloc L3.out.owns _) ⟨wr.heap.size, 0, none⟩ 1 1 [.int .i64 (0 : Int)] rfl rfl (one_int wr _) (by intro u hu; simp at hu; subst hu; rfl) (by unfold maxLen; omega) (by omega) (by have := L3.out.kept.size; simp; omega) ?_; intro v' w4 hown' hgrow hnil; obtain ⟨a4, c4, rfl⟩ := own_form hown'; have L4 := hide (L3.out.push hbrw hown' hgrow); clear hown' hgrow hnil)
            go_roundg g3
            case measure => omega
            case rel =>
              refine ⟨i + 1, by omega, by go_num, ?_⟩
              rw [HFS.out]
              exact ⟨a4, c4, by simp, L4.out⟩
    · -- v = 18
      have hTm := fun w1 (s : SS B bs br a len cap zs m w1 q1 o oc fc out) => times_c s hl8 18 7 11 (by decide)
      rcases h2 : iTk (ib zs) (len * 8) q1 7 with e | ⟨q2, t⟩
      · rw [h2] at hTm
        have HTm := fun w1 s => hide ((hTm w1 s).mono fun _ _ => NOk.bad rfl)
        have HRE := hide (HR.out.trans (iLoop_err (iLen_bad h1 (by decide) hnone rfl h2)))
        clear hTm h1 h2 HR hnone hv16
        go_wp2_with (first
          | (go_at_call 125; refine HSy.out.mono ?_; rintro x w1 ⟨rfl, k1, r1, l1⟩; have L1 := hide (HL.out.move hbrw k1 r1 l1); clear k1 r1)
          | (go_at_call 127; refine (HTm w1 (H0.out.move L1.out.kept L1.out.rd L1.out.pl)).out.mono ?_; rintro x w2 ⟨rfl, k2, e1, e2⟩; have K2 := hide (L1.out.kept.trans k2 (fun _ _ e => e)); clear k2))
        go_ret2
        exact .inr ⟨e, HRE.out, rfl, K2.out, e1, e2⟩
      have ht := iTk_lt (ib_le zs) h2
      rw [h2] at hTm
      have HTm := fun w1 s => hide ((hTm w1 s).mono fun _ _ => NOk.got rfl)
      clear hTm
      by_cases hov : many < all.length + (11 + t)
      · have HRE := hide (HR.out.trans (iLoop_err (iLen_over h1 (by decide) hnone rfl rfl h2 hov)))
        obtain ⟨tm, htm⟩ : ∃ tm, tm = 11 + t := ⟨_, rfl⟩
        rw [← htm] at HTm hov
        have hov' : (many : Int) - (all.length : Int) < (tm : Int) := by omega
        clear h1 h2 HR hnone hv16
        go_wp2_with (first
          | (go_at_call 125; refine HSy.out.mono ?_; rintro x w1 ⟨rfl, k1, r1, l1⟩; have L1 := hide (HL.out.move hbrw k1 r1 l1); clear k1 r1)
          | (go_at_call 127; refine (HTm w1 (H0.out.move L1.out.kept L1.out.rd L1.out.pl)).out.mono ?_; rintro x w2 ⟨rfl, k2, r2, l2⟩; have K2 := hide (L1.out.kept.trans k2 (fun _ _ e => e)); clear k2 r2))
        go_ret2
        exact .inr ⟨63, HRE.out, rfl, K2.out, by decide, by decide⟩
      · have hO := iLen_more (many := many) (k := 11) (L := (0 : Int)) h1 (by decide) hnone rfl rfl rfl h2 (by omega)
        have hgo := iGo_len first many (ib zs) (len * 8) p' all q2 _ hO
        obtain ⟨tm, htm⟩ : ∃ tm, tm = 11 + t := ⟨_, rfl⟩
        rw [← htm] at HTm hov hO
        have htmB : tm ≤ 200 := by omega
        have HRE : Hid (R = if (all ++ List.replicate tm (0 : Int)).length < many then iLoop (len * 8) (iLen first many (ib zs) (len * 8)) q2 (all ++ List.replicate tm (0 : Int)) else .ok (q2, all ++ List.replicate tm (0 : Int))) := hide (by
          have := HR.out.trans (iLoop_step hO hgo.1 hgo.2)
          simpa using this)
        have hql := hgo.2
        have hpq2 := hgo.1
        have hov' : ¬ (many : Int) - (all.length : Int) < (tm : Int) := by omega
        clear hO hgo h1 h2 HR hnone hv16 htm ht
        go_wp2_with (first
          | (go_at_call 125; refine HSy.out.mono ?_; rintro x w1 ⟨rfl, k1, r1, l1⟩; have L1 := hide (HL.out.move hbrw k1 r1 l1); clear k1 r1)
          | (go_at_call 127; refine (HTm w1 (H0.out.move L1.out.kept L1.out.rd L1.out.pl)).out.mono ?_; rintro x w2 ⟨rfl, k2, r2, l2⟩; have L2 := hide (L1.out.move hbrw k2 r2 l2); clear k2 r2))
        clear HTm HSy L1 HL HS
        obtain ⟨W0, rfl⟩ : ∃ W, W = wr := ⟨wr, rfl⟩
        obtain ⟨g1, rfl⟩ : ∃ g1, gk = g1 + 1 := ⟨gk - 1, by omega⟩
        go_loopg [8, 66] tm (fun g2 v8 v66 wx => ∃ (i : Nat) (_ : i + g2 = tm), v66 = .int .i64 (i : Int) ∧ Hid (LX br a len cap w wx q2 v8 (all ++ List.replicate i (0 : Int))))
        case atStart => exact ⟨0, by omega, rfl, al, ac, by simp, by simpa using L2.out⟩
        case round =>
          obtain ⟨i, hig, rfl, HX2⟩ := hrel
          obtain ⟨a8, c8, rfl, hLW⟩ := HX2.out
          have L3 := hide hLW
          clear hLW HX2 L2
          cases gk with
          | zero =>
            obtain rfl : i = tm := by omega
            go_wp2_with fail
            go_roundg (len * 8 - q2)
            case measure => omega
            case rel => exact ⟨q2, all ++ List.replicate i (0 : Int), by omega, by simp; omega, rfl, HRE, a8, c8, rfl, L3.out⟩
          | succ g3 =>
            have hit : (i : Int) < tm := by omega
            obtain ⟨F, hF⟩ : ∃ F, F = all ++ List.replicate i (0 : Int) := ⟨_, rfl⟩
            have HFS : Hid (all ++ List.replicate (i + 1) (0 : Int) = F ++ [(0 : Int)]) := by rw [hF, List.replicate_succ', List.append_assoc]; exact rfl
            have hFl : F.length ≤ 2000 := by rw [hF]; simp; omega
            rw [← hF] at L3 ⊢
            clear hF
            go_wp2_with (at_builtin; refine wpList_append_own _ rfl _ _ 97 rfl w.heap.size 3 i0 (.int .i64 0) 1 8 Tryz.underlying97 hi0 hz0 hz1 hz2 rfl (by decide) _ F.length (F.map (Value.int .i64)) rfl (World.ownsRow.alloc L3.out.owns _) ⟨wr.heap.size, 0, none⟩ 1 1 [.int .i64 (0 : Int)] rfl rfl (one_int wr _) (by intro u hu; simp at hu; subst hu; rfl) (by unfold maxLen; omega) (by omega) (by have := L3.out.kept.size; simp; omega) ?_; intro v' w4 hown' hgrow hnil; obtain ⟨a4, c4, rfl⟩ := own_form hown'; have L4 := hide (L3.out.push hbrw hown' hgrow); clear hown' hgrow hnil)
            go_roundg g3
            case measure => omega
            case rel =>
              refine ⟨i + 1, by omega, by go_num, ?_⟩
              rw [HFS.out]
              exact ⟨a4, c4, by simp, L4.out⟩
end
end Go.Proofs.YteknifnadbmfiaaGreatDoor

/- The stream's dynamicBlock: contract. -/
namespace Go.Proofs.YteknifnadbmfiaaGreatDoor
set_option maxRecDepth 100000
open Go Go.RowKit

theorem ints_take {w : World} {base g ac : Nat} {all : List Int} (h : Owns w base (.slice (some ⟨g, 0, none⟩) all.length ac) all) (k : Nat) : Ints 0 w.heap.size w (some ⟨g, 0, none⟩) (all.take k) := by
  by_cases h0 : (all.take k).length = 0
  · exact .inl h0
  · have hpos : 0 < all.length := by rw [List.length_take] at h0; omega
    obtain ⟨g', c9, hv9, _, hlt9⟩ := World.ownsRow.form h hpos
    simp at hv9
    obtain ⟨rfl, rfl⟩ := hv9
    refine .inr ⟨g, 0, Nat.zero_le _, hlt9, hlt9, rfl, fun i hi => ?_⟩
    have hi2 : i < all.length ∧ i < k := by simp at hi; omega
    rw [Nat.zero_add, World.ownsRow.cellAt h i (by omega)]
    simp [ln, List.getD, hi2]
theorem ints_drop {w : World} {base g ac : Nat} {all : List Int} (h : Owns w base (.slice (some ⟨g, 0, none⟩) all.length ac) all) (k : Nat) : Ints 0 w.heap.size w (some ⟨g, k, none⟩) (all.drop k) := by
  by_cases h0 : (all.drop k).length = 0
  · exact .inl h0
  · have hpos : 0 < all.length := by simp at h0; omega
    obtain ⟨g', c9, hv9, _, hlt9⟩ := World.ownsRow.form h hpos
    simp at hv9
    obtain ⟨rfl, rfl⟩ := hv9
    refine .inr ⟨g, k, Nat.zero_le _, hlt9, hlt9, rfl, fun i hi => ?_⟩
    have hi2 : k + i < all.length := by simp at hi; omega
    rw [World.ownsRow.cellAt h (k + i) (by omega)]
    simp [ln, List.getD, hi2]
theorem ints_if {w : World} {g k c : Nat} {L : List Int} (h : Ints 0 w.heap.size w (some ⟨g, k, none⟩) L) (hk : k < c) : Ints 0 w.heap.size w.drew (if c = k then some ⟨g, 0, none⟩ else some ⟨g, k, none⟩) L := by
  rw [if_neg (by omega)]; exact h
theorem mv_drew {bs br : Nat} {ov : Value} {w w3 w4 : World} (k : Kept (fun b => b = br) w w3) (b : Below w3.drew.heap.size w3.drew w4) : Kept (Mv bs br ov) w w4 :=
  Kept.trans (b := w3.drew) (Kept.drew (Mv.rd k)) (Kept.of_below b) (fun i hi e => by have := k.size; have e' : w3.heap.size ≤ i := e; omega)
theorem own_cap {w : World} {base g ac : Nat} {all : List Int} (h : Owns w base (.slice (some ⟨g, 0, none⟩) all.length ac) all) : all.length ≤ ac := by
  rcases h.2 with ⟨h', _⟩ | ⟨g', cap', cur, h', _, hg, hc, _⟩
  · simp at h'
  · simp at h'; omega

section
variable {B bs br : Nat} {a : Option Addr} {len cap : Nat} {zs : List Int} {m : Nat} {w w' : World} {p : Nat} {o : Option Addr} {oc : Nat} {fc : Value} {out : List Int}
set_option maxHeartbeats 8000000 in
theorem dynamic_c (h : SS B bs br a len cap zs m w p o oc fc out) (hf : FcAt w bs br (.slice o out.length oc) fc) (hT : Tab w) (hB : 2 < B) (hl8 : len * 8 ≤ 9223372036854775000) (hm : m ≤ 10000000) (ho : out.length ≤ m) :
    Calls Tryz.prog 79 #[.pointer (some ⟨bs, 0, none⟩)] w (BOk B bs br a len cap zs m w (.slice o out.length oc) (iThen (iHdr (ib zs) (len * 8) p) fun q sd => iDat sd.1 sd.2 (ib zs) (len * 8) m q out)) := by
  obtain ⟨R, hR⟩ : ∃ R, R = iThen (iHdr (ib zs) (len * 8) p) fun q sd => iDat sd.1 sd.2 (ib zs) (len * 8) m q out := ⟨_, rfl⟩
  rw [← hR]
  have HRR := hide hR
  have H0 := hide h
  have HF := hide hf
  have HT := hide hT
  have hC := counts_c h hl8
  have hbrw := lt_of_block h.rd
  have hbr0 : br ≠ 1 ∧ br ≠ 2 := by have := h.inb; omega
  have hH := iHdr_eq (ib zs) (len * 8) p
  clear h hf hT hR
  rcases h1 : iCnt (ib zs) (len * 8) p with e | ⟨q1, x, y, z⟩
  · rw [h1] at hC
    have HC := hide (hC.mono fun _ _ => COk.bad rfl)
    rw [iThen_of_err h1] at hH
    have HR := hide (HRR.out.trans (iThen_of_err hH))
    clear hC h1 hH HRR
    go_enter Tryz.func79, Tryz.ntmps79
    go_wp2_with (go_at_call 106; refine HC.out.mono ?_; rintro x w1 ⟨rfl, k1, e1, e2⟩; have K1 := hide k1; clear k1)
    go_ret
    exact DBad.block HR.out ⟨rfl, Mv.rd K1.out, e1, e2⟩
  obtain ⟨hx, hy, hz⟩ := iCnt_got (ib_le zs) h1
  rw [h1] at hC
  have HC := hide (hC.mono fun _ _ => COk.got rfl)
  rw [iThen_of_ok h1] at hH
  simp only at hx hy hz hH HC
  have hI := fun w1 (s : SS B bs br a len cap zs m w1 q1 o oc fc out) (t : Tab w1) => inner_c s t hB hl8 z ((z + 4 : Nat) : Int) (by omega) hz
  clear hC h1
  rcases h2 : iInn (ib zs) (len * 8) q1 z with e | ⟨q2, first⟩
  · rw [h2] at hI
    have HI := fun w1 s t => hide ((hI w1 s t).mono fun _ _ => IOk.bad rfl)
    rw [iThen_of_err h2] at hH
    have HR := hide (HRR.out.trans (iThen_of_err hH))
    clear hI h2 hH HRR
    go_enter Tryz.func79, Tryz.ntmps79
    go_wp2_with (first
      | (go_at_call 106; refine HC.out.mono ?_; rintro x w1 ⟨rfl, k1, r1, l1⟩; have K1 := hide k1; have S1 := hide (H0.out.move k1 r1 l1); clear k1 r1)
      | (go_at_call 107; refine (HI w1 S1.out (HT.out.kept K1.out ⟨fun e => hbr0.1 e.symm, fun e => hbr0.2 e.symm⟩)).out.mono ?_; rintro x w2 ⟨rfl, k2, e1, e2⟩; have K2 := hide (K1.out.trans k2 (fun _ _ e => e)); clear k2))
    go_ret
    exact DBad.block HR.out ⟨rfl, Mv.rd K2.out, e1, e2⟩
  have hfirst : check first false = 0 ∧ first.length = 19 := by
    unfold iInn at h2
    obtain ⟨q', f, h3, h4⟩ := iThen_ok h2
    have := iRd3_fit (ib_le zs) (first := List.replicate 19 0) (fun y hy => by rw [List.eq_of_mem_replicate hy]; decide) h3
    split at h4
    · cases h4
    · rename_i hck
      cases h4
      exact ⟨Decidable.not_not.1 hck, by rw [this.1]; simp⟩
  obtain ⟨hck, h19⟩ := hfirst
  have HG := hide (check_good hck)
  rw [h2] at hI
  have HI := fun w1 s t => hide ((hI w1 s t).mono fun _ _ => IOk.got rfl)
  rw [iThen_of_ok h2] at hH
  clear hI h2 hck
  obtain ⟨many, hmany⟩ : ∃ many, many = x + 258 + y := ⟨_, rfl⟩
  rw [← hmany] at hH
  obtain ⟨sy, hsy⟩ : ∃ sy, sy = x + 257 := ⟨_, rfl⟩
  obtain ⟨sb, hsb⟩ : ∃ sb, sb = y + 1 := ⟨_, rfl⟩
  obtain ⟨sn, hsn⟩ : ∃ sn, sn = z + 4 := ⟨_, rfl⟩
  unfold CGot at HC
  rw [← hsy, ← hsb, ← hsn] at HC
  rw [← hsn] at HI
  rw [← hsy] at hH
  have hmany2 : many = sy + sb := by omega
  have hsy1 : sy ≤ 286 := by omega
  have hsb1 : sb ≤ 30 := by omega
  have hsy0 : 257 ≤ sy := by omega
  have hsb0 : 1 ≤ sb := by omega
  clear hsy hsb hsn hx hy hz hmany
  have hL := fun w2 (s : SS B bs br a len cap zs m w2 q2 o oc fc out) lo hi bc gl gc vo N (hc : CodeAt lo hi w2 bc gl gc vo N first) hb => lengths_c s hl8 hc HG.out h19 hb many ((sy : Int) + (sb : Int)) (by omega) (by omega) (by omega)
  rcases h3 : iAll first many (ib zs) (len * 8) q2 with e | ⟨q3, all⟩
  · rw [h3] at hL
    have HL := fun w2 s lo hi bc gl gc vo N hc hb => hide ((hL w2 s lo hi bc gl gc vo N hc hb).mono fun _ _ => LOk.bad rfl)
    rw [iThen_of_err h3] at hH
    have HR := hide (HRR.out.trans (iThen_of_err hH))
    clear hL h3 hH HRR hmany2 h19
    go_enter Tryz.func79, Tryz.ntmps79
    go_wp2_with (first
      | (go_at_call 106; refine HC.out.mono ?_; rintro x w1 ⟨rfl, k1, r1, l1⟩; have K1 := hide k1; have S1 := hide (H0.out.move k1 r1 l1); clear k1 r1)
      | (go_at_call 107; refine (HI w1 S1.out (HT.out.kept K1.out ⟨fun e => hbr0.1 e.symm, fun e => hbr0.2 e.symm⟩)).out.mono ?_; rintro x w2 ⟨bc, rfl, k2, r2, l2, gl, gc, vo, N, c2⟩; have C2 := hide c2; have S2 := hide (S1.out.move k2 r2 l2); have K2 := hide (K1.out.trans k2 (fun _ _ e => e)); clear k2 r2 c2)
      | (go_at_call 108; refine (HL w2 S2.out _ _ bc gl gc vo N C2.out (.inl (lt_of_block S1.out.rd))).out.mono ?_; rintro x w3 ⟨rfl, k3, e1, e2⟩; have K3 := hide (K2.out.trans k3 (fun _ _ e => e)); clear k3))
    go_ret
    exact DBad.block HR.out ⟨rfl, Mv.rd K3.out, e1, e2⟩
  have hall : all.length = many := by
    have := iLens_got (first := first) (b := ib zs) (T := len * 8) (p := q2) (by omega : 0 < many) h3
    exact this.1
  rw [h3] at hL
  have HL := fun w2 s lo hi bc gl gc vo N hc hb => hide ((hL w2 s lo hi bc gl gc vo N hc hb).mono fun _ _ => LOk.got rfl)
  rw [iThen_of_ok h3] at hH
  clear hL h3 h19
  have hc256 : ∀ (wz : World) g ac base, Owns wz base (.slice (some ⟨g, 0, none⟩) all.length ac) all → wz.cell? ⟨g, 256, none⟩ = some (.int .i64 (ln all 256)) := fun wz g ac base hw => by
    rw [World.ownsRow.cellAt hw 256 (by omega)]
    simp [ln, List.getD, show 256 < all.length by omega]
  have HC256 := hide hc256
  have hsome : ∀ (wz : World) al ac base, Owns wz base (.slice al all.length ac) all → ∃ g, al = some ⟨g, 0, none⟩ := fun wz al ac base hw => by
    obtain ⟨g', c9, hv9, _, hlt9⟩ := World.ownsRow.form hw (by omega)
    simp at hv9
    exact ⟨g', hv9.1⟩
  have HSM := hide hsome
  have hal : (256 : Int) < (all.length : Int) := by omega
  by_cases h256 : ln all 256 = 0
  · rw [if_pos (.inl h256)] at hH
    have HR := hide (HRR.out.trans (iThen_of_err hH))
    rw [h256] at HC256
    clear hH HRR hmany2 hc256 hsome hall
    go_enter Tryz.func79, Tryz.ntmps79
    go_wp2_with (first
      | (go_at_call 106; refine HC.out.mono ?_; rintro x w1 ⟨rfl, k1, r1, l1⟩; have K1 := hide k1; have S1 := hide (H0.out.move k1 r1 l1); clear k1 r1)
      | (go_at_call 107; refine (HI w1 S1.out (HT.out.kept K1.out ⟨fun e => hbr0.1 e.symm, fun e => hbr0.2 e.symm⟩)).out.mono ?_; rintro x w2 ⟨bc, rfl, k2, r2, l2, gl, gc, vo, N, c2⟩; have C2 := hide c2; have S2 := hide (S1.out.move k2 r2 l2); have K2 := hide (K1.out.trans k2 (fun _ _ e => e)); clear k2 r2 c2)
      | (go_at_call 108; refine (HL w2 S2.out _ _ bc gl gc vo N C2.out (.inl (lt_of_block S1.out.rd))).out.mono ?_; rintro x w3 ⟨al, ac, rfl, l3⟩; obtain ⟨g, rfl⟩ := HSM.out _ _ _ _ l3.owns; have K3 := hide (K2.out.trans l3.kept (fun _ _ e => e)); have c256 := HC256.out _ _ _ _ l3.owns; clear l3))
    go_ret
    exact DBad.block HR.out ⟨rfl, Mv.rd K3.out, by decide, by decide⟩
  obtain ⟨S, hS⟩ : ∃ S, S = all.take (sy) := ⟨_, rfl⟩
  obtain ⟨D, hD⟩ : ∃ D, D = all.drop (sy) := ⟨_, rfl⟩
  have hSl : S.length = sy := by rw [hS]; simp; omega
  have hDl : D.length = all.length - (sy) := by rw [hD]; simp
  rw [← hS, ← hD] at hH
  have hST : ∀ (wz : World) g ac base, Owns wz base (.slice (some ⟨g, 0, none⟩) all.length ac) all → Ints 0 wz.heap.size wz (some ⟨g, 0, none⟩) S ∧ Ints 0 wz.heap.size wz (some ⟨g, sy, none⟩) D ∧ all.length ≤ ac := fun wz g ac base hw => ⟨by rw [hS]; exact ints_take hw _, by rw [hD]; exact ints_drop hw _, own_cap hw⟩
  have HST := hide hST
  clear hST hc256 hsome hS hD
  by_cases hck : ¬ check S true = 0 ∨ ¬ check D true = 0
  · rw [if_pos (.inr hck)] at hH
    have HR := hide (HRR.out.trans (iThen_of_err hH))
    have hM := fun B a a' cap cap' w3 => makeCodes_no B a a' cap cap' S D w3 hck
    rw [hSl, hDl] at hM
    have HM := fun B a a' cap cap' w3 h1 h2 => hide (hM B a a' cap cap' w3 h1 h2)
    have hxa : (sy : Int) ≤ (all.length : Int) := by omega
    have hxa0 : (0 : Int) ≤ (sy : Int) := by omega
    have hxL : sy < all.length := by omega
    clear hH HRR hck hM hmany2 hall
    go_enter Tryz.func79, Tryz.ntmps79
    go_wp2_with (first
      | (go_at_call 106; refine HC.out.mono ?_; rintro x w1 ⟨rfl, k1, r1, l1⟩; have K1 := hide k1; have S1 := hide (H0.out.move k1 r1 l1); clear k1 r1)
      | (go_at_call 107; refine (HI w1 S1.out (HT.out.kept K1.out ⟨fun e => hbr0.1 e.symm, fun e => hbr0.2 e.symm⟩)).out.mono ?_; rintro x w2 ⟨bc, rfl, k2, r2, l2, gl, gc, vo, N, c2⟩; have C2 := hide c2; have S2 := hide (S1.out.move k2 r2 l2); have K2 := hide (K1.out.trans k2 (fun _ _ e => e)); clear k2 r2 c2)
      | (go_at_call 108; refine (HL w2 S2.out _ _ bc gl gc vo N C2.out (.inl (lt_of_block S1.out.rd))).out.mono ?_; rintro x w3 ⟨al, ac, rfl, l3⟩; obtain ⟨g, rfl⟩ := HSM.out _ _ _ _ l3.owns; have K3 := hide (K2.out.trans l3.kept (fun _ _ e => e)); have c256 := HC256.out _ _ _ _ l3.owns; obtain ⟨i3, j3, hac⟩ := HST.out _ _ _ _ l3.owns; have I3 := hide i3; have J3 := hide (ints_if j3 (Nat.lt_of_lt_of_le hxL hac)); have hacL : (sy : Int) < (ac : Int) := (by omega); have hacI : (sy : Int) ≤ (ac : Int) := (by omega); have hacA : (all.length : Int) ≤ (ac : Int) := (by omega); clear l3 i3 j3 hac))
    go_region_held3 (fun _ => True) (trivial) (first
      | (go_at_call 102; refine (HM w3.heap.size (some ⟨g, 0, none⟩) (if ac = sy then some ⟨g, 0, none⟩ else some ⟨g, sy, none⟩) ac (ac - sy) w3.drew I3.out J3.out).out.mono ?_; rintro x w4 ⟨rfl, b4⟩; have B4 := hide b4; clear b4))
    go_wp2_with fail
    go_ret
    exact DBad.block HR.out ⟨rfl, mv_drew K3.out B4.out, by decide, by decide⟩
  · have hc1 : check S true = 0 := Decidable.not_not.1 fun e => hck (.inl e)
    have hc2 : check D true = 0 := Decidable.not_not.1 fun e => hck (.inr e)
    rw [if_neg (by rintro (e | e); exact h256 e; exact hck e)] at hH
    have HR := hide (HRR.out.trans (iThen_of_ok hH))
    have hM := fun B a a' cap cap' w3 => makeCodes_yes B a a' cap cap' S D w3 hc1 hc2
    have HG1 := hide (check_good hc1)
    have HG2 := hide (check_good hc2)
    have h31 : S.length ≤ 320 := by omega
    have h32 : D.length ≤ 320 := by omega
    have H31 := hide h31
    have H32 := hide h32
    rw [hSl, hDl] at hM
    have HM := fun B a a' cap cap' w3 h1 h2 => hide (hM B a a' cap cap' w3 h1 h2)
    have hxa : (sy : Int) ≤ (all.length : Int) := by omega
    have hxa0 : (0 : Int) ≤ (sy : Int) := by omega
    have hxL : sy < all.length := by omega
    clear hH HRR hck hM hmany2 hall hc1 hc2 hSl hDl h31 h32
    go_enter Tryz.func79, Tryz.ntmps79
    go_wp2_with (first
      | (go_at_call 106; refine HC.out.mono ?_; rintro x w1 ⟨rfl, k1, r1, l1⟩; have K1 := hide k1; have S1 := hide (H0.out.move k1 r1 l1); clear k1 r1)
      | (go_at_call 107; refine (HI w1 S1.out (HT.out.kept K1.out ⟨fun e => hbr0.1 e.symm, fun e => hbr0.2 e.symm⟩)).out.mono ?_; rintro x w2 ⟨bc, rfl, k2, r2, l2, gl, gc, vo, N, c2⟩; have C2 := hide c2; have S2 := hide (S1.out.move k2 r2 l2); have K2 := hide (K1.out.trans k2 (fun _ _ e => e)); clear k2 r2 c2)
      | (go_at_call 108; refine (HL w2 S2.out _ _ bc gl gc vo N C2.out (.inl (lt_of_block S1.out.rd))).out.mono ?_; rintro x w3 ⟨al, ac, rfl, l3⟩; obtain ⟨g, rfl⟩ := HSM.out _ _ _ _ l3.owns; have K3 := hide (K2.out.trans l3.kept (fun _ _ e => e)); have c256 := HC256.out _ _ _ _ l3.owns; have S3 := hide (S2.out.move l3.kept l3.rd l3.pl); obtain ⟨i3, j3, hac⟩ := HST.out _ _ _ _ l3.owns; have I3 := hide i3; have J3 := hide (ints_if j3 (Nat.lt_of_lt_of_le hxL hac)); have hacL : (sy : Int) < (ac : Int) := (by omega); have hacI : (sy : Int) ≤ (ac : Int) := (by omega); have hacA : (all.length : Int) ≤ (ac : Int) := (by omega); clear l3 i3 j3 hac))
    go_region_held3 (fun _ => True) (trivial) (first
      | (go_at_call 102; refine (HM w3.heap.size (some ⟨g, 0, none⟩) (if ac = sy then some ⟨g, 0, none⟩ else some ⟨g, sy, none⟩) ac (ac - sy) w3.drew I3.out J3.out).out.mono ?_; rintro x w4 ⟨bk, rfl, cx, b4⟩; have CX := hide cx; have B4 := hide b4; clear cx b4))
    have S3' : Hid (SS B bs br a len cap zs m w3.drew q3 o oc fc out) := S3.out.drew 1
    have S4 := hide (S3'.out.stay B4.out)
    have D9 := CX.out
    obtain ⟨bc1, gl1, gc1, vo1, N1, bc2, gl2, gc2, vo2, N2, D9⟩ := D9
    have HD := hide (data_c S4.out hl8 hm ho D9 (Aw.new S3'.out (Nat.le_refl _)) HG1.out H31.out HG2.out H32.out)
    have K4 : Hid (Kept (Mv bs br (.slice o out.length oc)) w w4) := mv_drew K3.out B4.out
    clear D9 CX
    go_wp2_with (go_at_call 105; refine HD.out.mono ?_; intro x w5 h5; obtain ⟨ev, rfl⟩ := h5.form; have H5 := hide h5; clear h5)
    go_ret
    have hb := (H5.out.block (HF.out.on K4.out (fun g hg _ => hg))).after K4.out (fun g hg _ => hg)
    rw [HR.out]
    exact hb
end
end Go.Proofs.YteknifnadbmfiaaGreatDoor

/- The stream's block, and Inflate: contracts. -/
namespace Go.Proofs.YteknifnadbmfiaaGreatDoor
set_option maxRecDepth 100000
open Go Go.RowKit

theorem BOk.form {B bs br : Nat} {a : Option Addr} {len cap : Nat} {zs : List Int} {m : Nat} {w w' : World} {ov : Value} {r : Except Int (Nat × List Int)} {x : Ending} (h : BOk B bs br a len cap zs m w ov r x w') : ∃ ev : Int, x = .returned (.int .i64 ev) := by
  obtain ⟨_, ⟨_, _, _, _, _, _, rfl, _⟩ | ⟨e, _, _, _, rfl⟩⟩ := h
  · exact ⟨0, rfl⟩
  · exact ⟨e, rfl⟩

/-- Where a stream stands between blocks. -/
structure BS (B bs br : Nat) (a : Option Addr) (len cap : Nat) (zs : List Int) (m : Nat) (w : World) (p : Nat) (out : List Int) (o : Option Addr) (oc : Nat) (fc : Value) : Prop where
  ss : SS B bs br a len cap zs m w p o oc fc out
  fcs : FcAt w bs br (.slice o out.length oc) fc
  tab : Tab w
/-- What block answers. -/
def KGot (B bs br : Nat) (a : Option Addr) (len cap : Nat) (zs : List Int) (m : Nat) (w : World) (q : Nat) (more : Bool) (out : List Int) (x : Ending) (w' : World) : Prop :=
  x = .returned (.tuple #[.bool (!more), .int .i64 0]) ∧ Below B w w' ∧ ∃ o oc fc, BS B bs br a len cap zs m w' q out o oc fc
def KBad (B : Nat) (w : World) (e : Int) (x : Ending) (w' : World) : Prop := (∃ b : Bool, x = .returned (.tuple #[.bool b, .int .i64 e])) ∧ Below B w w' ∧ 60 ≤ e ∧ e ≤ 65
def KOk (B bs br : Nat) (a : Option Addr) (len cap : Nat) (zs : List Int) (m : Nat) (w : World) (r : Except Int (Nat × (Bool × List Int))) (x : Ending) (w' : World) : Prop := (∃ q c o, r = .ok (q, (c, o)) ∧ KGot B bs br a len cap zs m w q c o x w') ∨ (∃ e, r = .error e ∧ KBad B w e x w')
section
variable {B bs br : Nat} {a : Option Addr} {len cap : Nat} {zs : List Int} {m : Nat} {w w' : World} {p : Nat} {o : Option Addr} {oc : Nat} {fc : Value} {out : List Int}
theorem KOk.got {r : Except Int (Nat × (Bool × List Int))} {x : Ending} {q : Nat} {c : Bool} {f : List Int} (hr : r = .ok (q, (c, f))) (h : KOk B bs br a len cap zs m w r x w') : KGot B bs br a len cap zs m w q c f x w' := by
  subst hr
  obtain ⟨q', c', o', e, h⟩ | ⟨e, h', _⟩ := h
  · cases e; exact h
  · cases h'
theorem KOk.bad {r : Except Int (Nat × (Bool × List Int))} {x : Ending} {e : Int} (hr : r = .error e) (h : KOk B bs br a len cap zs m w r x w') : KBad B w e x w' := by
  subst hr
  obtain ⟨q', c', o', e, h⟩ | ⟨e, h', h⟩ := h
  · cases e
  · cases h'; exact h
/-- Nothing ahead of B is written. -/
theorem SS.low (h : SS B bs br a len cap zs m w p o oc fc out) (k : Kept (Mv bs br (.slice o out.length oc)) w w') : Below B w w' := by
  have hb := lt_of_block h.s0
  have hi := h.inb
  refine k.below (by omega) fun i hi' hM => ?_
  rcases hM with e | e | e
  · omega
  · omega
  · have := (ownsRow_lt h.owns e).1; omega
theorem BS.rd (h : BS B bs br a len cap zs m w p out o oc fc) (hB : 2 < B) (k : Kept (fun b => b = br) w w') {q : Nat} (hr : w'.heap[br]? = some (.cells (rA a len cap q) 148 (0, 0))) (hq : q ≤ len * 8) : BS B bs br a len cap zs m w' q out o oc fc :=
  ⟨h.ss.move k hr hq, h.fcs.on (Mv.rd k) (fun _ hg _ => hg), h.tab.kept k (by have := h.ss.inb; omega)⟩
theorem BS.kept (h : BS B bs br a len cap zs m w p out o oc fc) (hB : 2 < B) (k : Kept (Mv bs br (.slice o out.length oc)) w w') : Below B w w' ∧ Tab w' := ⟨h.ss.low k, h.tab.below (h.ss.low k) hB⟩

/-- What a kind of block asks for, whichever it is. -/
theorem kind_walk (hS : BS B bs br a len cap zs m w p out o oc fc) (hB : 2 < B) {w2 : World} {q2 l : Nat} (hS2 : BS B bs br a len cap zs m w2 q2 out o oc fc) (hk : Kept (fun b => b = br) w w2) (hl : l ≤ 1) {r : Except Int (Nat × List Int)} {ev : Int} {w3 : World} (h3 : BOk B bs br a len cap zs m w2 (.slice o out.length oc) r (.returned (.int .i64 ev)) w3) :
    KOk B bs br a len cap zs m w (iThen r fun q o => .ok (q, (decide (l = 0), o))) (.returned (.tuple #[.bool (decide ((l : Int) = 1)), .int .i64 ev])) w3 := by
  have hb1 : Below B w w2 := hS.ss.low (Mv.rd hk)
  obtain ⟨k, ⟨q', out', o', oc', fc', e, hx, h1, h2, h4⟩ | ⟨e, e1, e2, e', hx⟩⟩ := h3
  · obtain ⟨hb, ht⟩ := hS2.kept hB k
    cases hx
    subst e
    refine .inl ⟨q', decide (l = 0), out', rfl, ?_, hb1.trans hb, o', oc', fc', h1, h2, ht⟩
    have : decide ((l : Int) = 1) = !decide (l = 0) := by
      rcases (show l = 0 ∨ l = 1 by omega) with rfl | rfl <;> rfl
    rw [this]
  · obtain ⟨hb, ht⟩ := hS2.kept hB k
    cases hx
    subst e'
    exact .inr ⟨ev, rfl, ⟨_, rfl⟩, hb1.trans hb, e1, e2⟩

set_option maxHeartbeats 4000000 in
theorem block_c (h : BS B bs br a len cap zs m w p out o oc fc) (hB : 2 < B) (hl : len ≤ 140737488351232) (hcap : len ≤ cap) (hm : m ≤ 10000000) (ho : out.length ≤ m) :
    Calls Tryz.prog 59 #[.pointer (some ⟨bs, 0, none⟩)] w (KOk B bs br a len cap zs m w (iBlk (ib zs) (len * 8) m p out)) := by
  have hl8 : len * 8 ≤ 9223372036854775000 := by omega
  obtain ⟨R, hR⟩ : ∃ R, R = iBlk (ib zs) (len * 8) m p out := ⟨_, rfl⟩
  rw [← hR]
  have H0 := hide h
  have hA := number_c h.ss hl8 1 1 rfl (by decide)
  have hN := fun w1 q (s : SS B bs br a len cap zs m w1 q o oc fc out) => number_c s hl8 2 2 rfl (by decide)
  clear h
  unfold iBlk at hR
  rcases h1 : iTk (ib zs) (len * 8) p 1 with e | ⟨q1, l⟩
  · rw [h1] at hA
    have HA := hide (hA.mono fun _ _ => NOk.bad rfl)
    rw [iThen_of_err h1] at hR
    have HR := hide hR
    clear hA hN hR h1
    go_enter Tryz.func59, Tryz.ntmps59
    go_wp2_with (go_at_call 76; refine HA.out.mono ?_; rintro x w1 ⟨rfl, k1, e1, e2⟩; have K1 := hide k1; clear k1)
    go_ret2
    exact .inr ⟨e, HR.out, ⟨false, rfl⟩, H0.out.ss.low (Mv.rd K1.out), e1, e2⟩
  have hl1 := iTk_lt (ib_le zs) h1
  rw [h1] at hA
  have HA := hide (hA.mono fun _ _ => NOk.got rfl)
  rw [iThen_of_ok h1] at hR
  have hN1 := fun w1 s => hN w1 q1 s
  clear hA hN h1
  rcases h2 : iTk (ib zs) (len * 8) q1 2 with e | ⟨q2, kind⟩
  · rw [h2] at hN1
    have HN := fun w1 s => hide ((hN1 w1 s).mono fun _ _ => NOk.bad rfl)
    rw [iThen_of_err h2] at hR
    have HR := hide hR
    clear hN1 hR h2
    go_enter Tryz.func59, Tryz.ntmps59
    go_wp2_with (first
      | (go_at_call 76; refine HA.out.mono ?_; rintro x w1 ⟨rfl, k1, r1, l1⟩; have K1 := hide k1; have S1 := hide (H0.out.rd hB k1 r1 l1); clear k1 r1 HA)
      | (go_at_call 76; refine (HN w1 S1.out.ss).out.mono ?_; rintro x w2 ⟨rfl, k2, e1, e2⟩; have K2 := hide (K1.out.trans k2 (fun _ _ e => e)); clear k2))
    go_ret2
    exact .inr ⟨e, HR.out, ⟨false, rfl⟩, H0.out.ss.low (Mv.rd K2.out), e1, e2⟩
  have hk4 := iTk_lt (ib_le zs) h2
  rw [h2] at hN1
  have HN := fun w1 s => hide ((hN1 w1 s).mono fun _ _ => NOk.got rfl)
  rw [iThen_of_ok h2] at hR
  have HR := hide hR
  have hl1' : l ≤ 1 := by omega
  unfold iKind at HR
  clear hN1 hR h2
  rcases (show kind = 0 ∨ kind = 1 ∨ kind = 2 ∨ kind = 3 by omega) with rfl | rfl | rfl | rfl
  · rw [if_pos rfl] at HR
    go_enter Tryz.func59, Tryz.ntmps59
    go_wp2_with (first
      | (go_at_call 76; refine HA.out.mono ?_; rintro x w1 ⟨rfl, k1, r1, l1⟩; have K1 := hide k1; have S1 := hide (H0.out.rd hB k1 r1 l1); clear k1 r1 HA)
      | (go_at_call 76; refine (HN w1 S1.out.ss).out.mono ?_; rintro x w2 ⟨rfl, k2, r2, l2⟩; have K2 := hide (K1.out.trans k2 (fun _ _ e => e)); have S2 := hide (S1.out.rd hB k2 r2 l2); clear k2 r2 HN)
      | (go_at_call 77; refine (stored_c S2.out.ss hl hcap hm ho).mono ?_; intro x w3 h3; obtain ⟨ev, rfl⟩ := h3.form; have H3 := hide (h3.block S2.out.fcs); clear h3))
    go_ret2
    rw [HR.out]
    exact kind_walk H0.out hB S2.out K2.out hl1' H3.out
  · rw [if_neg (by decide), if_pos rfl] at HR
    go_enter Tryz.func59, Tryz.ntmps59
    go_wp2_with (first
      | (go_at_call 76; refine HA.out.mono ?_; rintro x w1 ⟨rfl, k1, r1, l1⟩; have K1 := hide k1; have S1 := hide (H0.out.rd hB k1 r1 l1); clear k1 r1 HA)
      | (go_at_call 76; refine (HN w1 S1.out.ss).out.mono ?_; rintro x w2 ⟨rfl, k2, r2, l2⟩; have K2 := hide (K1.out.trans k2 (fun _ _ e => e)); have S2 := hide (S1.out.rd hB k2 r2 l2); clear k2 r2 HN)
      | (go_at_call 78; refine (fixed_c S2.out.ss S2.out.fcs hl8 hm ho).mono ?_; intro x w3 h3; obtain ⟨ev, rfl⟩ := h3.form; have H3 := hide h3; clear h3))
    go_ret2
    rw [HR.out]
    exact kind_walk H0.out hB S2.out K2.out hl1' H3.out
  · rw [if_neg (by decide), if_neg (by decide), if_pos rfl] at HR
    go_enter Tryz.func59, Tryz.ntmps59
    go_wp2_with (first
      | (go_at_call 76; refine HA.out.mono ?_; rintro x w1 ⟨rfl, k1, r1, l1⟩; have K1 := hide k1; have S1 := hide (H0.out.rd hB k1 r1 l1); clear k1 r1 HA)
      | (go_at_call 76; refine (HN w1 S1.out.ss).out.mono ?_; rintro x w2 ⟨rfl, k2, r2, l2⟩; have K2 := hide (K1.out.trans k2 (fun _ _ e => e)); have S2 := hide (S1.out.rd hB k2 r2 l2); clear k2 r2 HN)
      | (go_at_call 79; refine (dynamic_c S2.out.ss S2.out.fcs S2.out.tab hB hl8 hm ho).mono ?_; intro x w3 h3; obtain ⟨ev, rfl⟩ := h3.form; have H3 := hide h3; clear h3))
    go_ret2
    rw [HR.out]
    exact kind_walk H0.out hB S2.out K2.out hl1' H3.out
  · rw [if_neg (by decide), if_neg (by decide), if_neg (by decide)] at HR
    go_enter Tryz.func59, Tryz.ntmps59
    go_wp2_with (first
      | (go_at_call 76; refine HA.out.mono ?_; rintro x w1 ⟨rfl, k1, r1, l1⟩; have K1 := hide k1; have S1 := hide (H0.out.rd hB k1 r1 l1); clear k1 r1 HA)
      | (go_at_call 76; refine (HN w1 S1.out.ss).out.mono ?_; rintro x w2 ⟨rfl, k2, r2, l2⟩; have K2 := hide (K1.out.trans k2 (fun _ _ e => e)); clear k2 r2 HN))
    go_ret2
    exact .inr ⟨61, HR.out, ⟨_, rfl⟩, H0.out.ss.low (Mv.rd K2.out), by decide, by decide⟩
end
end Go.Proofs.YteknifnadbmfiaaGreatDoor

/- Inflate: contract. -/
namespace Go.Proofs.YteknifnadbmfiaaGreatDoor
set_option maxRecDepth 100000
open Go Go.RowKit

/-- What Inflate answers, in memory. -/
def InfOk (w : World) (r : List Int × Nat × Int) (x : Ending) (w' : World) : Prop := ∃ o oc, x = .returned (.tuple #[.slice o r.1.length oc, .int .i64 (r.2.1 : Int), .int .i64 r.2.2]) ∧ OwnsB w' w.heap.size (.slice o r.1.length oc) r.1 ∧ Below w.heap.size w w'
/-- A stream, wherever what it told lies. -/
def BX (B bs br : Nat) (a : Option Addr) (len cap : Nat) (zs : List Int) (m : Nat) (w : World) (p : Nat) (out : List Int) : Prop := ∃ o oc fc, BS B bs br a len cap zs m w p out o oc fc
theorem Text.up {B B' : Nat} {w : World} {a : Option Addr} {len : Nat} {zs : List Int} (h : Text B w a len zs) (hB : B ≤ B') : Text B' w a len zs := by
  obtain ⟨h1, h2, h3⟩ := h
  refine ⟨h1, h2, ?_⟩
  rcases h3 with h3 | ⟨b, off, hb, r⟩
  · exact .inl h3
  · exact .inr ⟨b, off, by omega, r⟩
theorem BS.new {w : World} {a : Option Addr} {len cap : Nat} {zs : List Int} {m : Nat} (ht : Text w.heap.size w a len zs) (hT : Tab w) :
    BS w.heap.size (w.heap.size + 1) w.heap.size a len cap zs m ((w.alloc (.cells (rA a len cap 0) 148)).alloc (.cells (fA w.heap.size none 0 0 m (.pointer none)) 120)) 0 [] none 0 (.pointer none) := by
  have hb : Below w.heap.size w ((w.alloc (.cells (rA a len cap 0) 148)).alloc (.cells (fA w.heap.size none 0 0 m (.pointer none)) 120)) := ((Below.refl _ w).alloc (Nat.le_refl _) _).alloc (by simp) _
  have h0 : 2 < w.heap.size := lt_of_cell (hT.2 0 (by decide))
  exact ⟨⟨heap_new2 _ _ _, heap_new1 _ _ _, ht.kept (Kept.of_below hb) (fun b hb e => by omega), OwnsB.nil _ _, by omega, Nat.zero_le _⟩, .inl rfl, hT.below hb h0⟩

theorem iOne_le {S D : List Int} {b : Nat → Nat} {T m p : Nat} {out : List Int} {q : Nat} {c : Bool} {t : List Int} (ho : out.length ≤ m) (h : iOne S D b T m p out = .ok (q, (c, t))) : t.length ≤ m := by
  rcases hn : iNx S b T p with e | ⟨q1, v⟩
  · rw [iOne_err hn] at h; cases h
  · by_cases h1 : v < 256
    · by_cases h2 : m ≤ out.length
      · rw [iOne_over hn h1 h2] at h; cases h
      · rw [iOne_byte hn h1 (by omega)] at h; cases h; simp; omega
    · by_cases h2 : v = 256
      · subst h2; rw [iOne_end hn] at h; cases h; exact ho
      · rw [iOne_run hn (by omega)] at h
        rcases hr : iRun D b T m q1 v out with e | ⟨q2, o2⟩
        · rw [iOn_err hr] at h; cases h
        · rw [iOn_ok hr] at h; cases h; exact iRun_le hr
theorem iBlk_le {b : Nat → Nat} {T m p : Nat} {out : List Int} {q : Nat} {c : Bool} {t : List Int} (h : iBlk b T m p out = .ok (q, (c, t))) (ho : out.length ≤ m) : t.length ≤ m := by
  unfold iBlk at h
  obtain ⟨q1, l, -, h⟩ := iThen_ok h
  obtain ⟨q2, kind, -, h⟩ := iThen_ok h
  obtain ⟨q3, o2, h3, h⟩ := iThen_ok h
  cases h
  have hd : ∀ S D q', iDat S D b T m q' out = .ok (q, t) → t.length ≤ m := fun S D q' hq => by
    obtain ⟨p', s', h1, h2⟩ := iLoop_fin (fun o : List Int => o.length ≤ m) (fun p s q t hs e => iOne_le hs e) (fun p s => iGo_one S D b T m p s) q' out ho q t hq
    exact iOne_le h1 h2
  unfold iKind at h3
  split at h3
  · unfold iSto at h3
    obtain ⟨q4, n, -, h3⟩ := iThen_ok h3
    obtain ⟨q5, n2, -, h3⟩ := iThen_ok h3
    split at h3
    · cases h3
    · split at h3
      · cases h3
      · split at h3
        · cases h3
        · cases h3
          rw [List.length_append, iBytes_length]; omega
  · split at h3
    · exact hd _ _ _ h3
    · split at h3
      · obtain ⟨q4, sd, -, h4⟩ := iThen_ok h3
        exact hd _ _ _ h4
      · cases h3
set_option maxHeartbeats 4000000 in
theorem inflate_pos (a : Option Addr) (len cap : Nat) (zs : List Int) (m : Nat) (w : World) (ht : Text w.heap.size w a len zs) (hT : Tab w) (hl : len ≤ 140737488351232) (hcap : len ≤ cap) (hmB : m ≤ 10000000) :
    Calls Tryz.prog 40 #[.slice a len cap, .int .i64 (m : Int)] w (InfOk w (iAns zs m)) := by
  have hlen := ht.1
  obtain ⟨R, hR⟩ : ∃ R, R = iInf (ib zs) (len * 8) m := ⟨_, rfl⟩
  have hA : iAns zs m = iRes R := by unfold iAns; rw [hR, hlen, Nat.mul_comm]
  rw [hA]
  have h0 : 2 < w.heap.size := lt_of_cell (hT.2 0 (by decide))
  have HB0 := hide (BS.new (cap := cap) (m := m) ht hT)
  have HR0 : Hid (R = if true = true then iLoop (len * 8) (iBlk (ib zs) (len * 8) m) 0 [] else .ok (0, [])) := by rw [hR]; exact rfl
  have HBel : Hid (Below w.heap.size w ((w.alloc (.cells (rA a len cap 0) 148)).alloc (.cells (fA w.heap.size none 0 0 m (.pointer none)) 120))) := ((Below.refl _ w).alloc (Nat.le_refl _) _).alloc (by simp) _
  clear hA hR ht hT hlen
  go_enter Tryz.func40, Tryz.ntmps40
  go_wp2_with (go_at_call 58; refine (newReader_any _ _ _ _).mono ?_; rintro e w1 ⟨rfl, rfl⟩)
  go_loopg [8] (len * 8) (fun gk v8 wx => ∃ (p' : Nat) (out' : List Int) (more : Bool) (_ : p' + gk = len * 8) (_ : out'.length ≤ m), v8 = .bool (!more) ∧ Hid (R = if more = true then iLoop (len * 8) (iBlk (ib zs) (len * 8) m) p' out' else .ok (p', out')) ∧ Hid (BX w.heap.size (w.heap.size + 1) w.heap.size a len cap zs m wx p' out') ∧ Hid (Below w.heap.size w wx))
  case atStart => exact ⟨0, [], true, by omega, Nat.zero_le _, rfl, HR0, ⟨none, 0, .pointer none, HB0.out⟩, HBel.out⟩
  case round =>
    obtain ⟨p', out', more, hpg, ho', rfl, HR, HX, HBW⟩ := hrel
    obtain ⟨o', oc', fc', hW⟩ := HX.out
    have HW := hide hW
    have hz1 := hW.ss.pl
    clear hW HX HB0 HR0 HBel
    cases more with
    | false =>
      have HRE : Hid (R = .ok (p', out')) := HR.out
      have c0 := HW.out.ss.c0
      have c1 := HW.out.ss.c1
      have r0 := cells_of HW.out.ss.rd 0
      have r1 := cells_of HW.out.ss.rd 1
      simp [rA] at r0 r1
      have hz := lt_of_block HW.out.ss.s0
      have HQ : Hid ((len : Int) - ((len : Int) * 8 - (p' : Int)) / 8 = (((p' + 7) / 8 : Nat) : Int)) := by show _ = _; omega
      clear HR
      go_upto_region 8 with fail
      go_quiet ((go_at_call 60; exact Calls.quiet_of (left_any w.heap.size a len cap (p' : Int) _ (by assumption) (by assumption) (by omega) (by omega) (by omega))))
      go_wp2_with fail
      go_returns
      rw [HRE.out]
      refine ⟨o', oc', ?_, HW.out.ss.owns, ⟨HBW.out.os, HBW.out.tape, HBW.out.output, HBW.out.size, HBW.out.block⟩⟩
      show Ending.returned (.tuple #[_, .int .i64 ((len : Int) - ((len : Int) * 8 - (p' : Int)) / 8), _]) = _
      rw [HQ.out]
      rfl
    | true =>
      replace HR : Hid (R = iLoop (len * 8) (iBlk (ib zs) (len * 8) m) p' out') := HR.out
      have hK := block_c HW.out h0 hl hcap (by omega) ho'
      rcases h1 : iBlk (ib zs) (len * 8) m p' out' with e | ⟨q1, more, out2⟩
      · rw [h1] at hK
        have HK := hide (hK.mono fun _ _ => KOk.bad rfl)
        have HRE := hide (HR.out.trans (iLoop_err h1))
        clear hK h1 HR
        go_wp2_with (go_at_call 59; refine HK.out.mono ?_; rintro x w1 ⟨⟨b1, rfl⟩, k1, e1, e2⟩; have K1 := hide (HBW.out.trans k1); clear k1)
        go_returns
        rw [HRE.out]
        exact ⟨none, 0, rfl, OwnsB.nil _ _, K1.out⟩
      · have hgo := iGo_blk (ib zs) (len * 8) m p' out' q1 _ h1
        have hby := iBlk_le h1
        rw [h1] at hK
        have HK := hide (hK.mono fun _ _ => KOk.got rfl)
        have HRE := hide (HR.out.trans (iLoop_step h1 hgo.1 hgo.2))
        have hg1 := hgo.1
        have hg2 := hgo.2
        clear hK h1 HR hgo
        go_wp2_with (go_at_call 59; refine HK.out.mono ?_; rintro x w1 ⟨rfl, k1, o1, oc1, fc1, s1⟩; have K1 := hide (HBW.out.trans k1); have S1 := hide s1; clear k1 s1)
        go_roundg (len * 8 - q1)
        case measure => omega
        case rel => exact ⟨q1, out2, more, by omega, hby ho', rfl, HRE, ⟨o1, oc1, fc1, S1.out⟩, K1.out⟩
set_option maxHeartbeats 4000000 in
theorem inflate_neg (a : Option Addr) (len cap : Nat) (zs : List Int) (most : Int) (w : World) (ht : Text w.heap.size w a len zs) (hT : Tab w) (hl : len ≤ 140737488351232) (hcap : len ≤ cap) (hn : most < 0) :
    Calls Tryz.prog 40 #[.slice a len cap, .int .i64 most] w (InfOk w (iAns zs 0)) := by
  have hlen := ht.1
  obtain ⟨R, hR⟩ : ∃ R, R = iInf (ib zs) (len * 8) 0 := ⟨_, rfl⟩
  have hA : iAns zs 0 = iRes R := by unfold iAns; rw [hR, hlen, Nat.mul_comm]
  rw [hA]
  have h0 : 2 < w.heap.size := lt_of_cell (hT.2 0 (by decide))
  have HB0 := hide (BS.new (cap := cap) (m := 0) ht hT)
  have HR0 : Hid (R = if true = true then iLoop (len * 8) (iBlk (ib zs) (len * 8) 0) 0 [] else .ok (0, [])) := by rw [hR]; exact rfl
  have HBel : Hid (Below w.heap.size w ((w.alloc (.cells (rA a len cap 0) 148)).alloc (.cells (fA w.heap.size none 0 0 (0 : Nat) (.pointer none)) 120))) := ((Below.refl _ w).alloc (Nat.le_refl _) _).alloc (by simp) _
  clear hA hR ht hT hlen
  go_enter Tryz.func40, Tryz.ntmps40
  go_wp2_with (go_at_call 58; refine (newReader_any _ _ _ _).mono ?_; rintro e w1 ⟨rfl, rfl⟩)
  go_loopg [8] (len * 8) (fun gk v8 wx => ∃ (p' : Nat) (out' : List Int) (more : Bool) (_ : p' + gk = len * 8) (_ : out'.length ≤ 0), v8 = .bool (!more) ∧ Hid (R = if more = true then iLoop (len * 8) (iBlk (ib zs) (len * 8) 0) p' out' else .ok (p', out')) ∧ Hid (BX w.heap.size (w.heap.size + 1) w.heap.size a len cap zs 0 wx p' out') ∧ Hid (Below w.heap.size w wx))
  case atStart => exact ⟨0, [], true, by omega, Nat.zero_le _, rfl, HR0, ⟨none, 0, .pointer none, HB0.out⟩, HBel.out⟩
  case round =>
    obtain ⟨p', out', more, hpg, ho', rfl, HR, HX, HBW⟩ := hrel
    obtain ⟨o', oc', fc', hW⟩ := HX.out
    have HW := hide hW
    have hz1 := hW.ss.pl
    clear hW HX HB0 HR0 HBel
    cases more with
    | false =>
      have HRE : Hid (R = .ok (p', out')) := HR.out
      have c0 := HW.out.ss.c0
      have c1 := HW.out.ss.c1
      have r0 := cells_of HW.out.ss.rd 0
      have r1 := cells_of HW.out.ss.rd 1
      simp [rA] at r0 r1
      have hz := lt_of_block HW.out.ss.s0
      have HQ : Hid ((len : Int) - ((len : Int) * 8 - (p' : Int)) / 8 = (((p' + 7) / 8 : Nat) : Int)) := by show _ = _; omega
      clear HR
      go_upto_region 8 with fail
      go_quiet ((go_at_call 60; exact Calls.quiet_of (left_any w.heap.size a len cap (p' : Int) _ (by assumption) (by assumption) (by omega) (by omega) (by omega))))
      go_wp2_with fail
      go_returns
      rw [HRE.out]
      refine ⟨o', oc', ?_, HW.out.ss.owns, ⟨HBW.out.os, HBW.out.tape, HBW.out.output, HBW.out.size, HBW.out.block⟩⟩
      show Ending.returned (.tuple #[_, .int .i64 ((len : Int) - ((len : Int) * 8 - (p' : Int)) / 8), _]) = _
      rw [HQ.out]
      rfl
    | true =>
      replace HR : Hid (R = iLoop (len * 8) (iBlk (ib zs) (len * 8) 0) p' out') := HR.out
      have hK := block_c HW.out h0 hl hcap (by omega) ho'
      rcases h1 : iBlk (ib zs) (len * 8) 0 p' out' with e | ⟨q1, more, out2⟩
      · rw [h1] at hK
        have HK := hide (hK.mono fun _ _ => KOk.bad rfl)
        have HRE := hide (HR.out.trans (iLoop_err h1))
        clear hK h1 HR
        go_wp2_with (go_at_call 59; refine HK.out.mono ?_; rintro x w1 ⟨⟨b1, rfl⟩, k1, e1, e2⟩; have K1 := hide (HBW.out.trans k1); clear k1)
        go_returns
        rw [HRE.out]
        exact ⟨none, 0, rfl, OwnsB.nil _ _, K1.out⟩
      · have hgo := iGo_blk (ib zs) (len * 8) 0 p' out' q1 _ h1
        have hby := iBlk_le h1
        rw [h1] at hK
        have HK := hide (hK.mono fun _ _ => KOk.got rfl)
        have HRE := hide (HR.out.trans (iLoop_step h1 hgo.1 hgo.2))
        have hg1 := hgo.1
        have hg2 := hgo.2
        clear hK h1 HR hgo
        go_wp2_with (go_at_call 59; refine HK.out.mono ?_; rintro x w1 ⟨rfl, k1, o1, oc1, fc1, s1⟩; have K1 := hide (HBW.out.trans k1); have S1 := hide s1; clear k1 s1)
        go_roundg (len * 8 - q1)
        case measure => omega
        case rel => exact ⟨q1, out2, more, by omega, hby ho', rfl, HRE, ⟨o1, oc1, fc1, S1.out⟩, K1.out⟩
theorem inflate_c (a : Option Addr) (len cap : Nat) (zs : List Int) (most : Int) (w : World) (ht : Text w.heap.size w a len zs) (hT : Tab w) (hl : len ≤ 140737488351232) (hcap : len ≤ cap) (hm : most ≤ 10000000) :
    Calls Tryz.prog 40 #[.slice a len cap, .int .i64 most] w (InfOk w (iAns zs most.toNat)) := by
  by_cases hn : most < 0
  · rw [show most.toNat = 0 by omega]
    exact inflate_neg a len cap zs most w ht hT hl hcap hn
  · obtain ⟨m, rfl⟩ := Int.eq_ofNat_of_zero_le (show 0 ≤ most by omega)
    rw [Int.toNat_natCast]
    exact inflate_pos a len cap zs m w ht hT hl hcap (by omega)
#print axioms inflate_c
end Go.Proofs.YteknifnadbmfiaaGreatDoor

/- The laws' probe, 'alive': it answers true, and writes nothing that was there. -/
namespace Go.Proofs.YteknifnadbmfiaaGreatDoor
set_option maxRecDepth 100000
open Go Go.RowKit

def ls4 : List Int := [2, 1, 3, 3]
end Go.Proofs.YteknifnadbmfiaaGreatDoor

/- Bits and bytes: the bits of bytes, the bytes of bits; what is laid is read. Out of stage 1's texts. -/
namespace Go.Proofs.YteknifnadbmfiaaGreatDoor
set_option maxRecDepth 100000
open Go.RowKit

/-- The bytes of which the bits L are the first ones. -/
def dataL (L : List Int) : List Int := bytesL L ((L.length + 7) / 8)

theorem getD_left {A B : List Int} {i : Nat} (h : i < A.length) : (A ++ B).getD i 0 = A.getD i 0 := by
  simp [List.getD, List.getElem?_append_left h]
theorem getD_right {A B : List Int} {i : Nat} (h : A.length ≤ i) : (A ++ B).getD i 0 = B.getD (i - A.length) 0 := by
  simp [List.getD, List.getElem?_append_right h]

theorem bitsN_getD (x : Int) (n i : Nat) : (bitsN x n).getD i 0 = if i < n then x / 2 ^ i % 2 else 0 := by
  induction n with
  | zero => simp [bitsN]
  | succ n ih =>
    rw [bitsN]
    by_cases h : i < n
    · rw [getD_left (by rw [bitsN_length]; exact h), ih, if_pos h, if_pos (by omega)]
    · rw [getD_right (by rw [bitsN_length]; omega), bitsN_length]
      by_cases e : i = n
      · subst e; simp
      · rw [if_neg (by omega)]
        have : i - n ≠ 0 := by omega
        simp [List.getD, this]

theorem rowOf_getD (bs : List Int) (i : Nat) : (rowOf bs).getD i 0 = if i < 8 * bs.length then bs.getD (i / 8) 0 / 2 ^ (i % 8) % 2 else 0 := by
  induction bs generalizing i with
  | nil => simp [rowOf]
  | cons x r ih =>
    have e : rowOf (x :: r) = bitsN x 8 ++ rowOf r := by simp [rowOf]
    rw [e]
    by_cases h : i < 8
    · rw [getD_left (by rw [bitsN_length]; exact h), bitsN_getD, if_pos h, if_pos (by simp; omega), show i / 8 = 0 by omega, show i % 8 = i by omega]
      rfl
    · rw [getD_right (by rw [bitsN_length]; omega), bitsN_length, ih]
      have e1 : i / 8 = (i - 8) / 8 + 1 := by omega
      have e2 : i % 8 = (i - 8) % 8 := by omega
      rw [e1, e2, List.getD_cons_succ]
      by_cases hb : i - 8 < 8 * r.length
      · rw [if_pos hb, if_pos (by simp; omega)]
      · rw [if_neg hb, if_neg (by simp; omega)]

theorem bit01 (x : Int) : 0 ≤ x % 2 ∧ x % 2 ≤ 1 := by omega

theorem bin_append {A B : List Int} (ha : Bin A) (hb : Bin B) : Bin (A ++ B) := by
  intro i
  by_cases h : i < A.length
  · rw [getD_left h]; exact ha i
  · rw [getD_right (by omega)]; exact hb _
theorem bin_bitsN (x : Int) (n : Nat) : Bin (bitsN x n) := by
  intro i
  rw [bitsN_getD]
  split
  · exact bit01 _
  · decide
theorem packB_congr (L L' : List Int) (i i' j : Nat) (h : ∀ k, k < j → L.getD (i + k) 0 = L'.getD (i' + k) 0) : packB L i j = packB L' i' j := by
  induction j with
  | zero => rfl
  | succ j ih => rw [packB, packB, ih (fun k hk => h k (by omega)), h j (by omega)]

theorem packB_num (x : Int) (n j : Nat) (hj : n ≤ j) : packB (bitsN x n) 0 j = x % 2 ^ n := by
  have base : ∀ k, k ≤ n → packB (bitsN x n) 0 k = x % 2 ^ k := by
    intro k
    induction k with
    | zero => intro _; simp [packB]
    | succ k ih =>
      intro hk
      rw [packB, ih (by omega), Nat.zero_add, bitsN_getD, if_pos (by omega), mod_pow_succ, Int.mul_comm]
  have up : ∀ d, packB (bitsN x n) 0 (n + d) = x % 2 ^ n := by
    intro d
    induction d with
    | zero => exact base n (Nat.le_refl _)
    | succ d ih => rw [← Nat.add_assoc, packB, ih, Nat.zero_add, bitsN_getD, if_neg (by omega), Int.mul_zero, Int.add_zero]
  have := up (j - n)
  rwa [show n + (j - n) = j by omega] at this

theorem dataL_row (bs : List Int) (t : Int) (m : Nat) (hb : ∀ x ∈ bs, 0 ≤ x ∧ x ≤ 255) (h0 : 0 ≤ t) (h1 : t < 2 ^ m) (hm : m ≤ 7) : dataL (rowOf bs ++ bitsN t m) = dataOf bs t m := by
  have hlen : (rowOf bs ++ bitsN t m).length = 8 * bs.length + m := by simp [rowOf_length, bitsN_length]
  have one : ∀ r, r < bs.length → packB (rowOf bs ++ bitsN t m) (8 * r) 8 = bs.getD r 0 := by
    intro r hr
    have hx : 0 ≤ bs.getD r 0 ∧ bs.getD r 0 ≤ 255 := by
      have := hb bs[r] (List.getElem_mem hr)
      simpa [List.getD, hr] using this
    rw [packB_congr _ (bitsN (bs.getD r 0) 8) _ 0 8 (fun k hk => ?_), packB_num _ 8 8 (Nat.le_refl _)]
    · have : (2 : Int) ^ 8 = 256 := by decide
      rw [this]; omega
    · rw [getD_left (by rw [rowOf_length]; omega), rowOf_getD, if_pos (by omega), Nat.zero_add, bitsN_getD, if_pos hk, show (8 * r + k) / 8 = r by omega, show (8 * r + k) % 8 = k by omega]
  have last : packB (rowOf bs ++ bitsN t m) (8 * bs.length) 8 = t := by
    rw [packB_congr _ (bitsN t m) _ 0 8 (fun k hk => ?_), packB_num _ m 8 (by omega), Int.emod_eq_of_lt h0 h1]
    rw [getD_right (by rw [rowOf_length]; omega), rowOf_length]
    congr 1; omega
  unfold dataL dataOf bytesL
  rw [hlen]
  by_cases hm0 : 0 < m
  · rw [if_pos hm0, show (8 * bs.length + m + 7) / 8 = bs.length + 1 by omega, List.range_succ, List.map_append]
    congr 1
    · apply List.ext_getElem
      · simp
      · intro i hi hi'
        have := one i (by simpa using hi)
        simp only [List.getElem_map, List.getElem_range, this]
        simp [List.getD, show i < bs.length by simpa using hi]
    · simp [last]
  · rw [if_neg hm0, show (8 * bs.length + m + 7) / 8 = bs.length by omega]
    apply List.ext_getElem
    · simp
    · intro i hi hi'
      have := one i (by simpa using hi)
      simp only [List.getElem_map, List.getElem_range, this]
      simp [List.getD, show i < bs.length by simpa using hi]

theorem OwnsB.below {w w' : World} {base : Nat} {v : Value} {D : List Int} (h : OwnsB w base v D) (b : Below w.heap.size w w') : OwnsB w' base v D :=
  ownsRow_kept h (Kept.of_below b) (fun g hg e => by have := (ownsRow_lt h hg).2; omega)

theorem pack_bit (L : List Int) (h : Bin L) (i n j : Nat) (hj : j < n) : packB L i n / 2 ^ j % 2 = L.getD (i + j) 0 := by
  induction n with
  | zero => omega
  | succ n ih =>
    have hb := packB_bd L h i n
    have hp := pow_pos' n
    have hbit := h (i + n)
    by_cases e : j = n
    · subst e
      rw [packB, Int.add_mul_ediv_left _ _ (by omega), Int.ediv_eq_zero_of_lt hb.1 hb.2]
      omega
    · have hm : packB L i (n + 1) % 2 ^ n = packB L i n := by
        rw [packB, Int.add_mul_emod_self_left, Int.emod_eq_of_lt hb.1 hb.2]
      rw [← bit_mod _ n j (by omega), hm]
      exact ih (by omega)

theorem bytesL_getD (L : List Int) (q r : Nat) (h : r < q) : (bytesL L q).getD r 0 = packB L (8 * r) 8 := by
  simp [bytesL, List.getD, h]

theorem bytesL_length (L : List Int) (q : Nat) : (bytesL L q).length = q := by simp [bytesL]

theorem dataL_length (L : List Int) : (dataL L).length = (L.length + 7) / 8 := bytesL_length _ _

theorem dataL_bytes (L : List Int) (h : Bin L) (i : Nat) : 0 ≤ (dataL L).getD i 0 ∧ (dataL L).getD i 0 ≤ 255 := by
  by_cases hi : i < (L.length + 7) / 8
  · unfold dataL
    rw [bytesL_getD L _ i hi]
    have := packB_bd L h (8 * i) 8
    have e : (2 : Int) ^ 8 = 256 := by decide
    omega
  · simp [List.getD, List.getElem?_eq_none (show (dataL L).length ≤ i by rw [dataL_length]; omega)]

theorem data_bitAt (L : List Int) (h : Bin L) (i : Nat) (hi : i < L.length) : bitAt (dataL L) i = L.getD i 0 := by
  unfold bitAt dataL
  rw [bytesL_getD L _ (i / 8) (by omega), pack_bit L h (8 * (i / 8)) 8 (i % 8) (by omega)]
  congr 1; omega


end Go.Proofs.YteknifnadbmfiaaGreatDoor

/- huff's lay and Put: contracts. -/
namespace Go.Proofs.YteknifnadbmfiaaGreatDoor
set_option maxRecDepth 100000
open Go Go.RowKit

/-- A code, turned round, has its own bits, the highest first. -/
theorem turn_row (c n : Nat) : bitsN (turnI (c : Int) n) n = rowL c n := by
  apply List.ext_getElem?
  intro j
  by_cases h : j < n
  · have h1 : j < (bitsN (turnI (c : Int) n) n).length := by rw [bitsN_length]; exact h
    have h2 : j < (rowL c n).length := by rw [rowL_length]; exact h
    have e1 := bitsN_getD (turnI (c : Int) n) n j
    have e2 := rowL_at c n h
    rw [if_pos h, turn_bit _ n j h] at e1
    unfold ln at e2
    rw [List.getElem?_eq_getElem h1, List.getElem?_eq_getElem h2]
    simp only [List.getD, List.getElem?_eq_getElem h1, Option.getD_some] at e1
    simp only [List.getD, List.getElem?_eq_getElem h2, Option.getD_some] at e2
    rw [e1, e2]
    unfold bitC
    push_cast; rfl
  · rw [List.getElem?_eq_none (by rw [bitsN_length]; omega), List.getElem?_eq_none (by rw [rowL_length]; omega)]

theorem lay_c (base bw : Nat) (v : Value) (bs : List Int) (t : Int) (m c n : Nat) (w : World) (h : Wr base bw w v bs t m) (hn : n ≤ 15) (hb : bs.length ≤ 1000000000) (hbase : base ≤ w.heap.size) :
    Calls Tryz.prog 114 #[.func (.func 63) #[.pointer (some ⟨bw, 0, none⟩)] #[], .int .i64 (c : Int), .int .i64 (n : Int)] w fun e w' => e = .returned (.tuple #[]) ∧ ∃ v' bs' t' m', Wr base bw w' v' bs' t' m' ∧ rowOf bs' ++ bitsN t' m' = rowOf bs ++ bitsN t m ++ rowL c n ∧ Kept (fun k => k = bw ∨ v.ownBlock = some k) w w' ∧ (v'.ownBlock = v.ownBlock ∨ ∀ g, v'.ownBlock = some g → w.heap.size ≤ g) := by
  have HW : Hid (Wr base bw w v bs t m) := h
  have HT := turn_yes (c : Int) (n : Int) w (by omega) (by omega)
  rw [Int.toNat_natCast] at HT
  have HB := wbits_yes base bw v bs t m (turnI (c : Int) n) n w h (by omega) (by omega) hbase
  rw [turn_row] at HB
  generalize turnI (c : Int) n = X at HT HB
  have HTT : Hid (Calls Tryz.prog 131 #[.int .i64 (c : Int), .int .i64 (n : Int)] w fun e w' => e = .returned (.int .i64 X) ∧ w' = w) := HT
  have HBB : Hid (Calls Tryz.prog 63 #[.pointer (some ⟨bw, 0, none⟩), .int .i64 X, .int .i64 (n : Int)] w fun e w' => e = .returned (.tuple #[]) ∧ ∃ v' bs' t' m', Wr base bw w' v' bs' t' m' ∧ rowOf bs' ++ bitsN t' m' = rowOf bs ++ bitsN t m ++ rowL c n ∧ Kept (fun k => k = bw ∨ v.ownBlock = some k) w w' ∧ (v'.ownBlock = v.ownBlock ∨ ∀ g, v'.ownBlock = some g → w.heap.size ≤ g)) := HB
  clear h HT HB
  go_enter Tryz.func114, Tryz.ntmps114
  go_wp2_with (first
    | (go_at_call 131; refine HTT.out.mono ?_; rintro e w1 ⟨rfl, hw1⟩; obtain rfl : w = w1 := hw1.symm)
    | (go_at_call 63; refine HBB.out.mono ?_; rintro e w2 ⟨rfl, h2⟩; have H2 : Hid (∃ v' bs' t' m', Wr base bw w2 v' bs' t' m' ∧ rowOf bs' ++ bitsN t' m' = rowOf bs ++ bitsN t m ++ rowL c n ∧ Kept (fun k => k = bw ∨ v.ownBlock = some k) w w2 ∧ (v'.ownBlock = v.ownBlock ∨ ∀ g, v'.ownBlock = some g → w.heap.size ≤ g)) := h2; clear h2))
  go_end0
  exact ⟨rfl, H2.out⟩

end Go.Proofs.YteknifnadbmfiaaGreatDoor
