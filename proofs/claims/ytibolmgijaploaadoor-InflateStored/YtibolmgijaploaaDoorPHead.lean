/- What a dynamic block says of its codes, in parts; the stream's counts: contract. -/
import Derived.Test.YtibolmgijaploaaDoorPFixed
namespace Go.Proofs.YtibolmgijaploaaDoor
set_option maxRecDepth 100000
open Go Go.RowKit

def iCnt (b : Nat → Nat) (T p : Nat) : Except Int (Nat × (Nat × Nat × Nat)) :=
  iThen (iTk b T p 5) fun q x => iThen (iTk b T q 5) fun q y => iThen (iTk b T q 4) fun q z => if 286 < x + 257 ∨ 30 < y + 1 then .error 63 else .ok (q, (x, y, z))
def iInn (b : Nat → Nat) (T p z : Nat) : Except Int (Nat × List Int) := iThen (iRd3 b T (z + 4) p 0 (List.replicate 19 0)) fun q first => if ¬ check first false = 0 then .error 63 else .ok (q, first)
noncomputable def iAll (first : List Int) (many : Nat) (b : Nat → Nat) (T p : Nat) : Except Int (Nat × List Int) := iLoop T (iLen first many b T) p []
theorem iHdr_eq (b : Nat → Nat) (T p : Nat) : iHdr b T p = iThen (iCnt b T p) fun q c => iThen (iInn b T q c.2.2) fun q first => iThen (iAll first (c.1 + 258 + c.2.1) b T q) fun q all =>
    if ln all 256 = 0 ∨ ¬ check (all.take (c.1 + 257)) true = 0 ∨ ¬ check (all.drop (c.1 + 257)) true = 0 then .error 63 else .ok (q, (all.take (c.1 + 257), all.drop (c.1 + 257))) := by
  unfold iHdr iCnt iInn iAll
  cases iTk b T p 5 with
  | error e => rfl
  | ok x =>
    obtain ⟨q, x⟩ := x
    simp only [iThen]
    cases iTk b T q 5 with
    | error e => rfl
    | ok y =>
      obtain ⟨q, y⟩ := y
      simp only
      cases iTk b T q 4 with
      | error e => rfl
      | ok z =>
        obtain ⟨q, z⟩ := z
        simp only
        by_cases hc : 286 < x + 257 ∨ 30 < y + 1
        · rw [if_pos hc, if_pos hc]
        · rw [if_neg hc, if_neg hc]
          simp only
          cases iRd3 b T (z + 4) q 0 (List.replicate 19 0) with
          | error e => rfl
          | ok f =>
            obtain ⟨q, f⟩ := f
            simp only
            by_cases hk : ¬ check f false = 0
            · rw [if_pos hk, if_pos hk]
            · rw [if_neg hk, if_neg hk]
theorem iCnt_got {b : Nat → Nat} (hb : ∀ i, b i ≤ 1) {T p q : Nat} {c : Nat × Nat × Nat} (h : iCnt b T p = .ok (q, c)) : c.1 ≤ 29 ∧ c.2.1 ≤ 29 ∧ c.2.2 ≤ 15 := by
  unfold iCnt at h
  obtain ⟨q1, x, -, h⟩ := iThen_ok h
  obtain ⟨q2, y, -, h⟩ := iThen_ok h
  obtain ⟨q3, z, hz, h⟩ := iThen_ok h
  have := iTk_lt hb hz
  split at h
  · cases h
  · cases h
    show x ≤ 29 ∧ y ≤ 29 ∧ z ≤ 15
    omega

section
variable {B bs br : Nat} {a : Option Addr} {len cap : Nat} {zs : List Int} {m : Nat} {w w' : World} {p : Nat} {o : Option Addr} {oc : Nat} {fc : Value} {out : List Int}
def CGot (br : Nat) (a : Option Addr) (len cap : Nat) (w : World) (q x y z : Nat) (e : Ending) (w' : World) : Prop :=
  e = .returned (.tuple #[.int .i64 ((x + 257 : Nat) : Int), .int .i64 ((y + 1 : Nat) : Int), .int .i64 ((z + 4 : Nat) : Int), .int .i64 0]) ∧ Kept (fun b => b = br) w w' ∧ w'.heap[br]? = some (.cells (rA a len cap q) 54 (0, 0)) ∧ q ≤ len * 8
def CBad (br : Nat) (w : World) (e : Int) (x : Ending) (w' : World) : Prop := x = .returned (.tuple #[.int .i64 0, .int .i64 0, .int .i64 0, .int .i64 e]) ∧ Kept (fun b => b = br) w w' ∧ 60 ≤ e ∧ e ≤ 65
def COk (br : Nat) (a : Option Addr) (len cap : Nat) (w : World) (r : Except Int (Nat × (Nat × Nat × Nat))) (x : Ending) (w' : World) : Prop := (∃ q c, r = .ok (q, c) ∧ CGot br a len cap w q c.1 c.2.1 c.2.2 x w') ∨ (∃ e, r = .error e ∧ CBad br w e x w')
theorem COk.got {r : Except Int (Nat × (Nat × Nat × Nat))} {x : Ending} {q : Nat} {c : Nat × Nat × Nat} (hr : r = .ok (q, c)) (h : COk br a len cap w r x w') : CGot br a len cap w q c.1 c.2.1 c.2.2 x w' := by
  subst hr
  obtain ⟨q', c', e, h⟩ | ⟨e, h', _⟩ := h
  · cases e; exact h
  · cases h'
theorem COk.bad {r : Except Int (Nat × (Nat × Nat × Nat))} {x : Ending} {e : Int} (hr : r = .error e) (h : COk br a len cap w r x w') : CBad br w e x w' := by
  subst hr
  obtain ⟨q', c', e, h⟩ | ⟨e, h', h⟩ := h
  · cases e
  · cases h'; exact h

set_option maxHeartbeats 4000000 in
theorem counts_c (h : SS B bs br a len cap zs m w p o oc fc out) (hl8 : len * 8 ≤ 9223372036854775000) :
    Calls Tryd.prog 39 #[.pointer (some ⟨bs, 0, none⟩)] w (COk br a len cap w (iCnt (ib zs) (len * 8) p)) := by
  obtain ⟨R, hR⟩ : ∃ R, R = iCnt (ib zs) (len * 8) p := ⟨_, rfl⟩
  rw [← hR]
  have hA := number_c h hl8 5 5 rfl (by decide)
  have hB := fun w1 q (s : SS B bs br a len cap zs m w1 q o oc fc out) => number_c s hl8 5 5 rfl (by decide)
  have hC := fun w1 q (s : SS B bs br a len cap zs m w1 q o oc fc out) => number_c s hl8 4 4 rfl (by decide)
  have H0 := hide h
  clear h
  unfold iCnt at hR
  rcases h1 : iTk (ib zs) (len * 8) p 5 with e | ⟨q1, x⟩
  · rw [h1] at hA
    have HA := hide (hA.mono fun _ _ => NOk.bad rfl)
    rw [iThen_of_err h1] at hR
    have HR := hide hR
    clear hA hB hC hR
    go_enter Tryd.func39, Tryd.ntmps39
    go_wp2_with (go_at_call 23; refine HA.out.mono ?_; rintro x w1 ⟨rfl, k1, e1, e2⟩; have K1 := hide k1; clear k1)
    go_returns
    exact .inr ⟨e, HR.out, rfl, K1.out, e1, e2⟩
  have hx := iTk_lt (ib_le zs) h1
  rw [h1] at hA
  have HA := hide (hA.mono fun _ _ => NOk.got rfl)
  have hB1 := fun w1 s => hB w1 q1 s
  rw [iThen_of_ok h1] at hR
  clear hA hB h1
  rcases h2 : iTk (ib zs) (len * 8) q1 5 with e | ⟨q2, y⟩
  · rw [h2] at hB1
    have HB := fun w1 s => hide ((hB1 w1 s).mono fun _ _ => NOk.bad rfl)
    rw [iThen_of_err h2] at hR
    have HR := hide hR
    clear hB1 hC hR
    go_enter Tryd.func39, Tryd.ntmps39
    go_wp2_with (first
      | (go_at_call 23; refine HA.out.mono ?_; rintro x w1 ⟨rfl, k1, r1, l1⟩; have S1 := hide (H0.out.move k1 r1 l1); have K1 := hide k1; clear k1 r1 HA)
      | (go_at_call 23; refine (HB w1 S1.out).out.mono ?_; rintro x w2 ⟨rfl, k2, e1, e2⟩; have K2 := hide (K1.out.trans k2 (fun _ _ e => e)); clear k2))
    go_returns
    exact .inr ⟨e, HR.out, rfl, K2.out, e1, e2⟩
  have hy := iTk_lt (ib_le zs) h2
  rw [h2] at hB1
  have HB := fun w1 s => hide ((hB1 w1 s).mono fun _ _ => NOk.got rfl)
  have hC1 := fun w1 s => hC w1 q2 s
  rw [iThen_of_ok h2] at hR
  clear hB1 hC h2
  rcases h3 : iTk (ib zs) (len * 8) q2 4 with e | ⟨q3, z⟩
  · rw [h3] at hC1
    have HC := fun w1 s => hide ((hC1 w1 s).mono fun _ _ => NOk.bad rfl)
    rw [iThen_of_err h3] at hR
    have HR := hide hR
    clear hC1 hR
    go_enter Tryd.func39, Tryd.ntmps39
    go_wp2_with (first
      | (go_at_call 23; refine HA.out.mono ?_; rintro x w1 ⟨rfl, k1, r1, l1⟩; have S1 := hide (H0.out.move k1 r1 l1); have K1 := hide k1; clear k1 r1 HA)
      | (go_at_call 23; refine (HB w1 S1.out).out.mono ?_; rintro x w2 ⟨rfl, k2, r2, l2⟩; have S2 := hide (S1.out.move k2 r2 l2); have K2 := hide (K1.out.trans k2 (fun _ _ e => e)); clear k2 r2 HB)
      | (go_at_call 23; refine (HC w2 S2.out).out.mono ?_; rintro x w3 ⟨rfl, k3, e1, e2⟩; have K3 := hide (K2.out.trans k3 (fun _ _ e => e)); clear k3))
    go_returns
    exact .inr ⟨e, HR.out, rfl, K3.out, e1, e2⟩
  have hz := iTk_lt (ib_le zs) h3
  rw [h3] at hC1
  have HC := fun w1 s => hide ((hC1 w1 s).mono fun _ _ => NOk.got rfl)
  rw [iThen_of_ok h3] at hR
  clear hC1 h3
  by_cases hX : 286 < x + 257
  · rw [if_pos (.inl hX)] at hR
    have HR := hide hR
    clear hR
    have hX' : (286 : Int) < x + 257 := by omega
    go_enter Tryd.func39, Tryd.ntmps39
    go_wp2_with (first
      | (go_at_call 23; refine HA.out.mono ?_; rintro x w1 ⟨rfl, k1, r1, l1⟩; have S1 := hide (H0.out.move k1 r1 l1); have K1 := hide k1; clear k1 r1 HA)
      | (go_at_call 23; refine (HB w1 S1.out).out.mono ?_; rintro x w2 ⟨rfl, k2, r2, l2⟩; have S2 := hide (S1.out.move k2 r2 l2); have K2 := hide (K1.out.trans k2 (fun _ _ e => e)); clear k2 r2 HB)
      | (go_at_call 23; refine (HC w2 S2.out).out.mono ?_; rintro x w3 ⟨rfl, k3, r3, l3⟩; have K3 := hide (K2.out.trans k3 (fun _ _ e => e)); clear k3))
    go_returns
    exact .inr ⟨63, HR.out, rfl, K3.out, by decide, by decide⟩
  · have hX' : ¬ (286 : Int) < x + 257 := by omega
    by_cases hY : 30 < y + 1
    · rw [if_pos (.inr hY)] at hR
      have HR := hide hR
      clear hR
      have hY' : (30 : Int) < y + 1 := by omega
      go_enter Tryd.func39, Tryd.ntmps39
      go_wp2_with (first
        | (go_at_call 23; refine HA.out.mono ?_; rintro x w1 ⟨rfl, k1, r1, l1⟩; have S1 := hide (H0.out.move k1 r1 l1); have K1 := hide k1; clear k1 r1 HA)
        | (go_at_call 23; refine (HB w1 S1.out).out.mono ?_; rintro x w2 ⟨rfl, k2, r2, l2⟩; have S2 := hide (S1.out.move k2 r2 l2); have K2 := hide (K1.out.trans k2 (fun _ _ e => e)); clear k2 r2 HB)
        | (go_at_call 23; refine (HC w2 S2.out).out.mono ?_; rintro x w3 ⟨rfl, k3, r3, l3⟩; have K3 := hide (K2.out.trans k3 (fun _ _ e => e)); clear k3))
      go_returns
      exact .inr ⟨63, HR.out, rfl, K3.out, by decide, by decide⟩
    · rw [if_neg (by omega)] at hR
      have HR := hide hR
      clear hR
      have hY' : ¬ (30 : Int) < y + 1 := by omega
      go_enter Tryd.func39, Tryd.ntmps39
      go_wp2_with (first
        | (go_at_call 23; refine HA.out.mono ?_; rintro x w1 ⟨rfl, k1, r1, l1⟩; have S1 := hide (H0.out.move k1 r1 l1); have K1 := hide k1; clear k1 r1 HA)
        | (go_at_call 23; refine (HB w1 S1.out).out.mono ?_; rintro x w2 ⟨rfl, k2, r2, l2⟩; have S2 := hide (S1.out.move k2 r2 l2); have K2 := hide (K1.out.trans k2 (fun _ _ e => e)); clear k2 r2 HB)
        | (go_at_call 23; refine (HC w2 S2.out).out.mono ?_; rintro x w3 ⟨rfl, k3, r3, l3⟩; have K3 := hide (K2.out.trans k3 (fun _ _ e => e)); have R3 := hide r3; clear k3 r3))
      go_returns
      exact .inl ⟨q3, (x, y, z), HR.out, by go_num, K3.out, R3.out, l3⟩
end
end Go.Proofs.YtibolmgijaploaaDoor
