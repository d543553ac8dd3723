/- Several texts, laid together: ILens, ReadBits. -/
import Derived.Test.YtibolmgijaploaaDoorG10IStored
import Derived.Test.YtibolmgijaploaaDoorG02Read
/- How many lengths a dynamic block tells, and that they are lengths. No Go text in sight. -/
namespace Go.Proofs.YtibolmgijaploaaDoor
set_option maxRecDepth 100000

theorem fit_set {L : List Int} (h : Fit L) (i : Nat) {x : Int} (hx : 0 ≤ x ∧ x ≤ 15) : Fit (L.set i x) := fun y hy => by
  rcases List.mem_or_eq_of_mem_set hy with hy | rfl
  · exact h y hy
  · exact hx
theorem fit_app {L M : List Int} (h : Fit L) (k : Fit M) : Fit (L ++ M) := fun y hy => by
  rcases List.mem_append.1 hy with hy | hy
  · exact h y hy
  · exact k y hy
theorem iRd3_fit {b : Nat → Nat} (hb : ∀ i, b i ≤ 1) {T n p i : Nat} {first : List Int} (hf : Fit first) {q : Nat} {f : List Int} (h : iRd3 b T n p i first = .ok (q, f)) : f.length = first.length ∧ Fit f := by
  induction n generalizing p i first with
  | zero => cases h; exact ⟨rfl, hf⟩
  | succ n ih =>
    rw [iRd3] at h
    obtain ⟨q1, v, h1, h⟩ := iThen_ok h
    have hv := iNum_lt hb p 3
    rw [← (iTk_got h1).2.2] at hv
    have := ih (fit_set hf _ (by omega)) h
    rw [List.length_set] at this
    exact this
/-- One number more, of those that tell lengths. -/
theorem iLen_got {first : List Int} {many : Nat} {b : Nat → Nat} {T p : Nat} {all : List Int} {q : Nat} {c : Bool} {t : List Int} (hl : all.length < many) (hf : Fit all) (h : iLen first many b T p all = .ok (q, (c, t))) : t.length ≤ many ∧ Fit t ∧ c = decide (t.length < many) ∧ all.length < t.length := by
  unfold iLen at h
  obtain ⟨q1, v, -, h⟩ := iThen_ok h
  split at h
  · cases h
    refine ⟨by simp; omega, fit_app hf fun y hy => ?_, by simp, by simp⟩
    rw [List.mem_singleton.1 hy]; omega
  · split at h
    · cases h
    · obtain ⟨q2, x, -, h⟩ := iThen_ok h
      have hpos : 3 ≤ x + (if v = 18 then 11 else 3) := by split <;> omega
      generalize x + (if v = 18 then 11 else 3) = n at h hpos
      split at h
      · cases h
      · cases h
        refine ⟨by simp; omega, fit_app hf fun y hy => ?_, by simp, by simp; omega⟩
        rw [List.eq_of_mem_replicate hy]
        split
        · exact ln_fit hf _
        · omega
theorem iLens_got {first : List Int} {many : Nat} {b : Nat → Nat} {T p : Nat} (hm : 0 < many) {q : Nat} {t : List Int} (h : iLoop T (iLen first many b T) p [] = .ok (q, t)) : t.length = many ∧ Fit t := by
  obtain ⟨p', s', h1, h2⟩ := iLoop_fin (fun l => l.length < many ∧ Fit l) (fun p s q t hs e => by
    have := iLen_got hs.1 hs.2 e
    exact ⟨by have := this.2.2.1; simpa using this.symm, this.2.1⟩) (fun p s => iGo_len first many b T p s) p [] ⟨by simpa using hm, fun y hy => absurd hy (by simp)⟩ q t h
  obtain ⟨g1, g2, g3, -⟩ := iLen_got h1.1 h1.2 h2
  have : ¬ t.length < many := by simpa using g3.symm
  exact ⟨by omega, g2⟩
/-- What a dynamic block's codes are. -/
theorem iHdr_got {b : Nat → Nat} {T p q : Nat} {S D : List Int} (h : iHdr b T p = .ok (q, (S, D))) : 257 ≤ S.length ∧ S.length ≤ 286 ∧ 1 ≤ D.length ∧ D.length ≤ 30 ∧ check S true = 0 ∧ check D true = 0 := by
  unfold iHdr at h
  obtain ⟨q1, x, -, h⟩ := iThen_ok h
  obtain ⟨q2, y, -, h⟩ := iThen_ok h
  obtain ⟨q3, z, -, h⟩ := iThen_ok h
  split at h
  · cases h
  · rename_i hxy
    obtain ⟨q4, first, -, h⟩ := iThen_ok h
    split at h
    · cases h
    · obtain ⟨q5, all, ha, h⟩ := iThen_ok h
      have hg := (iLens_got (by omega) ha).1
      split at h
      · cases h
      · rename_i hc
        cases h
        simp only [List.length_take, List.length_drop]
        exact ⟨by omega, by omega, by omega, by omega, Decidable.not_not.1 fun e => hc (.inr (.inl e)), Decidable.not_not.1 fun e => hc (.inr (.inr e))⟩
end Go.Proofs.YtibolmgijaploaaDoor

/- The reader's Bits: where so many bits are left, it tells them as a number and stands behind them. -/
namespace Go.Proofs.YtibolmgijaploaaDoor
set_option maxRecDepth 100000
open Go.RowKit

theorem piece_nat (ba bt b off len cap pos wanted : Nat) (wi : Int) (hwi : wi = wanted) (zs : List Int) (w : World)
    (ha : w.cell? ⟨ba, 0, none⟩ = some (.int .i64 (pos : Int))) (hf : w.frozen? ⟨ba, 0, none⟩ = false) (ht : w.cell? ⟨bt, 0, none⟩ = some (.slice (some ⟨b, off, none⟩) len cap))
    (hc : ∀ i, i < len → w.cell? ⟨b, off + i, none⟩ = some (.int .u8 (zs.getD i 0))) (hz : ∀ i, 0 ≤ zs.getD i 0 ∧ zs.getD i 0 ≤ 255) (hp1 : pos < len * 8) (hl : len * 8 ≤ 9223372036854775000) (hw0 : 1 ≤ wanted) (hw1 : wanted ≤ 24) :
    Calls Tryd.prog 61 #[.int .i64 wi, .pointer (some ⟨ba, 0, none⟩), .pointer (some ⟨bt, 0, none⟩)] w fun e w' => ∃ l : Nat, 1 ≤ l ∧ l ≤ wanted ∧ l ≤ 8 ∧ e = .returned (.tuple #[.int .i64 (bitsVal zs pos l), .int .i64 (l : Int)]) ∧ w' = w.setCell ⟨ba, 0, none⟩ (.int .i64 ((pos + l : Nat) : Int)) := by
  subst hwi
  have e8 : ((pos : Int) / 8).toNat = pos / 8 := by omega
  have hzz := hz (pos / 8)
  refine (piece_any ba bt b off len cap pos wanted (zs.getD (pos / 8) 0) w ha hf ht (by rw [e8]; exact hc _ (by omega)) (by omega) (by omega) hl (by omega) (by omega) hzz.1 hzz.2).mono ?_
  rintro e w' ⟨rfl, rfl⟩
  have em : min (8 - (pos : Int) % 8) wanted = ((min (8 - pos % 8) wanted : Nat) : Int) := by omega
  refine ⟨min (8 - pos % 8) wanted, by omega, by omega, by omega, ?_, ?_⟩
  · rw [em, bitsVal_byte zs pos _ (by omega), show ((pos : Int) % 8).toNat = pos % 8 by omega, Int.toNat_natCast]
  · rw [em]; rfl

theorem bits_join (zs : List Int) (p k l : Nat) (h : k + l ≤ 24) : bits .or .i64 (bitsVal zs p k) (wrap64 (bitsVal zs (p + k) l * 2 ^ k)) = bitsVal zs p (k + l) := by
  have h1 := bitsVal_bd zs p k
  have h2 := bitsVal_bd zs (p + k) l
  have hp := pow_pos' k
  have h3 : bitsVal zs (p + k) l * 2 ^ k < 2 ^ (k + l) := by
    rw [Nat.add_comm k l, Int.pow_add]
    exact Int.mul_lt_mul_of_pos_right h2.2 (show (0 : Int) < 2 ^ k by omega)
  have h4 : 0 ≤ bitsVal zs (p + k) l * 2 ^ k := Int.mul_nonneg h2.1 (by omega)
  have h5 := @pow_le_24 (k + l) h
  rw [IntWalk.wrap64_in _ ⟨by omega, by omega⟩, or_add _ _ k h1.1 h1.2 h2.1 (by omega) (by omega), bitsVal_add]

set_option maxHeartbeats 1000000 in
theorem bits_yes (B br : Nat) (a : Option Addr) (len cap p n : Nat) (zs : List Int) (w : World) (hb : w.heap[br]? = some (.cells #[.slice a len cap, .int .i64 (p : Int)] 54 (0, 0)))
    (ht : Text B w a len zs) (hl : len * 8 ≤ 9223372036854775000) (hn : n ≤ 24) (hp : p + n ≤ len * 8) :
    Calls Tryd.prog 31 #[.pointer (some ⟨br, 0, none⟩), .int .i64 n] w fun e w' => e = .returned (.tuple #[.int .i64 (bitsVal zs p n), .bool true]) ∧ w'.heap[br]? = some (.cells #[.slice a len cap, .int .i64 ((p + n : Nat) : Int)] 54 (0, 0)) ∧ Kept (fun k => k = br) w w' := by
  have c0 := cells_of hb 0
  have c1 := cells_of hb 1
  have hbr := lt_of_block hb
  simp at c0 c1
  go_enter Tryd.func31, Tryd.ntmps31
  go_wp2_with (first | (go_at_call 50; refine (fits_yes _ _ (by omega) (by omega)).mono ?_; rintro e w ⟨rfl, rfl⟩) | (go_at_call 14; refine (left_any br a len cap p _ (by assumption) (by assumption) (by omega) (by omega) (by omega)).mono ?_; rintro e w' ⟨rfl, q, rfl⟩))
  go_region_held3 (fun w' => w'.cell? ⟨br, 0, none⟩ = some (.slice a len cap) ∧ w'.cell? ⟨br, 1, none⟩ = some (.int .i64 (p : Int))) (go_keep) ((go_at_call 51; refine (pieces_any _ _ _ _ _).mono ?_; rintro e w' ⟨rfl, rfl⟩))
  all_goals go_wp2
  go_loopw [7, 8] (fun v i wr => ∃ k : Nat, k ≤ n ∧ i = .int .i64 k ∧ v = .int .i64 (bitsVal zs p k) ∧ wr.heap[w.heap.size]? = some (.cells #[.slice a len cap] 22 (0, 0)) ∧ wr.heap[w.heap.size + 1]? = some (.cells #[.int .i64 ((p + k : Nat) : Int)] 3 (0, 0)) ∧ Kept (fun _ => False) w wr)
    (fun _ i _ => n - (intOf i).toNat)
  case atStart => exact ⟨0, Nat.zero_le _, rfl, rfl, heap_new1 (w.drewN (q + 1)) _ _, heap_new2 (w.drewN (q + 1)) _ _, ((Kept.refl _ _).drewN _).alloc _ _ |>.alloc _ _⟩
  case round =>
    obtain ⟨k, hk, rfl, rfl, hT, hA, hK⟩ := hrel
    clear c0 c1
    have hbr' := hK.heap hb (fun h => h)
    have d0 := cells_of hbr' 0
    have d1 := cells_of hbr' 1
    have f1 := free_of hbr' 1
    simp at d0 d1
    by_cases hlt : k < n
    · obtain ⟨hz1, hz2, hz3⟩ := ht.kept hK (fun _ _ h => h)
      obtain ⟨b, off, hbB, rfl, hcell⟩ := hz3.resolve_left (by omega)
      have t0 := cell_of_one hT
      have a0 := cell_of_one hA
      have af := free_of_one hA
      have HH : Hid (∀ i, i < len → wr.cell? ⟨b, off + i, none⟩ = some (.int .u8 (zs.getD i 0))) := hcell
      have HZ : Hid (∀ i, 0 ≤ zs.getD i 0 ∧ zs.getD i 0 ≤ 255) := hz2
      clear hcell hz2 hz3
      go_wp2_with (go_at_call 61; refine (piece_nat _ _ b off len cap (p + k) (n - k) _ (by omega) zs _ a0 af t0 HH.out HZ.out (by omega) hl (by omega) (by omega)).mono ?_; rintro e w' ⟨l, hl1, hl2, hl3, rfl, rfl⟩)
      go_roundw
      case rel =>
        refine ⟨k + l, by omega, by go_num, ?_, ?_, ?_, ?_⟩
        · exact congrArg (Value.int .i64) (bits_join zs p k l (by omega))
        · rw [set_other (by omega)]; exact hT
        · rw [one_setCell hA, show ((p : Int) + k + l) = ((p + (k + l) : Nat) : Int) by omega]
        · exact hK.setCell (fun h => absurd (show w.heap.size + 1 < w.heap.size from h) (by omega)) _
      case measure => simp [intOf]; omega
    · have : k = n := by omega
      subst this
      go_wp2
      go_ret2
      refine ⟨rfl, ?_, ?_⟩
      · rw [set_of hbr']; rfl
      · exact Kept.setCell (M := fun k => k = br) (hK.mono (fun _ _ h => h.elim)) (fun _ => rfl) _
#print axioms bits_yes
end Go.Proofs.YtibolmgijaploaaDoor
