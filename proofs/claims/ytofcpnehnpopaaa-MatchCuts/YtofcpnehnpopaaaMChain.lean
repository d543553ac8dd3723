/- Chains of places with the same slot: of no program. -/
import Derived.Test.YtofcpnehnpopaaaMTok
namespace Go.Proofs.Ytofcpnehnpopaaa
set_option maxRecDepth 100000
open Go Go.RowKit

/-- Where the last place of a slot is kept, and the one ahead of a place: one more than it is, 0 for none. -/
structure Chain (sl : Nat → Nat) (n : Nat) (la be : Nat → Nat) : Prop where
  la_le : ∀ s, la s ≤ n
  la_sl : ∀ s, 0 < la s → sl (la s - 1) = s
  la_no : ∀ s i, la s ≤ i → i < n → sl i ≠ s
  be_le : ∀ j, j < n → n ≤ j + 32768 → be (j % 32768) ≤ j
  be_sl : ∀ j, j < n → n ≤ j + 32768 → 0 < be (j % 32768) → sl (be (j % 32768) - 1) = sl j
  be_no : ∀ j i, j < n → n ≤ j + 32768 → be (j % 32768) ≤ i → i < j → sl i ≠ sl j
theorem Chain.start (sl : Nat → Nat) : Chain sl 0 (fun _ => 0) (fun _ => 0) :=
  ⟨fun _ => Nat.le_refl _, fun _ h => by omega, fun _ i _ h => by omega, fun j h => by omega, fun j h => by omega, fun j i h => by omega⟩
def up (f : Nat → Nat) (i v : Nat) : Nat → Nat := fun j => if j = i then v else f j
theorem up_same (f : Nat → Nat) (i v : Nat) : up f i v i = v := if_pos rfl
theorem up_other (f : Nat → Nat) {i j : Nat} (v : Nat) (h : j ≠ i) : up f i v j = f j := if_neg h
theorem Chain.step {sl : Nat → Nat} {n : Nat} {la be : Nat → Nat} (h : Chain sl n la be) : Chain sl (n + 1) (up la (sl n) (n + 1)) (up be (n % 32768) (la (sl n))) := by
  have hne : ∀ j, j < n → n + 1 ≤ j + 32768 → j % 32768 ≠ n % 32768 := fun j h1 h2 e => by omega
  refine ⟨fun s => ?_, fun s h0 => ?_, fun s i h1 h2 => ?_, fun j h1 h2 => ?_, fun j h1 h2 h0 => ?_, fun j i h1 h2 h3 h4 => ?_⟩
  · by_cases e : s = sl n
    · subst e; rw [up_same]; exact Nat.le_refl _
    · rw [up_other _ _ e]; have := h.la_le s; omega
  · by_cases e : s = sl n
    · subst e; rw [up_same]; rfl
    · rw [up_other _ _ e] at h0 ⊢; exact h.la_sl s h0
  · by_cases e : s = sl n
    · subst e; rw [up_same] at h1; omega
    · rw [up_other _ _ e] at h1
      by_cases e2 : i = n
      · subst e2; exact fun e3 => e e3.symm
      · exact h.la_no s i h1 (by omega)
  · by_cases e : j = n
    · subst e; rw [up_same]; exact h.la_le _
    · rw [up_other _ _ (hne j (by omega) h2)]; exact h.be_le j (by omega) (by omega)
  · by_cases e : j = n
    · subst e; rw [up_same] at h0 ⊢; exact h.la_sl _ h0
    · rw [up_other _ _ (hne j (by omega) h2)] at h0 ⊢; exact h.be_sl j (by omega) (by omega) h0
  · by_cases e : j = n
    · subst e; rw [up_same] at h3; exact h.la_no _ i h3 h4
    · rw [up_other _ _ (hne j (by omega) h2)] at h3; exact h.be_no j i (by omega) (by omega) h3 h4

/-- Three bytes' slot. -/
def sH (x y z : Int) : Nat := (bits .or .u32 (bits .or .u32 x (y * 256)) (z * 65536) * 2654435761 % 4294967296 / 262144).toNat
theorem sH_eq (x y z : Int) : bits .or .u32 (bits .or .u32 x (y * 256)) (z * 65536) * 2654435761 % 4294967296 / 262144 = (sH x y z : Int) := by unfold sH; omega
def sl (zs : List Int) (i : Nat) : Nat := sH (ln zs i) (ln zs (i + 1)) (ln zs (i + 2))
theorem sl_lt (zs : List Int) (i : Nat) : sl zs i < 16384 := by unfold sl sH; omega
theorem sl_same {zs : List Int} {i j : Nat} (h : ∀ k, k < 3 → ln zs (i + k) = ln zs (j + k)) : sl zs i = sl zs j := by
  unfold sl
  have h0 := h 0 (by omega)
  have h1 := h 1 (by omega)
  have h2 := h 2 (by omega)
  rw [Nat.add_zero, Nat.add_zero] at h0
  rw [h0, h1, h2]

/-- A search for a place p, so far: A is one more than the next place to look at. -/
structure Srch (zs : List Int) (p most : Nat) (k A L B : Nat) : Prop where
  le : A + k ≤ p
  sl_ : 0 < A → sl zs (A - 1) = sl zs p
  is : (L = 2 ∧ B = 0) ∨ Run zs p L B
  lm : L ≤ most
  seen : ∀ j, A ≤ j → j < p → sl zs j = sl zs p → ∀ n, n ≤ most → (∀ x, x < n → ln zs (j + x) = ln zs (p + x)) → n ≤ L
theorem Srch.start {zs : List Int} {p most : Nat} {la be : Nat → Nat} (h : Chain (sl zs) p la be) (h3 : 3 ≤ most) : Srch zs p most 0 (la (sl zs p)) 2 0 :=
  ⟨h.la_le _, fun h0 => h.la_sl _ h0, .inl ⟨rfl, rfl⟩, by omega, fun j h1 h2 h3 => absurd h3 (h.la_no _ j h1 h2)⟩
/-- The search ends. -/
theorem Srch.done {zs : List Int} {p most k A L B : Nat} (h : Srch zs p most k A L B) (hm : most = min (zs.length - p) 258) (h3 : 3 ≤ most) (he : A = 0 ∨ 32768 < p - (A - 1) ∨ L = most ∨ 64 ≤ k) : RunOk zs p (if B = 0 then 0 else L) B := by
  have hB : (B = 0 ∧ L = 2) ∨ (0 < B ∧ Run zs p L B) := by
    rcases h.is with ⟨h1, h2⟩ | h1
    · exact .inl ⟨h2, h1⟩
    · exact .inr ⟨h1.b1, h1⟩
  refine ⟨?_, ?_⟩
  · rcases hB with ⟨rfl, _⟩ | ⟨h0, hr⟩
    · exact .inl ⟨if_pos rfl, rfl⟩
    · rw [if_neg (by omega)]; exact .inr hr
  · intro b n b1 b2 b3 hn1 hn2 hs
    have hnm : n ≤ most := by omega
    have key : n ≤ 2 ∨ n ≤ L := by
      by_cases hn3 : n ≤ 2
      · exact .inl hn3
      · right
        by_cases hLm : L = most
        · omega
        · refine h.seen (p - b) ?_ (by omega) (sl_same fun k hk => hs k (by omega)) n hnm hs
          have := h.le
          omega
    rcases hB with ⟨rfl, rfl⟩ | ⟨h0, hr⟩
    · left; omega
    · rw [if_neg (by omega)]; exact key
/-- A place is looked at, and then the one ahead of it. -/
theorem Srch.next {zs : List Int} {p most k A L B : Nat} {la be : Nat → Nat} (h : Srch zs p most k A L B) (hc : Chain (sl zs) p la be) (h0 : 0 < A) (hw : p - (A - 1) ≤ 32768) {L2 B2 : Nat} (hle : L ≤ L2) (hlm : L2 ≤ most)
    (his : (L2 = 2 ∧ B2 = 0) ∨ Run zs p L2 B2) (hcm : ∀ n, n ≤ most → (∀ x, x < n → ln zs (A - 1 + x) = ln zs (p + x)) → n ≤ L2) : Srch zs p most (k + 1) (be ((A - 1) % 32768)) L2 B2 := by
  have hl := h.le
  have h1 := hc.be_le (A - 1) (by omega) (by omega)
  refine ⟨by omega, fun h2 => ?_, his, hlm, fun j j1 j2 j3 n n1 n2 => ?_⟩
  · rw [hc.be_sl (A - 1) (by omega) (by omega) h2, h.sl_ h0]
  · by_cases e : A ≤ j
    · have := h.seen j e j2 j3 n n1 n2; omega
    · by_cases e2 : j = A - 1
      · subst e2; exact hcm n n1 n2
      · exact absurd (j3.trans (h.sl_ h0).symm) (hc.be_no (A - 1) j (by omega) (by omega) j1 (by omega))
/-- A longer run was found. -/
theorem Srch.found {zs : List Int} {p most k A L B n : Nat} (h : Srch zs p most k A L B) (h0 : 0 < A) (hw : p - (A - 1) ≤ 32768) (hm : most = min (zs.length - p) 258) (hp : p ≤ zs.length) (hn : n ≤ most) (hs : ∀ x, x < n → ln zs (A - 1 + x) = ln zs (p + x)) (hl : L < n) : Run zs p n (p - (A - 1)) := by
  have h1 := h.le
  have h2 : 2 ≤ L := by
    rcases h.is with h2 | h2
    · omega
    · have := h2.l3; omega
  exact ⟨by omega, by omega, by omega, by omega, by omega, by omega, fun k hk => by rw [show p - (p - (A - 1)) + k = A - 1 + k by omega]; exact hs k hk⟩
end Go.Proofs.Ytofcpnehnpopaaa
