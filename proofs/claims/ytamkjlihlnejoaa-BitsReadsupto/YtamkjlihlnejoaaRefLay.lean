/- The reference's Lay and Fill: contracts. -/
import Derived.Test.YtamkjlihlnejoaaRefRow
namespace Go.Proofs.Ytamkjlihlnejoaa
open Go.RowKit

theorem lay_no (v : Value) (x n : Int) (w : World) (h : n < 0 ∨ 24 < n) :
    Calls Try.prog 33 #[v, .int .i64 x, .int .i64 n] w fun e w' => e = .returned v ∧ w' = w := by
  by_cases hn : n < 0
  · go_enter Try.func33, Try.ntmps33
    go_wp2
    go_ret
    exact ⟨rfl, rfl⟩
  · have h2 : 24 < n := by omega
    go_enter Try.func33, Try.ntmps33
    go_wp2
    go_ret
    exact ⟨rfl, rfl⟩

theorem own_empty (w : World) (base : Nat) (hb : base ≤ w.heap.size) : (w.alloc (.cells #[] 3)).ownsRow base 3 1 (.slice (some ⟨w.heap.size, 0, none⟩) 0 0) 0 [] := by
  have := World.ownsRow_lit (e := 3) (size := 1) (base := base) w #[] 0 hb (by unfold maxLen; omega) rfl
  simpa using this

/-- What stands in a row that is owned, as an append's source. -/
theorem src_of {w w' : World} {base g n cap : Nat} {L : List Int} (h : Owns w base (.slice (some ⟨g, 0, none⟩) n cap) L) (k : Kept (fun _ => False) w w') : ∀ j u, (L.map (Value.int .i64))[j]? = some u → w'.cell? ((⟨g, 0, none⟩ : Addr).add j) = some u := by
  intro j u hu
  obtain ⟨a, cp, hv, hc⟩ := h.form
  have hj : j < L.length := by
    rcases Nat.lt_or_ge j L.length with h' | h'
    · exact h'
    · simp [List.getElem?_eq_none (show (L.map (Value.int .i64)).length ≤ j by simpa using h')] at hu
  obtain ⟨g', hg', _, hlt, ha, hcell⟩ := hc (by omega)
  simp [Value.ownBlock] at hg'
  subst hg'
  have e : ((⟨g, 0, none⟩ : Addr).add j) = ⟨g, j, none⟩ := by unfold Addr.add; split <;> simp_all
  rw [e, k.cell (p := ⟨g, j, none⟩) hlt (fun h => h), hcell j hj]
  simp [hj] at hu
  rw [← hu]
  simp [List.getD, hj]

theorem ints_one (L : List Int) : ∀ u ∈ L.map (Value.int .i64), u.oneCell' = true := by
  intro u hu; simp at hu; obtain ⟨x, _, rfl⟩ := hu; rfl

set_option maxHeartbeats 1000000 in
theorem lay_yes (base : Nat) (v : Value) (L : List Int) (x : Int) (n : Nat) (w : World) (h : Owns w base v L) (hn : n ≤ 24) (hl : L.length ≤ 1000000000000) :
    Calls Try.prog 33 #[v, .int .i64 x, .int .i64 (n : Int)] w fun e w' => ∃ v', e = .returned v' ∧ Owns w' w.heap.size v' (L ++ bitsN x n) ∧ Below w.heap.size w w' := by
  obtain ⟨i0, hi, hz0, hz1', hz2'⟩ := info_parts Try.info3
  have HE : Hid ((w.alloc (.cells #[] 3)).ownsRow w.heap.size 3 1 (.slice (some ⟨w.heap.size, 0, none⟩) 0 0) 0 []) := own_empty w _ (Nat.le_refl _)
  have hform : ∃ a cap, v = .slice a L.length cap := by obtain ⟨a, cap, hv, _⟩ := h.form; exact ⟨a, cap, hv⟩
  obtain ⟨a, cap, rfl⟩ := hform
  have HV : Hid (∀ g, (Value.slice a L.length cap).ownBlock = some g → g < w.heap.size) := fun g hg => (ownsRow_lt h hg).2
  cases a
  case' none =>
    have hL : L = [] := by
      rcases h.2 with ⟨_, h2⟩ | ⟨g, _, _, hv, _⟩
      · exact List.eq_nil_of_length_eq_zero h2
      · simp at hv
    have hl0 : L.length = 0 := by rw [hL]; rfl
    have HN : Hid (L = []) := hL
    clear hL
    go_enter Try.func33, Try.ntmps33
    go_wp2_with fail
    have HO : Hid (Owns (w.alloc (.cells #[] 3)) w.heap.size (.slice (some ⟨w.heap.size, 0, none⟩) 0 0) L) := by rw [HN.out]; exact HE.out
    have HB : Hid (Below w.heap.size w (w.alloc (.cells #[] 3))) := (Below.refl _ _).alloc (Nat.le_refl _) _
    clear h HE HV hl0
  case' some ad =>
    obtain ⟨g, rfl⟩ : ∃ g, ad = ⟨g, 0, none⟩ := by
      rcases h.2 with ⟨hv, _⟩ | ⟨g, _, _, hv, _⟩
      · simp at hv
      · simp at hv; exact ⟨g, hv.1⟩
    have HS : Hid (∀ j u, (L.map (Value.int .i64))[j]? = some u → (w.alloc (.cells #[] 3)).cell? ((⟨g, 0, none⟩ : Addr).add j) = some u) := src_of h (Kept.alloc _ (Kept.refl _ w) _)
    have HI : Hid (∀ u ∈ L.map (Value.int .i64), u.oneCell' = true) := ints_one L
    obtain ⟨LL, hLL⟩ : ∃ LL, LL = L.map (Value.int .i64) := ⟨_, rfl⟩
    rw [← hLL] at HS HI
    have hll : LL.length = L.length * 1 := by rw [hLL]; simp
    have HL : Hid (LL = L.map (Value.int .i64)) := hLL
    clear h hLL
    go_enter Try.func33, Try.ntmps33
    go_wp2_with (at_builtin; refine wpList_append_own _ rfl (.tmp 16) (.tmp 17) 26 rfl w.heap.size 3 i0 (.int .i64 0) 1 8 Try.underlying26 hi hz0 hz1' hz2' rfl (by decide) _ 0 [] rfl HE.out ⟨g, 0, none⟩ L.length cap LL rfl hll HS.out HI.out (by unfold maxLen; omega) (by omega) (by simp) ?_; intro v1 w1 hown1 hgrow1 hnil1)
    have HO : Hid (Owns w1 w.heap.size v1 L) := by
      rw [HL.out] at hown1
      simpa [Owns, Hid] using hown1
    have HB : Hid (Below w.heap.size w w1) := ((Below.refl _ _).alloc (Nat.le_refl _) _).grown hgrow1 (by simp) (fun k e => by simp [Act.eval, Value.ownBlock] at e; omega)
    clear hown1 hgrow1 hnil1 HS HI HL HE HV hll
  all_goals
    go_loopw [7, 8] (fun v i wr => ∃ k : Nat, k ≤ n ∧ i = .int .i64 k ∧ Owns wr w.heap.size v (L ++ bitsN x k) ∧ Below w.heap.size w wr) (fun _ i _ => n - (intOf i).toNat)
    case atStart => exact ⟨0, Nat.zero_le _, rfl, by simpa [bitsN] using HO.out, HB.out⟩
    case round =>
      obtain ⟨k, hk, rfl, hown, hbel⟩ := hrel
      obtain ⟨M, hM⟩ : ∃ M, M = L ++ bitsN x k := ⟨_, rfl⟩
      rw [← hM] at hown
      have hMl : M.length ≤ 2000000000000 := by rw [hM]; simp [bitsN_length]; omega
      have HM : Hid (M = L ++ bitsN x k) := hM
      have HR : Hid (Owns wr w.heap.size u7 M) := hown
      have hsz := hbel.size
      clear hM hown
      by_cases hlt : k < n
      · go_wp2_with (first
          | (go_at_call 37; refine (bit_any _ _ _ (by omega) (by omega)).mono ?_; rintro e w' ⟨rfl, rfl⟩)
          | (at_builtin; refine wpList_append_own _ rfl _ _ 26 rfl w.heap.size 3 i0 (.int .i64 0) 1 8 Try.underlying26 hi hz0 hz1' hz2' rfl (by decide) _ _ _ rfl (World.ownsRow.alloc HR.out _) ⟨_, 0, none⟩ 1 1 [.int .i64 (x / 2 ^ k % 2)] rfl rfl (one_int _ _) (by intro u hu; simp at hu; subst hu; rfl) (by unfold maxLen; omega) (by omega) (by simp; omega) ?_; intro v' w1 hown' hgrow hnil))
        go_roundw
        case rel =>
          refine ⟨k + 1, by omega, by go_num, ?_, ?_⟩
          · have h1 := Owns.push hown'
            rw [HM.out, List.append_assoc] at h1
            exact h1
          · exact (hbel.alloc hsz _).grown hgrow (by simp; omega) (fun g e => (ownsRow_lt HR.out e).1)
        case measure => simp [intOf]; omega
      · have : k = n := by omega
        subst this
        go_wp2
        go_ret
        exact ⟨_, rfl, by rw [← HM.out]; exact HR.out, hbel⟩

/-- How many bits are missing up to a byte's end. -/
def pad (n : Nat) : Nat := (8 - n % 8) % 8

set_option maxHeartbeats 1000000 in
theorem fill_any (base : Nat) (v : Value) (L : List Int) (w : World) (h : Owns w base v L) (hl : L.length ≤ 1000000000000) :
    Calls Try.prog 35 #[v] w fun e w' => ∃ v', e = .returned v' ∧ Owns w' w.heap.size v' (L ++ bitsN 0 (pad L.length)) ∧ Below w.heap.size w w' := by
  obtain ⟨i0, hi, hz0, hz1', hz2'⟩ := info_parts Try.info3
  have HE : Hid ((w.alloc (.cells #[] 3)).ownsRow w.heap.size 3 1 (.slice (some ⟨w.heap.size, 0, none⟩) 0 0) 0 []) := own_empty w _ (Nat.le_refl _)
  have hform : ∃ a cap, v = .slice a L.length cap := by obtain ⟨a, cap, hv, _⟩ := h.form; exact ⟨a, cap, hv⟩
  obtain ⟨a, cap, rfl⟩ := hform
  have HV : Hid (∀ g, (Value.slice a L.length cap).ownBlock = some g → g < w.heap.size) := fun g hg => (ownsRow_lt h hg).2
  cases a
  case' none =>
    have hL : L = [] := by
      rcases h.2 with ⟨_, h2⟩ | ⟨g, _, _, hv, _⟩
      · exact List.eq_nil_of_length_eq_zero h2
      · simp at hv
    have hl0 : L.length = 0 := by rw [hL]; rfl
    have HN : Hid (L = []) := hL
    clear hL
    go_enter Try.func35, Try.ntmps35
    go_wp2_with fail
    have HO : Hid (Owns (w.alloc (.cells #[] 3)) w.heap.size (.slice (some ⟨w.heap.size, 0, none⟩) 0 0) L) := by rw [HN.out]; exact HE.out
    have HB : Hid (Below w.heap.size w (w.alloc (.cells #[] 3))) := (Below.refl _ _).alloc (Nat.le_refl _) _
    clear h HE HV hl0
  case' some ad =>
    obtain ⟨g, rfl⟩ : ∃ g, ad = ⟨g, 0, none⟩ := by
      rcases h.2 with ⟨hv, _⟩ | ⟨g, _, _, hv, _⟩
      · simp at hv
      · simp at hv; exact ⟨g, hv.1⟩
    have HS : Hid (∀ j u, (L.map (Value.int .i64))[j]? = some u → (w.alloc (.cells #[] 3)).cell? ((⟨g, 0, none⟩ : Addr).add j) = some u) := src_of h (Kept.alloc _ (Kept.refl _ w) _)
    have HI : Hid (∀ u ∈ L.map (Value.int .i64), u.oneCell' = true) := ints_one L
    obtain ⟨LL, hLL⟩ : ∃ LL, LL = L.map (Value.int .i64) := ⟨_, rfl⟩
    rw [← hLL] at HS HI
    have hll : LL.length = L.length * 1 := by rw [hLL]; simp
    have HL : Hid (LL = L.map (Value.int .i64)) := hLL
    clear h hLL
    go_enter Try.func35, Try.ntmps35
    go_wp2_with (at_builtin; refine wpList_append_own _ rfl (.tmp 4) (.tmp 5) 26 rfl w.heap.size 3 i0 (.int .i64 0) 1 8 Try.underlying26 hi hz0 hz1' hz2' rfl (by decide) _ 0 [] rfl HE.out ⟨g, 0, none⟩ L.length cap LL rfl hll HS.out HI.out (by unfold maxLen; omega) (by omega) (by simp) ?_; intro v1 w1 hown1 hgrow1 hnil1)
    have HO : Hid (Owns w1 w.heap.size v1 L) := by
      rw [HL.out] at hown1
      simpa [Owns, Hid] using hown1
    have HB : Hid (Below w.heap.size w w1) := ((Below.refl _ _).alloc (Nat.le_refl _) _).grown hgrow1 (by simp) (fun k e => by simp [Act.eval, Value.ownBlock] at e; omega)
    clear hown1 hgrow1 hnil1 HS HI HL HE HV hll
  all_goals
    have hp8 : pad L.length ≤ 7 := by unfold pad; omega
    go_loopg [3] (pad L.length) (fun gh v wr => gh ≤ pad L.length ∧ Owns wr w.heap.size v (L ++ bitsN 0 (pad L.length - gh)) ∧ Below w.heap.size w wr)
    case atStart => exact ⟨Nat.le_refl _, by simpa [bitsN] using HO.out, HB.out⟩
    case round =>
      obtain ⟨hk, hown, hbel⟩ := hrel
      obtain ⟨M, hM⟩ : ∃ M, M = L ++ bitsN 0 (pad L.length - gk) := ⟨_, rfl⟩
      rw [← hM] at hown
      have hMe : M.length = L.length + (pad L.length - gk) := by rw [hM]; simp [bitsN_length]
      have hMl : M.length ≤ 2000000000000 := by omega
      have hM8 : M.length % 8 = (8 - gk) % 8 := by rw [hMe]; unfold pad at hk ⊢; omega
      have HM : Hid (M = L ++ bitsN 0 (pad L.length - gk)) := hM
      obtain ⟨a, cp, hv, _⟩ := hown.form
      subst hv
      have HR : Hid (Owns wr w.heap.size (.slice a M.length cp) M) := hown
      have hsz := hbel.size
      have HE8 : Hid (M.length = L.length + (pad L.length - gk)) := hMe
      clear hM hown hMe
      by_cases hlt : 0 < gk
      · have ht : (((M.length : Int) % 8) != 0) = true := by simp; omega
        go_wp2_with (at_builtin; refine wpList_append_own _ rfl _ _ 26 rfl w.heap.size 3 i0 (.int .i64 0) 1 8 Try.underlying26 hi hz0 hz1' hz2' rfl (by decide) _ _ _ rfl (World.ownsRow.alloc HR.out _) ⟨_, 0, none⟩ 1 1 [.int .i64 0] rfl rfl (one_int _ _) (by intro u hu; simp at hu; subst hu; rfl) (by unfold maxLen; omega) (by omega) (by simp; omega) ?_; intro v' w1 hown' hgrow hnil)
        go_roundg (gk - 1)
        case measure => omega
        case rel =>
          refine ⟨by omega, ?_, ?_⟩
          · have h1 := Owns.push hown'
            rw [HM.out, List.append_assoc] at h1
            have e1 : pad L.length - (gk - 1) = (pad L.length - gk) + 1 := by omega
            rw [e1, bitsN]
            simpa using h1
          · exact (hbel.alloc hsz _).grown hgrow (by simp; omega) (fun g e => (ownsRow_lt HR.out e).1)
      · have h0 : gk = 0 := by omega
        subst h0
        have ht : (((M.length : Int) % 8) != 0) = false := by simp; omega
        go_wp2
        go_ret
        refine ⟨_, rfl, ?_, hbel⟩
        have h2 := HM.out
        simp only [Nat.sub_zero] at h2
        rw [← h2]
        exact HR.out
#print axioms fill_any
end Go.Proofs.Ytamkjlihlnejoaa
